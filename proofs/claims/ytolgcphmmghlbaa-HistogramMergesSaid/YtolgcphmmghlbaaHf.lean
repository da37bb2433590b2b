/- Of: its walk. -/
import Derived.Test.YtolgcphmmghlbaaHe
namespace Go.Proofs.Ytolgcphmmghlbaa
open Go.ChangeShapes Go.WideShapes Go.ChangeAt Go.RowKit

/-- A value of a histogram. -/
def Vl (x : Int) : Prop := 0 ≤ x ∧ x ≤ 1099511627776
instance (x : Int) : Decidable (Vl x) := by unfold Vl; infer_instance
/-- The counts of the first j values. -/
def cvN (L : List Int) : Nat → List Int
  | 0 => List.replicate 305 0
  | j + 1 => (cvN L j).set (ix (L.getD j 0).toNat) ((cvN L j).getD (ix (L.getD j 0).toNat) 0 + 1)
theorem rep_get (n i : Nat) : (List.replicate n (0 : Int)).getD i 0 = 0 := by
  by_cases h : i < n
  · simp [List.getD, h]
  · simp [List.getD, h]
theorem cvN_len (L : List Int) (j : Nat) : (cvN L j).length = 305 := by
  induction j with
  | zero => exact List.length_replicate
  | succ j ih => show (List.set _ _ _).length = _; rw [List.length_set, ih]
theorem getD_set_int (l : List Int) (i k : Nat) (x : Int) : (l.set i x).getD k 0 = if i = k ∧ i < l.length then x else l.getD k 0 := by
  by_cases h : i = k
  · subst h
    by_cases hl : i < l.length
    · simp [List.getD, hl]
    · simp [List.getD, hl]
  · rw [if_neg (fun h2 => h h2.1)]
    simp [List.getD, List.getElem?_set_ne h]
theorem cvN_bd (L : List Int) (j : Nat) : ∀ i, 0 ≤ (cvN L j).getD i 0 ∧ (cvN L j).getD i 0 ≤ (j : Int) := by
  induction j with
  | zero =>
    intro i
    have e : (cvN L 0).getD i 0 = 0 := rep_get 305 i
    rw [e]; omega
  | succ j ih =>
    intro i
    show 0 ≤ (List.set _ _ _).getD i 0 ∧ (List.set _ _ _).getD i 0 ≤ _
    rw [getD_set_int]
    have h1 := ih i
    have h2 := ih (ix (L.getD j 0).toNat)
    split <;> omega
set_option maxRecDepth 100000 in
set_option maxHeartbeats 4000000 in
theorem of_ok (A : Option Addr) (c : Nat) (L : List Int) (hl : L.length ≤ 1000000) (hV : ∀ x ∈ L, Vl x) (w : World) (hR : Rd (Value.int .i64) w A L) :
    Calls Try.prog 20 #[.slice A L.length c] w fun e w' => (∃ v, e = .returned (.tuple #[.agg #[v], .int .i64 0]) ∧ w'.ownsRow w.heap.size 66 2 v (bkN (cvN L L.length) 305).length (ivCells (bkN (cvN L L.length) 305))) ∧ Below w.heap.size w w' := by
  have hd : decide (1048576 < L.length) = false := by simp; omega
  have hz : ∀ W, (zeroValue 68).run Try.prog W = .ok (.agg (List.replicate 305 (.int .i64 0)).toArray) W := fun W => by kernel_rfl
  have HR := Lib.hid hR
  have HV := Lib.hid hV
  have HBd := Lib.hid (cvN_bd L)
  have HLn := Lib.hid (cvN_len L)
  have HS : Hid (∀ j, cvN L (j + 1) = (cvN L j).set (ix (L.getD j 0).toNat) ((cvN L j).getD (ix (L.getD j 0).toNat) 0 + 1)) := Lib.hid (fun _ => rfl)
  have HZ0 : Hid ((List.replicate 305 (Value.int .i64 0)).toArray = ((cvN L 0).map (Value.int .i64)).toArray) := Lib.hid (by show _ = ((List.replicate 305 (0 : Int)).map (Value.int .i64)).toArray; rw [List.map_replicate])
  obtain ⟨Z, hZ⟩ : ∃ Z : Array Value, Z = (List.replicate 305 (.int .i64 0)).toArray := ⟨_, rfl⟩
  rw [← hZ] at hz HZ0
  obtain ⟨B, hBk⟩ : ∃ B, B = bkN (cvN L L.length) 305 := ⟨_, rfl⟩
  rw [← hBk]
  have HBk := Lib.hid hBk
  clear hR hV hZ hBk
  go_enter Try.func20, Try.ntmps20
  go_wp2_with fail
  clear hz
  have HB0 : Hid (Below w.heap.size w ((w.alloc (.cells #[.slice none 0 0] 33)).alloc (.cells Z 68))) := Lib.hid (((Below.refl _ _).alloc (Nat.le_refl _) _).alloc (by simp) _)
  have HG0 := Lib.hid (blk_under w (.cells #[.slice none 0 0] 33) (.cells Z 68))
  have HG1 := Lib.hid (blk_over w (.cells #[.slice none 0 0] 33) (.cells Z 68))
  go_loopw [15] (fun iv wr => ∃ j : Nat, j ≤ L.length ∧ iv = .int .i64 (j : Int) ∧ Hid (wr.heap[w.heap.size]? = some (.cells #[.slice none 0 0] 33 (0, 0))) ∧ Hid (wr.heap[w.heap.size + 1]? = some (.cells ((cvN L j).map (Value.int .i64)).toArray 68 (0, 0))) ∧ Hid (Below w.heap.size w wr)) (fun iv _ => L.length - (intOf iv).toNat)
  case atStart => exact ⟨0, Nat.zero_le _, rfl, HG0, by rw [← HZ0.out]; exact HG1, HB0⟩
  case round =>
    obtain ⟨j, hj, rfl, HK, HC, HB⟩ := hrel
    have hsz := HB.out.size
    have hlt1 : w.heap.size + 1 < wr.heap.size := (Array.getElem?_eq_some_iff.1 HC.out).1
    by_cases hlt : j < L.length
    · obtain ⟨b, off, rfl, hb, h0⟩ := int_at (HR.out.below HB.out) j hlt
      have hv := HV.out _ (List.getElem_mem hlt)
      have hx : L.getD j 0 = L[j] := by simp [List.getD, List.getElem?_eq_getElem hlt]
      have hS := HS.out j
      rw [hx] at hS
      obtain ⟨x, hxe⟩ : ∃ x, x = L[j] := ⟨_, rfl⟩
      rw [← hxe] at h0 hv hS
      obtain ⟨n, hn⟩ : ∃ n : Nat, x = (n : Int) := ⟨x.toNat, by have := hv.1; omega⟩
      have hn40 : n ≤ 1099511627776 := by have := hv.2; omega
      rw [hn, Int.toNat_natCast] at hS
      rw [hn] at h0
      have HI := Lib.hid (fun W => index_ok n hn40 W)
      have hi5 := ix_lt n hn40
      have hbd := HBd.out j (ix n)
      obtain ⟨i, hi⟩ : ∃ i, i = ix n := ⟨_, rfl⟩
      rw [← hi] at hS HI hi5 hbd
      have hln := HLn.out j
      have hcell : wr.cell? ⟨w.heap.size + 1, i, none⟩ = some (.int .i64 ((cvN L j).getD i 0)) := by
        rw [cell_of_row wr (w.heap.size + 1) i _ _ _ HC.out]
        simp [List.getD, List.getElem?_eq_getElem (show i < (cvN L j).length by omega)]
      have hfr : wr.frozen? ⟨w.heap.size + 1, i, none⟩ = false := by simp [World.frozen?, HC.out]
      have HSn := Lib.hid hS
      obtain ⟨y, hy⟩ : ∃ y, y = (cvN L j).getD i 0 := ⟨_, rfl⟩
      rw [← hy] at hbd hcell HSn
      have hjI : (j : Int) < (L.length : Int) := by omega
      have hj0 : (0 : Int) ≤ (j : Int) := by omega
      have hy2 : y ≤ 1000000 := by omega
      have hiI : (i : Int) < 305 := by omega
      have hw1 : IntKind.i64.wrap ((j : Int) + 1) = (j : Int) + 1 := by simp only [IntKind.wrap_i64]; omega
      clear hx hxe hv hn hS hi hy hln
      go_wp2_with fail
      refine (HI.out _).mono ?_
      rintro e w' ⟨rfl, rfl⟩
      go_wp2_with fail
      go_roundw
      case rel =>
        refine ⟨j + 1, by omega, by go_num, Lib.hid ?_, Lib.hid ?_, Lib.hid (HB.out.setCell (p := ⟨w.heap.size + 1, i, none⟩) (by show w.heap.size ≤ w.heap.size + 1; omega) _)⟩
        · exact (Below.heap_setCell wr _ _ _ (by show w.heap.size ≠ w.heap.size + 1; omega)).trans HK.out
        · rw [blk_set _ HC.out, HSn.out]
          simp [List.map_set]
      case measure => simp [intOf] <;> omega
    · obtain rfl : j = L.length := by omega
      have HH := Lib.hid (fun W => hist_any (cvN L L.length) (HLn.out L.length) (fun i => by have := HBd.out L.length i; omega) W)
      have hi : (Try.prog.info? 68).map (·.size) = some (((cvN L L.length).map (Value.int .i64)).toArray).size := by
        rw [show (((cvN L L.length).map (Value.int .i64)).toArray).size = 305 by simp [HLn.out]]
        kernel_rfl
      obtain ⟨ca, hca⟩ : ∃ ca : Array Value, ca = ((cvN L L.length).map (Value.int .i64)).toArray := ⟨_, rfl⟩
      rw [← hca] at HH hi HC
      have Hi := Lib.hid hi
      rw [← HBk.out] at HH
      clear hca hi
      go_wp2_with (with_reducible refine wpList_load_row rfl _ _ rfl (w.heap.size + 1) rfl 68 ca (0, 0) _ HC.out Try.underlying68 rfl Hi.out ?_)
      refine (HH.out _).mono ?_
      rintro e w3 ⟨⟨v, rfl, ho⟩, hb3⟩
      obtain ⟨A3, c3, rfl, _, _, _⟩ := rs_own ho
      have HB3 := Lib.hid (HB.out.trans (hb3.mono hsz))
      have HK3 := Lib.hid ((hb3.block w.heap.size (by omega)).trans HK.out)
      have HO3 : Hid (w3.ownsRow (w.heap.size + 1) 66 2 (.slice A3 B.length c3) B.length (ivCells B)) := Lib.hid (by
        refine ⟨ho.1, ?_⟩
        rcases ho.2 with h | ⟨g, cap, cur, hv, hb, h⟩
        · exact .inl h
        · exact .inr ⟨g, cap, cur, hv, by omega, h⟩)
      have c3' := cell_of_row w3 w.heap.size 0 _ _ _ HK3.out
      have hf3 : w3.frozen? ⟨w.heap.size, 0, none⟩ = false := by simp [World.frozen?, HK3.out]
      have hl3 : w.heap.size < w3.heap.size := (Array.getElem?_eq_some_iff.1 HK3.out).1
      clear ho hb3
      go_wp2_with fail
      refine bodyPost_ret (v := .tuple #[.agg #[.slice A3 B.length c3], .int .i64 0]) ?_ rfl ⟨⟨_, rfl, ?_⟩, ?_⟩
      · rw [results_cell_tmp1 rfl]; go_simp <;> rfl
      · have h := ownsRow_setCell_below HO3.out (a := ⟨w.heap.size, 0, none⟩) (by show w.heap.size < _; omega) (.slice A3 B.length c3)
        refine ⟨h.1, ?_⟩
        rcases h.2 with h | ⟨g, cap, cur, hv, hb, h⟩
        · exact .inl h
        · exact .inr ⟨g, cap, cur, hv, by omega, h⟩
      · exact HB3.out.setCell (p := ⟨w.heap.size, 0, none⟩) (Nat.le_refl _) _
end Go.Proofs.Ytolgcphmmghlbaa
