/- histogram(), Of: their walks. -/
import Derived.Test.YtolgcphmmghlbaaHd
import Derived.Laws.Rows
import Derived.Laws.Tables
import Derived.Deep.DeepCutAuto
namespace Go.Proofs.Ytolgcphmmghlbaa
open Go.ChangeShapes Go.WideShapes Go.ChangeAt Go.RowKit

theorem info_bucket : (Try.prog.info? 66).map (fun i => (i.zero, i.size, i.bytes)) = some (some (.agg #[.int .i64 0, .int .i64 0]), 2, 16) := by kernel_rfl
theorem index_arr (cv : List Int) (hs : cv.length = 305) (n : Nat) (hn : n < 305) (w : World) :
    (Instr.index 68 (.agg (cv.map (Value.int .i64)).toArray) (.int .i64 (n : Int))).run Try.prog w = .ok (.int .i64 (cv.getD n 0)) w := by
  have hu : Try.prog.underlying 68 = some (.array 305 3) := by kernel_rfl
  simp [Instr.index, run_underlying hu, asIntOf, go_sem]
  rw [if_pos hn, List.getElem?_eq_getElem (show n < cv.length by omega)]
  rfl
/-- The buckets of the first n counts. -/
def bkN (cv : List Int) : Nat → List Iv
  | 0 => []
  | n + 1 => if cv.getD n 0 = 0 then bkN cv n else bkN cv n ++ [((n : Int), cv.getD n 0)]
theorem bkN_len (cv : List Int) (n : Nat) : (bkN cv n).length ≤ n := by
  induction n with
  | zero => exact Nat.le_refl _
  | succ n ih =>
    show (if _ then _ else _ : List Iv).length ≤ _
    split
    · omega
    · rw [List.length_append]; simp; omega
set_option maxRecDepth 100000 in
set_option maxHeartbeats 4000000 in
theorem hist_any (cv : List Int) (hs : cv.length = 305) (hc : ∀ i, -9223372036854775808 ≤ cv.getD i 0 ∧ cv.getD i 0 ≤ 9223372036854775807) (w : World) :
    Calls Try.prog 39 #[.agg (cv.map (Value.int .i64)).toArray] w fun e w' => (∃ v, e = .returned (.agg #[v]) ∧ w'.ownsRow w.heap.size 66 2 v (bkN cv 305).length (ivCells (bkN cv 305))) ∧ Below w.heap.size w w' := by
  obtain ⟨i0, hi0, hz0, hz1, hz2⟩ := info_parts2 info_bucket
  have Hi0 := Lib.hid hi0
  have Hz0 := Lib.hid hz0
  have Hz1 := Lib.hid hz1
  have Hz2 := Lib.hid hz2
  have HX := Lib.hid (fun n hn W => index_arr cv hs n hn W)
  have HS : Hid (∀ n, bkN cv (n + 1) = if cv.getD n 0 = 0 then bkN cv n else bkN cv n ++ [((n : Int), cv.getD n 0)]) := Lib.hid (fun _ => rfl)
  have HL := Lib.hid (bkN_len cv)
  have HC := Lib.hid hc
  obtain ⟨ca, hca⟩ : ∃ ca : Array Value, ca = (cv.map (Value.int .i64)).toArray := ⟨_, rfl⟩
  have hi : (Try.prog.info? 68).map (·.size) = some ca.size := by
    rw [hca, show ((cv.map (Value.int .i64)).toArray).size = 305 by simp [hs]]
    kernel_rfl
  rw [← hca] at HX ⊢
  have Hi := Lib.hid hi
  clear hi hca hc hi0 hz0 hz1 hz2
  have HB0 : Hid (Below w.heap.size w (((w.alloc (.cells ca 68)).alloc (.cells #[.slice none 0 0] 33)).alloc (.cells #[.slice none 0 0] 33))) := Lib.hid ((((Below.refl _ _).alloc (Nat.le_refl _) _).alloc (by simp) _).alloc (by simp <;> omega) _)
  have hg0 : (((w.alloc (.cells ca 68)).alloc (.cells #[.slice none 0 0] 33)).alloc (.cells #[.slice none 0 0] 33)).heap[w.heap.size]? = some (.cells ca 68 (0, 0)) := by
    rw [Below.heap_alloc _ _ _ (by simp <;> omega), Below.heap_alloc _ _ _ (by simp)]
    exact Deep.blk_alloc_new w _
  have HG1 : Hid ((((w.alloc (.cells ca 68)).alloc (.cells #[.slice none 0 0] 33)).alloc (.cells #[.slice none 0 0] 33)).heap[w.heap.size + 1]? = some (.cells #[.slice none 0 0] 33 (0, 0))) := Lib.hid (by
    rw [Below.heap_alloc _ _ _ (by simp)]
    have := Deep.blk_alloc_new (w.alloc (.cells ca 68)) (.cells #[.slice none 0 0] 33)
    rwa [World.size_alloc] at this)
  have HG2 : Hid ((((w.alloc (.cells ca 68)).alloc (.cells #[.slice none 0 0] 33)).alloc (.cells #[.slice none 0 0] 33)).heap[w.heap.size + 1 + 1]? = some (.cells #[.slice none 0 0] 33 (0, 0))) := Lib.hid (by
    have := Deep.blk_alloc_new ((w.alloc (.cells ca 68)).alloc (.cells #[.slice none 0 0] 33)) (.cells #[.slice none 0 0] 33)
    rwa [World.size_alloc, World.size_alloc] at this)
  go_enter Try.func39, Try.ntmps39
  go_wp2_with (with_reducible refine wpList_load_row rfl _ _ rfl w.heap.size rfl 68 ca (0, 0) _ hg0 Try.underlying68 rfl Hi.out ?_)
  clear hg0
  go_loopw [7] (fun iv wr => ∃ (n : Nat) (u : Value), n ≤ 305 ∧ iv = .int .i64 (n : Int) ∧ Hid (wr.heap[w.heap.size + 1 + 1]? = some (.cells #[u] 33 (0, 0))) ∧ Hid (wr.ownsRow (w.heap.size + 1 + 1 + 1) 66 2 u (bkN cv n).length (ivCells (bkN cv n))) ∧ Hid (wr.heap[w.heap.size + 1]? = some (.cells #[.slice none 0 0] 33 (0, 0))) ∧ Hid (Below w.heap.size w wr)) (fun iv _ => 305 - (intOf iv).toNat)
  case atStart => exact ⟨0, .slice none 0 0, Nat.zero_le _, rfl, HG2, Lib.hid ⟨by simp [bkN, ivCells], Or.inl ⟨rfl, rfl⟩⟩, HG1, HB0⟩
  case round =>
    obtain ⟨n, u, hn, rfl, HK, HO, HK1, HB⟩ := hrel
    have hsz := HB.out.size
    have hlt3 : w.heap.size + 1 + 1 < wr.heap.size := (Array.getElem?_eq_some_iff.1 HK.out).1
    have c0 := cell_of_row wr (w.heap.size + 1 + 1) 0 _ _ _ HK.out
    have hn0 : (0 : Int) ≤ (n : Int) := by omega
    by_cases hlt : n < 305
    · have hix := HX.out n hlt
      have hbd := HC.out n
      have hS := HS.out n
      have hL := HL.out n
      obtain ⟨x, hx⟩ : ∃ x, x = cv.getD n 0 := ⟨_, rfl⟩
      rw [← hx] at hix hbd hS
      clear hx
      have hnI : (n : Int) < 305 := by omega
      have hw1 : IntKind.i64.wrap ((n : Int) + 1) = (n : Int) + 1 := by simp only [IntKind.wrap_i64]; omega
      by_cases hx0 : x = 0
      · rw [if_pos hx0] at hS
        have HSn := Lib.hid hS
        subst hx0
        clear hS
        go_wp2_with fail
        clear hix
        go_roundw
        case rel => exact ⟨n + 1, u, by omega, by go_num, HK, by rw [HSn.out]; exact HO, HK1, HB⟩
        case measure => simp [intOf] <;> omega
      · rw [if_neg hx0] at hS
        have HSn := Lib.hid hS
        have hne : (x == 0) = false := by simpa using hx0
        clear hS hx0
        obtain ⟨k, hk⟩ : ∃ k, k = (bkN cv n).length := ⟨_, rfl⟩
        have HKl := Lib.hid hk
        rw [← hk] at HO hL
        clear hk
        obtain ⟨A, c, rfl, _, _, _⟩ := rs_own HO.out
        have HBa := Lib.hid (HB.out.alloc hsz (.cells #[.int .i64 (n : Int), .int .i64 x] 66))
        have HKa : Hid ((wr.alloc (.cells #[.int .i64 (n : Int), .int .i64 x] 66)).heap[w.heap.size + 1 + 1]? = some (.cells #[.slice A k c] 33 (0, 0))) := Lib.hid ((Below.heap_alloc _ _ _ hlt3).trans HK.out)
        have HK1a : Hid ((wr.alloc (.cells #[.int .i64 (n : Int), .int .i64 x] 66)).heap[w.heap.size + 1]? = some (.cells #[.slice none 0 0] 33 (0, 0))) := Lib.hid ((Below.heap_alloc _ _ _ (by omega)).trans HK1.out)
        go_wp2_with (at_builtin; refine wpList_append_agg rfl (.tmp 14) (.tmp 18) 30 rfl (w.heap.size + 1 + 1 + 1) 66 i0 _ 2 16 Try.underlying30 Hi0.out Hz0.out Hz1.out Hz2.out rfl (by decide) _ k _ rfl (World.ownsRow.alloc HO.out _) wr.heap.size 1 [.int .i64 (n : Int), .int .i64 x] 66 rfl (by simp [go_sem]) (Deep.blk_alloc_new wr _) (by simp [Value.oneCell']) (by omega) (by omega) (by simp <;> omega) ?_; intro v2 w2 hown2 hg2; obtain ⟨A2, c2, rfl, _, _, _⟩ := rs_own hown2; have HB2 := Lib.hid (below_grownk (B := w.heap.size) (a := w) HBa.out (World.ownsRow.alloc HO.out _) hg2 (by omega) (Nat.le_refl _)); have HK2 := Lib.hid ((hg2.block (w.heap.size + 1 + 1) (by simp <;> omega) (fun e => by have := (HO.out.lt _ e.symm).1; omega)).trans HKa.out); have HK12 := Lib.hid ((hg2.block (w.heap.size + 1) (by simp <;> omega) (fun e => by have := (HO.out.lt _ e.symm).1; omega)).trans HK1a.out); have c2' := cell_of_row w2 (w.heap.size + 1 + 1) 0 _ _ _ HK2.out; have hf2 : w2.frozen? ⟨w.heap.size + 1 + 1, 0, none⟩ = false := (by simp [World.frozen?, HK2.out]); have hl2 : w.heap.size + 1 + 1 < w2.heap.size := (Array.getElem?_eq_some_iff.1 HK2.out).1; have HO2 := Lib.hid hown2; clear hown2 hg2)
        clear hix
        go_roundw
        case rel =>
          refine ⟨n + 1, .slice A2 (k + 1) c2, by omega, by go_num, Lib.hid ?_, Lib.hid ?_, Lib.hid ?_, Lib.hid (HB2.out.setCell (p := ⟨w.heap.size + 1 + 1, 0, none⟩) (by show w.heap.size ≤ w.heap.size + 1 + 1; omega) _)⟩
          · rw [blk_set _ HK2.out]; rfl
          · rw [HSn.out, List.length_append, ← HKl.out, iv_snoc]
            exact ownsRow_setCell_below HO2.out (a := ⟨w.heap.size + 1 + 1, 0, none⟩) (by show w.heap.size + 1 + 1 < _; omega) _
          · exact (Below.heap_setCell w2 _ _ _ (by show w.heap.size + 1 ≠ w.heap.size + 1 + 1; omega)).trans HK12.out
        case measure => simp [intOf] <;> omega
    · obtain rfl : n = 305 := by omega
      have HOf : Hid (wr.ownsRow w.heap.size 66 2 u (bkN cv 305).length (ivCells (bkN cv 305))) := Lib.hid (by
        refine ⟨HO.out.1, ?_⟩
        rcases HO.out.2 with h | ⟨g, cap, cur, hv, hb, h⟩
        · exact .inl h
        · exact .inr ⟨g, cap, cur, hv, by omega, h⟩)
      obtain ⟨A, c, rfl, _, _, _⟩ := rs_own HO.out
      have c1 := cell_of_row wr (w.heap.size + 1) 0 _ _ _ HK1.out
      have hf1 : wr.frozen? ⟨w.heap.size + 1, 0, none⟩ = false := by simp [World.frozen?, HK1.out]
      have hlt1 : w.heap.size + 1 < wr.heap.size := (Array.getElem?_eq_some_iff.1 HK1.out).1
      go_wp2_with fail
      refine bodyPost_ret (v := .agg #[.slice A (bkN cv 305).length c]) ?_ rfl ⟨⟨_, rfl, ?_⟩, ?_⟩
      · rw [results_cell1 rfl]; go_simp <;> rfl
      · refine ⟨HOf.out.1, ?_⟩
        have h := ownsRow_setCell_below HO.out (a := ⟨w.heap.size + 1, 0, none⟩) (by show w.heap.size + 1 < _; omega) (.slice A (bkN cv 305).length c)
        rcases h.2 with h | ⟨g, cap, cur, hv, hb, h⟩
        · exact .inl h
        · exact .inr ⟨g, cap, cur, hv, by omega, h⟩
      · exact HB.out.setCell (p := ⟨w.heap.size + 1, 0, none⟩) (by show w.heap.size ≤ w.heap.size + 1; omega) _
end Go.Proofs.Ytolgcphmmghlbaa
