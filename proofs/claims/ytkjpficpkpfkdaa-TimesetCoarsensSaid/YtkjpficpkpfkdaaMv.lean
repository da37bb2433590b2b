/- The program's move. -/
import Derived.Test.YtkjpficpkpfkdaaRn
namespace Go.Proofs.Ytkjpficpkpfkdaa
open Go.ChangeShapes Go.WideShapes Go.ChangeAt Go.RowKit Ts

/-- What move has joined, when so many intervals are moved. -/
def mvk (f t : Int) (L : List Iv) (j : Nat) : List Iv := (moved f t (L.take j)).foldl jn []
theorem mvk_succ (f t : Int) (L : List Iv) (j : Nat) (h : j < L.length) : mvk f t L (j + 1) = jn (mvk f t L j) (L[j].1 + f, L[j].2 + t) := by
  unfold mvk moved
  rw [take_snoc L j h, List.map_append, List.foldl_append]; rfl
theorem mvk_all (f t : Int) (L : List Iv) : mvk f t L L.length = grown f t L := by unfold mvk grown; rw [List.take_length]
theorem mvk_len (f t : Int) (L : List Iv) (j : Nat) : (mvk f t L j).length ≤ j := by
  unfold mvk
  have h := foldl_jn_len (moved f t (L.take j)) []
  have h2 : (moved f t (L.take j)).length ≤ j := by unfold moved; rw [List.length_map, List.length_take]; omega
  simp only [List.length_nil] at h
  omega
theorem grown_len (f t : Int) (L : List Iv) : (grown f t L).length ≤ L.length := by rw [← mvk_all]; exact mvk_len f t L _
def mvN (w' : World) (e : Ending) (G : List Iv) : Prop := (allIn G = true ∧ ∃ r, e = .returned (.tuple #[r, .int .i64 0]) ∧ Sl w' r G) ∨ (allIn G = false ∧ e = .returned (.tuple #[.slice none 0 0, .int .i64 2]))
set_option maxRecDepth 100000 in
set_option maxHeartbeats 2000000 in
theorem move_any {v : Value} {L : List Iv} (f t : Int) (hf : -5000000000000000 ≤ f ∧ f ≤ 5000000000000000) (ht : -5000000000000000 ≤ t ∧ t ≤ 5000000000000000) (hbd : ∀ x ∈ L, (-5000000000000000 ≤ x.1 ∧ x.1 ≤ 5000000000000000) ∧ (-5000000000000000 ≤ x.2 ∧ x.2 ≤ 5000000000000000)) (hl : L.length ≤ 1000) (w : World) (hv : Sl w v L) :
    Calls Try.prog 66 #[v, .int .i64 f, .int .i64 t] w fun e w' => mvN w' e (grown f t L) ∧ Below w.heap.size w w' := by
  obtain ⟨A, c, rfl, _, _, _, hR⟩ := hv
  have HR := Lib.hid hR
  have HBd := Lib.hid hbd
  have HAll := Lib.hid (mvk_all f t L)
  clear hR hbd
  go_enter Try.func66, Try.ntmps66
  go_wp2_with fail
  go_loopw [8, 13] (fun u iv wr => ∃ j : Nat, j ≤ L.length ∧ iv = .int .i64 (j : Int) ∧ Hid (wr.ownsRow w.heap.size 25 2 u (mvk f t L j).length (ivCells (mvk f t L j))) ∧ Hid (Below w.heap.size w wr)) (fun _ iv _ => L.length - (intOf iv).toNat)
  case atStart => exact ⟨0, Nat.zero_le _, rfl, Lib.hid ⟨rfl, Or.inl ⟨rfl, rfl⟩⟩, Lib.hid (Below.refl _ _)⟩
  case round =>
    obtain ⟨j, hj, rfl, HOj, HB⟩ := hrel
    by_cases hlt : j < L.length
    · obtain ⟨b, off, rfl, hb, h0, h1⟩ := iv_at (HR.out.below HB.out) j hlt
      have hs := mvk_succ f t L j hlt
      have hjl := mvk_len f t L j
      have hbx := HBd.out _ (List.getElem_mem hlt)
      obtain ⟨x, hx⟩ : ∃ x, x = L[j] := ⟨_, rfl⟩
      rw [← hx] at h0 h1 hs hbx
      clear hx
      obtain ⟨x1, x2⟩ := x
      dsimp only at h0 h1 hs hbx
      have E := Lib.hid hs
      obtain ⟨J, hJ⟩ : ∃ J, J = mvk f t L j := ⟨_, rfl⟩
      rw [← hJ] at HOj E hjl
      have hjI : (j : Int) < (L.length : Int) := by omega
      have hj0 : (0 : Int) ≤ (j : Int) := by omega
      have hw1 : IntKind.i64.wrap ((j : Int) + 1) = (j : Int) + 1 := by simp only [IntKind.wrap_i64]; omega
      have hw2 : IntKind.i64.wrap (x1 + f) = x1 + f := by simp only [IntKind.wrap_i64]; omega
      have hw3 : IntKind.i64.wrap (x2 + t) = x2 + t := by simp only [IntKind.wrap_i64]; omega
      have hbr : b < wr.heap.size := by have := HB.out.size; omega
      have hA3 : Below wr.heap.size wr (wr.alloc (.cells #[.int .i64 x1, .int .i64 x2] 25)) := (Below.refl _ _).alloc (Nat.le_refl _) _
      have Hjn := Lib.hid (join_any w.heap.size u8 J (by omega) (x1 + f) (x2 + t) (wr.alloc (.cells #[.int .i64 x1, .int .i64 x2] 25)) (HOj.out.alloc _) (by have := HB.out.size; simp; omega))
      have HA3 := Lib.hid (HB.out.trans (hA3.mono HB.out.size))
      clear hJ hA3 hs hbx
      go_wp2_with fail
      refine Hjn.out.mono ?_
      rintro e w4 ⟨v4, rfl, hown4, hg4⟩
      have HO4 := Lib.hid hown4
      have HB4 := Lib.hid (below_grownk (B := w.heap.size) (a := w) HA3.out (HOj.out.alloc _) hg4 (Nat.le_refl _) (Nat.le_refl _))
      clear hown4 hg4
      go_wp2_with fail
      go_roundw
      case rel => exact ⟨j + 1, by omega, by go_num, by rw [E.out]; exact HO4, HB4⟩
      case measure => simp [intOf] <;> omega
    · obtain rfl : j = L.length := by omega
      rw [HAll.out] at HOj
      have hgl := grown_len f t L
      obtain ⟨G, hG⟩ : ∃ G, G = grown f t L := ⟨_, rfl⟩
      have HG := Lib.hid hG
      rw [← hG] at HOj hgl
      have hS := sl_own HOj.out
      obtain ⟨B, d, rfl, g1, g2, g3, hRB⟩ := hS
      have H1 := Lib.hid (all_in_range B d G (by omega) wr hRB)
      have HS : Hid (Sl wr (.slice B G.length d) G) := Lib.hid ⟨B, d, rfl, g1, g2, g3, hRB⟩
      clear g1 g2 g3 hRB hG
      cases hin : allIn G with
      | true =>
        rw [hin] at H1
        have HI := Lib.hid hin
        clear hin
        go_wp2_with fail
        refine H1.out.mono ?_
        rintro e w2 ⟨rfl, hb⟩
        have HB2 := Lib.hid (HB.out.trans (hb.mono HB.out.size))
        have HS2 := Lib.hid (HS.out.below hb)
        clear hb
        go_wp2_with fail
        go_ret2
        rw [← HG.out]
        exact ⟨.inl ⟨HI.out, _, rfl, HS2.out⟩, HB2.out⟩
      | false =>
        rw [hin] at H1
        have HI := Lib.hid hin
        clear hin
        go_wp2_with fail
        refine H1.out.mono ?_
        rintro e w2 ⟨rfl, hb⟩
        have HB2 := Lib.hid (HB.out.trans (hb.mono HB.out.size))
        clear hb
        go_wp2_with fail
        go_ret2
        rw [← HG.out]
        exact ⟨.inr ⟨HI.out, rfl⟩, HB2.out⟩
end Go.Proofs.Ytkjpficpkpfkdaa
