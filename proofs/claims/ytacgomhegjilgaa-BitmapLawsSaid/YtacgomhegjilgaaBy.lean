/- Not. -/
import Derived.Test.YtacgomhegjilgaaBv
namespace Go.Proofs.Ytacgomhegjilgaa
open Go.ChangeShapes Go.WideShapes Go.ChangeAt Go.RowKit Ts

/-- The rows below a size. -/
def allL (size : Int) : List Iv := if 0 < size then [(0, size)] else []
theorem all_rn {size : Int} (h : 0 ≤ size ∧ size ≤ 1048576) : rgV 0 size = rn (allL size) ∧ rgE 0 size = 0 := by
  have hn : ¬ ((0 : Int) < 0 ∨ (1048576 : Int) < 0 ∨ size < 0 ∨ 1048576 < size) := by omega
  unfold allL
  by_cases h0 : 0 < size
  · rw [if_pos h0]
    obtain ⟨a, b⟩ := rg_one hn h0
    exact ⟨b, a⟩
  · rw [if_neg h0]
    obtain ⟨a, b⟩ := rg_none hn (by omega)
    exact ⟨b, a⟩
theorem all_in (size n : Int) : In n (allL size) ↔ 0 ≤ n ∧ n < size := by
  unfold allL
  by_cases h0 : 0 < size
  · rw [if_pos h0]
    exact ⟨fun ⟨x, hx, h⟩ => by rw [List.mem_singleton.1 hx] at h; exact h, fun h => ⟨_, List.mem_singleton.2 rfl, h⟩⟩
  · rw [if_neg h0]
    exact ⟨fun ⟨x, hx, _⟩ => (by cases hx), fun h => by omega⟩
theorem all_bs {size : Int} (h : 0 ≤ size ∧ size ≤ 1048576) : Bs 90000 (allL size) := by
  refine ⟨?_, ?_, fun k hk => ?_⟩
  · unfold allL
    by_cases h0 : 0 < size
    · rw [if_pos h0]
      exact ⟨fun x hx => by rw [List.mem_singleton.1 hx]; exact h0, by simp⟩
    · rw [if_neg h0]
      exact ⟨fun x hx => (by cases hx), List.Pairwise.nil⟩
  · unfold allL
    split <;> simp
  · rw [isR_iff]
    have := (all_in size k).1 hk
    omega
set_option maxRecDepth 100000 in
set_option maxHeartbeats 2000000 in
theorem not_ok {v : Value} {B : List Iv} (hB : Bs 90000 B) (size : Int) (h : 0 ≤ size ∧ size ≤ 1048576) (w : World) (hv : Sl w v (rn B)) :
    Calls Try.prog 26 #[.agg #[v], .int .i64 size] w fun e w' => (∃ r N, e = .returned (.tuple #[.agg #[r], .int .i64 0]) ∧ w'.ownsRow w.heap.size 39 2 r (rn N).length (ivCells (rn N)) ∧ Nrm N ∧ ∀ n, In n N ↔ (has n (allL size) && !has n B) = true) ∧ Below w.heap.size w w' := by
  have HR := Lib.hid (fun W => range_any 0 size W)
  obtain ⟨e1, e2⟩ := all_rn h
  rw [e1, e2] at HR
  obtain ⟨PB, cB, rfl, b1, b2, b3, b4⟩ := hv
  have HS : Hid (Sl w (.slice PB (rn B).length cB) (rn B)) := Lib.hid ⟨_, _, rfl, b1, b2, b3, b4⟩
  rw [rn_len] at HS ⊢
  have hB2 : Below w.heap.size w ((w.alloc (.cells #[.slice PB B.length cB] 26)).alloc (.cells #[.slice none 0 0] 26)) := ((Below.refl _ _).alloc (Nat.le_refl _) _).alloc (by simp) _
  have HB2 := Lib.hid hB2
  have hbk1 : ((w.alloc (.cells #[.slice PB B.length cB] 26)).alloc (.cells #[.slice none 0 0] 26)).heap[w.heap.size]? = some (.cells #[.slice PB B.length cB] 26 (0, 0)) := blk_under w _ _
  have hbk2 : ((w.alloc (.cells #[.slice PB B.length cB] 26)).alloc (.cells #[.slice none 0 0] 26)).heap[w.heap.size + 1]? = some (.cells #[.slice none 0 0] 26 (0, 0)) := blk_over w _ _
  have HK1 := Lib.hid hbk1
  have HK2 := Lib.hid hbk2
  have hz : ((w.alloc (.cells #[.slice PB B.length cB] 26)).alloc (.cells #[.slice none 0 0] 26)).heap.size = w.heap.size + 2 := by simp
  clear e1 e2 b1 b2 b3 b4 hB2 hbk1 hbk2
  go_enter Try.func26, Try.ntmps26
  go_wp2_with fail
  refine (HR.out _).mono ?_
  rintro e w1 ⟨⟨r, rfl, hr⟩, hb1⟩
  have HSR := Lib.hid hr
  obtain ⟨A5, c5, rfl, _, _, _, _⟩ := hr
  have HM1 := Lib.hid ((hb1.block w.heap.size (by rw [hz]; omega)).trans HK1.out)
  have HM2 := Lib.hid ((hb1.block (w.heap.size + 1) (by rw [hz]; omega)).trans HK2.out)
  have hsz1 : w.heap.size + 2 ≤ w1.heap.size := by have := hb1.size; rw [hz] at this; exact this
  have HB1 := Lib.hid (HB2.out.trans (hb1.mono HB2.out.size))
  have hA2 : Below w1.heap.size w1 (w1.alloc (.cells #[.slice A5 (rn (allL size)).length c5] 26)) := (Below.refl _ _).alloc (Nat.le_refl _) _
  have HA2 := Lib.hid hA2
  have HN1 := Lib.hid ((hA2.block w.heap.size (by omega)).trans HM1.out)
  have HN2 := Lib.hid ((hA2.block (w.heap.size + 1) (by omega)).trans HM2.out)
  have HB2' := Lib.hid (HB1.out.trans (hA2.mono HB1.out.size))
  have HSB : Hid (Sl w (.slice PB B.length cB) (rn B)) := HS
  have H := Lib.hid (but_sl (all_bs h) hB _ (HSR.out.below hA2) (HSB.out.below HB2'.out))
  have hcb : (w1.alloc (.cells #[.slice A5 (rn (allL size)).length c5] 26)).cell? ⟨w.heap.size, 0, none⟩ = some (.slice PB B.length cB) := by simp only [World.cell?, HN1.out]; rfl
  have hzz : (w1.alloc (.cells #[.slice A5 (rn (allL size)).length c5] 26)).heap.size = w1.heap.size + 1 := by simp
  clear hb1 hA2
  go_wp2_with fail
  refine H.out.mono ?_
  rintro e w2 ⟨⟨r2, N, rfl, hown, hN⟩, hb2⟩
  have HO := Lib.hid hown
  have HN := Lib.hid hN
  obtain ⟨A6, c6, rfl, _, _, _⟩ := rs_own hown
  have HQ2 := Lib.hid ((hb2.block (w.heap.size + 1) (by rw [hzz]; omega)).trans HN2.out)
  have HB3 := Lib.hid (HB2'.out.trans (hb2.mono HB2'.out.size))
  have hfr : w2.frozen? ⟨w.heap.size + 1, 0, none⟩ = false := by simp [World.frozen?, HQ2.out]
  have hcl : w2.cell? ⟨w.heap.size + 1, 0, none⟩ = some (.slice none 0 0) := by simp [World.cell?, HQ2.out]
  clear hb2 hown hN hcb
  go_wp2_with fail
  (try simp only [Exit.inBlock, Exit.then])
  have hcl2 : (w2.setCell ⟨w.heap.size + 1, 0, none⟩ (.slice A6 (rn N).length c6)).cell? ⟨w.heap.size + 1, 0, none⟩ = some (.slice A6 (rn N).length c6) := by
    have hb2 := blk_set (off := 0) (.slice A6 (rn N).length c6) HQ2.out
    simp [World.cell?, hb2]
  refine bodyPost_ret (v := .tuple #[.agg #[.slice A6 (rn N).length c6], .int .i64 0]) ?_ rfl ⟨⟨_, N, rfl, ?_, HN.out⟩, ?_⟩
  · rw [results_cell_tmp1 rfl]; go_simp <;> rfl
  · exact own_base (HO.out.kept (grownBy_setCell' w2 (w.heap.size + 1) _) (.inr (row_ne_low HO.out (by rw [hzz]; omega)).symm)) (by rw [hzz]; omega)
  · exact HB3.out.setCell (p := ⟨w.heap.size + 1, 0, none⟩) (by show w.heap.size ≤ w.heap.size + 1; omega) _
end Go.Proofs.Ytacgomhegjilgaa
