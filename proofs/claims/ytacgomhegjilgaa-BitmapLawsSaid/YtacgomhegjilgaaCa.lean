/- Of at rows out of range; Add. -/
import Derived.Test.YtacgomhegjilgaaBz
namespace Go.Proofs.Ytacgomhegjilgaa
open Go.ChangeShapes Go.WideShapes Go.ChangeAt Go.RowKit Ts

set_option maxRecDepth 100000 in
set_option maxHeartbeats 1000000 in
theorem of_bad (A : Option Addr) (c : Nat) (L : List Int) (hl : L.length ≤ 80000) (hin : L.any (fun x => !isR x) = true) (w : World) (hR : Rs w w.heap.size A (nC L)) :
    Calls Try.prog 14 #[.slice A L.length c] w fun e w' => e = .returned (.tuple #[.agg #[.slice none 0 0], .int .i64 2]) ∧ Below w.heap.size w w' := by
  have hA0 : Below w.heap.size w (w.alloc (.cells #[.slice none 0 0] 26)) := (Below.refl _ _).alloc (Nat.le_refl _) _
  have H1 := Lib.hid (contains_any A c L (by omega) _ ((hR.below hA0).more hA0.size))
  rw [hin] at H1
  have HB0 := Lib.hid hA0
  clear hR hin hA0
  go_enter Try.func14, Try.ntmps14
  go_wp2_with fail
  refine H1.out.mono ?_
  rintro e w1 ⟨rfl, hw⟩
  subst hw
  go_wp2_with fail
  (try simp only [Exit.inBlock, Exit.then])
  refine bodyPost_ret (v := .tuple #[.agg #[.slice none 0 0], .int .i64 2]) ?_ rfl ⟨rfl, ?_⟩
  · rw [results_cell_tmp1 rfl]; go_simp <;> rfl
  · exact HB0.out
set_option maxRecDepth 100000 in
set_option maxHeartbeats 2000000 in
theorem add_ok {v : Value} {B : List Iv} (hB : Bs 90000 B) (k : Int) (hk : isR k = true) (w : World) (hv : Sl w v (rn B)) :
    Calls Try.prog 32 #[.agg #[v], .int .i64 k] w fun e w' => (∃ r N, e = .returned (.tuple #[.agg #[r], .int .i64 0]) ∧ w'.ownsRow w.heap.size 39 2 r (rn N).length (ivCells (rn N)) ∧ Nrm N ∧ ∀ n, In n N ↔ (has n B || has n (setL [k])) = true) ∧ Below w.heap.size w w' := by
  obtain ⟨PB, cB, rfl, b1, b2, b3, b4⟩ := hv
  have HS : Hid (Sl w (.slice PB (rn B).length cB) (rn B)) := Lib.hid ⟨_, _, rfl, b1, b2, b3, b4⟩
  rw [rn_len] at HS ⊢
  have hin : [k].any (fun x => !isR x) = false := by simp [hk]
  have hB2 : Below w.heap.size w (((w.alloc (.cells #[.slice PB B.length cB] 26)).alloc (.cells #[.slice none 0 0] 26)).alloc (.cells #[.int .i64 k] 3)) := (((Below.refl _ _).alloc (Nat.le_refl _) _).alloc (by simp) _).alloc (by simp; omega) _
  have HB2 := Lib.hid hB2
  have hs2 : ((w.alloc (.cells #[.slice PB B.length cB] 26)).alloc (.cells #[.slice none 0 0] 26)).heap.size = w.heap.size + 1 + 1 := by simp
  have hz : (((w.alloc (.cells #[.slice PB B.length cB] 26)).alloc (.cells #[.slice none 0 0] 26)).alloc (.cells #[.int .i64 k] 3)).heap.size = w.heap.size + 3 := by simp
  have hbk1 : (((w.alloc (.cells #[.slice PB B.length cB] 26)).alloc (.cells #[.slice none 0 0] 26)).alloc (.cells #[.int .i64 k] 3)).heap[w.heap.size]? = some (.cells #[.slice PB B.length cB] 26 (0, 0)) := (Below.heap_alloc _ _ _ (by rw [hs2]; omega)).trans (blk_under w _ _)
  have hbk2 : (((w.alloc (.cells #[.slice PB B.length cB] 26)).alloc (.cells #[.slice none 0 0] 26)).alloc (.cells #[.int .i64 k] 3)).heap[w.heap.size + 1]? = some (.cells #[.slice none 0 0] 26 (0, 0)) := (Below.heap_alloc _ _ _ (by rw [hs2]; omega)).trans (blk_over w _ _)
  have hbk3 := Deep.blk_alloc_new ((w.alloc (.cells #[.slice PB B.length cB] 26)).alloc (.cells #[.slice none 0 0] 26)) (.cells #[.int .i64 k] 3)
  rw [hs2] at hbk3
  have HR := Lib.hid (of_any (some ⟨w.heap.size + 1 + 1, 0, none⟩) 1 [k] (by simp) hin (((w.alloc (.cells #[.slice PB B.length cB] 26)).alloc (.cells #[.slice none 0 0] 26)).alloc (.cells #[.int .i64 k] 3)) (rs_blk (cs := nC [k]) hbk3))
  have HK1 := Lib.hid hbk1
  have HK2 := Lib.hid hbk2
  have hset : Bs 90000 (setL [k]) := by
    obtain ⟨a, b⟩ := setL_spec [k]
    refine ⟨a, ?_, fun n hn => by have := (b n).1 hn; simp at this; rw [this]; exact hk⟩
    rw [← jf_all]
    have := jf_len (srI [k]) (srI [k]).length
    rw [srI_len] at this ⊢
    simp at this ⊢
    omega
  clear b1 b2 b3 b4 hB2 hbk1 hbk2 hbk3 hin hs2
  go_enter Try.func32, Try.ntmps32
  go_wp2_with fail
  refine HR.out.mono ?_
  rintro e w1 ⟨⟨r, rfl, hr⟩, hb1⟩
  have HSR := Lib.hid hr
  obtain ⟨A5, c5, rfl, _, _, _, _⟩ := hr
  have HM1 := Lib.hid ((hb1.block w.heap.size (by rw [hz]; omega)).trans HK1.out)
  have HM2 := Lib.hid ((hb1.block (w.heap.size + 1) (by rw [hz]; omega)).trans HK2.out)
  have hsz1 : w.heap.size + 3 ≤ w1.heap.size := by have := hb1.size; rw [hz] at this; exact this
  have HB1 := Lib.hid (HB2.out.trans (hb1.mono HB2.out.size))
  have hA2 : Below w1.heap.size w1 (w1.alloc (.cells #[.slice A5 (rn (setL [k])).length c5] 26)) := (Below.refl _ _).alloc (Nat.le_refl _) _
  have HN1 := Lib.hid ((hA2.block w.heap.size (by omega)).trans HM1.out)
  have HN2 := Lib.hid ((hA2.block (w.heap.size + 1) (by omega)).trans HM2.out)
  have HB2' := Lib.hid (HB1.out.trans (hA2.mono HB1.out.size))
  have H := Lib.hid (or_sl hB hset _ (HS.out.below HB2'.out) (HSR.out.below hA2))
  have hcb : (w1.alloc (.cells #[.slice A5 (rn (setL [k])).length c5] 26)).cell? ⟨w.heap.size, 0, none⟩ = some (.slice PB B.length cB) := by simp only [World.cell?, HN1.out]; rfl
  have hzz : (w1.alloc (.cells #[.slice A5 (rn (setL [k])).length c5] 26)).heap.size = w1.heap.size + 1 := by simp
  clear hb1 hA2
  go_wp2_with fail
  refine H.out.mono ?_
  rintro e w2 ⟨⟨r2, N, rfl, hown, hN⟩, hb2⟩
  have HO := Lib.hid hown
  have HN := Lib.hid hN
  obtain ⟨A6, c6, rfl, _, _, _⟩ := rs_own hown
  have HQ2 := Lib.hid ((hb2.block (w.heap.size + 1) (by rw [hzz]; omega)).trans HN2.out)
  have HB3 := Lib.hid (HB2'.out.trans (hb2.mono HB2'.out.size))
  have hfr : w2.frozen? ⟨w.heap.size + 1, 0, none⟩ = false := by simp [World.frozen?, HQ2.out]
  have hcl : w2.cell? ⟨w.heap.size + 1, 0, none⟩ = some (.slice none 0 0) := by simp [World.cell?, HQ2.out]
  clear hb2 hown hN hcb
  go_wp2_with fail
  (try simp only [Exit.inBlock, Exit.then])
  have hcl2 : (w2.setCell ⟨w.heap.size + 1, 0, none⟩ (.slice A6 (rn N).length c6)).cell? ⟨w.heap.size + 1, 0, none⟩ = some (.slice A6 (rn N).length c6) := by
    have hb2 := blk_set (off := 0) (.slice A6 (rn N).length c6) HQ2.out
    simp [World.cell?, hb2]
  refine bodyPost_ret (v := .tuple #[.agg #[.slice A6 (rn N).length c6], .int .i64 0]) ?_ rfl ⟨⟨_, N, rfl, ?_, HN.out⟩, ?_⟩
  · rw [results_cell_tmp1 rfl]; go_simp <;> rfl
  · exact own_base (HO.out.kept (grownBy_setCell' w2 (w.heap.size + 1) _) (.inr (row_ne_low HO.out (by rw [hzz]; omega)).symm)) (by rw [hzz]; omega)
  · exact HB3.out.setCell (p := ⟨w.heap.size + 1, 0, none⟩) (by show w.heap.size ≤ w.heap.size + 1; omega) _
end Go.Proofs.Ytacgomhegjilgaa
