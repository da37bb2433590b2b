/- Not and Add at numbers out of range. -/
import Derived.Test.YtacgomhegjilgaaCa
namespace Go.Proofs.Ytacgomhegjilgaa
open Go.ChangeShapes Go.WideShapes Go.ChangeAt Go.RowKit Ts

set_option maxRecDepth 100000 in
set_option maxHeartbeats 1000000 in
theorem not_bad (A : Option Addr) (c n : Nat) (size : Int) (h : size < 0 ∨ 1048576 < size) (w : World) :
    Calls Try.prog 26 #[.agg #[.slice A n c], .int .i64 size] w fun e w' => e = .returned (.tuple #[.agg #[.slice none 0 0], .int .i64 2]) ∧ Below w.heap.size w w' := by
  have hR := range_any 0 size ((w.alloc (.cells #[.slice A n c] 26)).alloc (.cells #[.slice none 0 0] 26))
  rw [(rg_bad (a := 0) (b := size) (by omega)).1, (rg_bad (a := 0) (b := size) (by omega)).2] at hR
  have HR := Lib.hid hR
  have HB := Lib.hid (((Below.refl w.heap.size w).alloc (Nat.le_refl _) (.cells #[.slice A n c] 26)).alloc (by simp) (.cells #[.slice none 0 0] 26))
  have hz : ((w.alloc (.cells #[.slice A n c] 26)).alloc (.cells #[.slice none 0 0] 26)).heap.size = w.heap.size + 2 := by simp
  have hbk2 : ((w.alloc (.cells #[.slice A n c] 26)).alloc (.cells #[.slice none 0 0] 26)).heap[w.heap.size + 1]? = some (.cells #[.slice none 0 0] 26 (0, 0)) := blk_over w _ _
  have HK2 := Lib.hid hbk2
  clear hR hbk2
  go_enter Try.func26, Try.ntmps26
  go_wp2_with fail
  refine HR.out.mono ?_
  rintro e w1 ⟨⟨r, rfl, hr⟩, hb1⟩
  obtain ⟨A5, c5, rfl, _, _, _, _⟩ := hr
  have HM2 := Lib.hid ((hb1.block (w.heap.size + 1) (by rw [hz]; omega)).trans HK2.out)
  have HB1 := Lib.hid (HB.out.trans (hb1.mono HB.out.size))
  have hsz1 : w.heap.size + 2 ≤ w1.heap.size := by have := hb1.size; rw [hz] at this; exact this
  have HB2 := Lib.hid (HB1.out.alloc HB1.out.size (.cells #[.slice A5 0 c5] 26))
  have HN2 : Hid ((w1.alloc (.cells #[.slice A5 0 c5] 26)).heap[w.heap.size + 1]? = some (.cells #[.slice none 0 0] 26 (0, 0))) := Lib.hid ((Below.heap_alloc _ _ _ (by omega)).trans HM2.out)
  have hfr : (w1.alloc (.cells #[.slice A5 0 c5] 26)).frozen? ⟨w.heap.size + 1, 0, none⟩ = false := by simp only [World.frozen?, HN2.out]; rfl
  have hcl : (w1.alloc (.cells #[.slice A5 0 c5] 26)).cell? ⟨w.heap.size + 1, 0, none⟩ = some (.slice none 0 0) := by simp only [World.cell?, HN2.out]; rfl
  clear hb1
  go_wp2_with fail
  (try simp only [Exit.inBlock, Exit.then])
  have hcl2 : ((w1.alloc (.cells #[.slice A5 0 c5] 26)).setCell ⟨w.heap.size + 1, 0, none⟩ (.slice none 0 0)).cell? ⟨w.heap.size + 1, 0, none⟩ = some (.slice none 0 0) := by
    have hb2 := blk_set (off := 0) (.slice none 0 0) HN2.out
    simp only [World.cell?, hb2]; rfl
  refine bodyPost_ret (v := .tuple #[.agg #[.slice none 0 0], .int .i64 2]) ?_ rfl ⟨rfl, ?_⟩
  · rw [results_cell_tmp1 rfl]; go_simp <;> rfl
  · exact HB2.out.setCell (p := ⟨w.heap.size + 1, 0, none⟩) (by show w.heap.size ≤ w.heap.size + 1; omega) _
set_option maxRecDepth 100000 in
set_option maxHeartbeats 1000000 in
theorem add_bad (A : Option Addr) (c n : Nat) (k : Int) (hk : isR k = false) (w : World) :
    Calls Try.prog 32 #[.agg #[.slice A n c], .int .i64 k] w fun e w' => e = .returned (.tuple #[.agg #[.slice none 0 0], .int .i64 2]) ∧ Below w.heap.size w w' := by
  have hin : [k].any (fun x => !isR x) = true := by simp [hk]
  have hs2 : ((w.alloc (.cells #[.slice A n c] 26)).alloc (.cells #[.slice none 0 0] 26)).heap.size = w.heap.size + 1 + 1 := by simp
  have hz : (((w.alloc (.cells #[.slice A n c] 26)).alloc (.cells #[.slice none 0 0] 26)).alloc (.cells #[.int .i64 k] 3)).heap.size = w.heap.size + 3 := by simp
  have hbk3 := Deep.blk_alloc_new ((w.alloc (.cells #[.slice A n c] 26)).alloc (.cells #[.slice none 0 0] 26)) (.cells #[.int .i64 k] 3)
  rw [hs2] at hbk3
  have HR := Lib.hid (of_bad (some ⟨w.heap.size + 1 + 1, 0, none⟩) 1 [k] (by simp) hin (((w.alloc (.cells #[.slice A n c] 26)).alloc (.cells #[.slice none 0 0] 26)).alloc (.cells #[.int .i64 k] 3)) (rs_blk (cs := nC [k]) hbk3))
  have HB : Hid (Below w.heap.size w (((w.alloc (.cells #[.slice A n c] 26)).alloc (.cells #[.slice none 0 0] 26)).alloc (.cells #[.int .i64 k] 3))) := Lib.hid ((((Below.refl _ _).alloc (Nat.le_refl _) _).alloc (by simp) _).alloc (by simp; omega) _)
  have HK2 : Hid ((((w.alloc (.cells #[.slice A n c] 26)).alloc (.cells #[.slice none 0 0] 26)).alloc (.cells #[.int .i64 k] 3)).heap[w.heap.size + 1]? = some (.cells #[.slice none 0 0] 26 (0, 0))) := Lib.hid ((Below.heap_alloc _ _ _ (by rw [hs2]; omega)).trans (blk_over w _ _))
  clear hbk3 hin hs2
  go_enter Try.func32, Try.ntmps32
  go_wp2_with fail
  refine HR.out.mono ?_
  rintro e w1 ⟨rfl, hb1⟩
  have HM2 := Lib.hid ((hb1.block (w.heap.size + 1) (by rw [hz]; omega)).trans HK2.out)
  have HB1 := Lib.hid (HB.out.trans (hb1.mono HB.out.size))
  have hsz1 : w.heap.size + 3 ≤ w1.heap.size := by have := hb1.size; rw [hz] at this; exact this
  have HB2 := Lib.hid (HB1.out.alloc HB1.out.size (.cells #[.slice none 0 0] 26))
  have HN2 : Hid ((w1.alloc (.cells #[.slice none 0 0] 26)).heap[w.heap.size + 1]? = some (.cells #[.slice none 0 0] 26 (0, 0))) := Lib.hid ((Below.heap_alloc _ _ _ (by omega)).trans HM2.out)
  have hfr : (w1.alloc (.cells #[.slice none 0 0] 26)).frozen? ⟨w.heap.size + 1, 0, none⟩ = false := by simp only [World.frozen?, HN2.out]; rfl
  have hcl : (w1.alloc (.cells #[.slice none 0 0] 26)).cell? ⟨w.heap.size + 1, 0, none⟩ = some (.slice none 0 0) := by simp only [World.cell?, HN2.out]; rfl
  clear hb1
  go_wp2_with fail
  (try simp only [Exit.inBlock, Exit.then])
  have hcl2 : ((w1.alloc (.cells #[.slice none 0 0] 26)).setCell ⟨w.heap.size + 1, 0, none⟩ (.slice none 0 0)).cell? ⟨w.heap.size + 1, 0, none⟩ = some (.slice none 0 0) := by
    have hb2 := blk_set (off := 0) (.slice none 0 0) HN2.out
    simp only [World.cell?, hb2]; rfl
  refine bodyPost_ret (v := .tuple #[.agg #[.slice none 0 0], .int .i64 2]) ?_ rfl ⟨rfl, ?_⟩
  · rw [results_cell_tmp1 rfl]; go_simp <;> rfl
  · exact HB2.out.setCell (p := ⟨w.heap.size + 1, 0, none⟩) (by show w.heap.size ≤ w.heap.size + 1; omega) _
end Go.Proofs.Ytacgomhegjilgaa
