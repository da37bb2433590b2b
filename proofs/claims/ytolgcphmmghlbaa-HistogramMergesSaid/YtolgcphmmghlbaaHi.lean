/- known. -/
import Derived.Test.YtolgcphmmghlbaaHh
namespace Go.Proofs.Ytolgcphmmghlbaa
open Go.ChangeShapes Go.WideShapes Go.ChangeAt Go.RowKit Pl

/-- The buckets of the example. -/
def exB : List Iv := [(3, 1), (16, 2), (36, 1)]
theorem ex_of : bkN (cvN [3, 17, 16, 100] 4) 305 = exB := by kernel_rfl
theorem ex_vb : VB exB := by unfold VB exB; decide
theorem rs_pairs (w : World) (L : List Iv) (t : TypeId) : Rs (w.alloc (.cells (ivCells L).toArray t)) (w.alloc (.cells (ivCells L).toArray t)).heap.size (some ⟨w.heap.size, 0, none⟩) (ivCells L) := fun j hj => by
  refine ⟨_, _, rfl, by simp, ?_⟩
  rw [cell_of_row _ _ _ _ _ _ (Deep.blk_alloc_new w _)]
  simp [hj]
set_option maxRecDepth 100000 in
set_option maxHeartbeats 4000000 in
theorem known_any (w : World) : Calls Try.prog 12 #[] w fun e w' => e = .returned (.bool true) ∧ Below w.heap.size w w' := by
  have hO := fun W A c (h : Rd (Value.int .i64) W A [3, 17, 16, 100]) => of_ok A c [3, 17, 16, 100] (by decide) (by decide) W h
  rw [show [(3 : Int), 17, 16, 100].length = 4 from rfl, ex_of] at hO
  have HO := Lib.hid hO
  have HR1 := Lib.hid (rd_new w [3, 17, 16, 100] 3)
  have HQ := Lib.hid (fun W A c (h : Rs W W.heap.size A (ivCells exB)) => quantile_ok A c exB (by decide) ex_vb 4 rfl (by omega) (by omega) 1 2 (by kernel_rfl) (by omega) 16 (by omega) (by kernel_rfl) (by decide) (by decide) W h)
  rw [show loN 16 = 16 by kernel_rfl, show hiN 16 = 17 by kernel_rfl] at HQ
  have HS := Lib.hid (fun W A c (h : Rs W W.heap.size A (ivCells exB)) => sum_any A c exB (by decide) ex_vb (by decide) W h)
  rw [show smS loN exB exB.length = 131 by kernel_rfl, show smS hiN exB exB.length = 140 by kernel_rfl] at HS
  have HA := Lib.hid (fun W A c (h : Rs W W.heap.size A (ivCells exB)) => atmost_any A c exB (by decide) ex_vb 16 W h)
  rw [show amS hiN exB 16 exB.length = 1 by kernel_rfl, show amS loN exB 16 exB.length = 3 by kernel_rfl] at HA
  have HSm := Lib.hid (fun W A c B d (h : Rs W W.heap.size A (ivCells exB)) (h2 : Rs W W.heap.size B (ivCells exB)) => same_any A B c d exB exB (by decide) (by decide) W h h2)
  rw [show (decide (exB = exB)) = true by simp] at HSm
  have HP := Lib.hid (fun W => rs_pairs W exB 62)
  rw [show exB.length = 3 from rfl] at HO HQ HS HA HSm
  go_enter Try.func12, Try.ntmps12
  go_wp2_with fail
  refine (HO.out _ _ 4 HR1.out).mono ?_
  rintro e w1 ⟨⟨v, rfl, ho⟩, hb⟩
  obtain ⟨A, c, rfl, _, hR, _⟩ := rs_own ho
  have HB1 : Hid (Below w.heap.size w w1) := Lib.hid (((Below.refl _ _).alloc (Nat.le_refl _) _).trans (hb.mono (by simp)))
  have HRs := Lib.hid (fun W (hb : Below w1.heap.size w1 W) => (fun j hj => by
    obtain ⟨b, off, e, h1, h2⟩ := Rs.below hR hb j hj
    exact ⟨b, off, e, Nat.lt_of_lt_of_le h1 hb.size, h2⟩ : Rs W W.heap.size A (ivCells exB)))
  have HBa : Hid (Below w1.heap.size w1 (w1.alloc (.cells #[.slice A 3 c] 33))) := Lib.hid ((Below.refl _ _).alloc (Nat.le_refl _) _)
  have HKa := Lib.hid (Deep.blk_alloc_new w1 (.cells #[.slice A 3 c] 33))
  clear ho hb hR
  go_wp2_with fail
  refine (HQ.out _ _ _ (HRs.out _ HBa.out)).mono ?_
  rintro e w2 ⟨rfl, hb⟩
  have HB2 := Lib.hid (HBa.out.trans (hb.mono HBa.out.size))
  have HK2 := Lib.hid ((hb.block w1.heap.size (by simp)).trans HKa.out)
  have k0 := cell_of_row w2 w1.heap.size 0 _ _ _ HK2.out
  clear hb
  go_wp2_with fail
  refine (HS.out _ _ _ (HRs.out _ HB2.out)).mono ?_
  rintro e w3 ⟨rfl, hb⟩
  have HB3 := Lib.hid (HB2.out.trans (hb.mono HB2.out.size))
  have HK3 := Lib.hid ((hb.block w1.heap.size ((Array.getElem?_eq_some_iff.1 HK2.out).1)).trans HK2.out)
  clear k0 hb
  have k0 := cell_of_row w3 w1.heap.size 0 _ _ _ HK3.out
  go_wp2_with fail
  refine (HA.out _ _ _ (HRs.out _ HB3.out)).mono ?_
  rintro e w4 ⟨rfl, hb⟩
  have HB4 := Lib.hid (HB3.out.trans (hb.mono HB3.out.size))
  have HK4 := Lib.hid ((hb.block w1.heap.size ((Array.getElem?_eq_some_iff.1 HK3.out).1)).trans HK3.out)
  clear k0 hb
  have k0 := cell_of_row w4 w1.heap.size 0 _ _ _ HK4.out
  go_wp2_with fail
  refine (HSm.out _ _ _ _ _ (HRs.out _ (HB4.out.alloc HB4.out.size _)) (HP.out w4)).mono ?_
  rintro e w5 ⟨rfl, hb⟩
  have HB5 := Lib.hid ((HB4.out.alloc HB4.out.size (.cells (ivCells exB).toArray 62)).trans (hb.mono (by have := HB4.out.size; simp; omega)))
  clear hb k0
  go_wp2_with fail
  go_ret
  exact ⟨rfl, HB1.out.trans (HB5.out.mono HB1.out.size)⟩
end Go.Proofs.Ytolgcphmmghlbaa
