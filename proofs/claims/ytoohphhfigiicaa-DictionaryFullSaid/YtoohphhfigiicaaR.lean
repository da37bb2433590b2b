/- The examples of the document. -/
import Derived.Test.YtoohphhfigiicaaQ
namespace Go.Proofs.Ytoohphhfigiicaa
open Go.ChangeShapes Go.WideShapes Go.ChangeAt Go.RowKit Dp

theorem small {L : List ByteArray} (h : ∀ x ∈ L, x.size ≤ 255) : ∀ x ∈ L, x.size ≤ 9223372036854775807 := fun x hx => by have := h x hx; omega
theorem blk_new2 (w : World) (o p : Obj) : ((w.alloc o).alloc p).heap[w.heap.size]? = some o := by
  rw [Deep.blk_alloc_lt _ _ _ (by simp)]; exact Deep.blk_alloc_new w o
theorem blk_new3 (w : World) (o p : Obj) : ((w.alloc o).alloc p).heap[w.heap.size + 1]? = some p := by
  have := Deep.blk_alloc_new (w.alloc o) p
  rw [Deep.nblk_alloc] at this
  exact this
set_option maxRecDepth 100000 in
set_option maxHeartbeats 2000000 in
theorem known_any (w : World) : Calls Try.prog 13 #[] w fun e w' => e = .returned (.bool true) ∧ Below w.heap.size w w' := by
  have hb := fun W => build_any (some ⟨w.heap.size, 0, none⟩) 4 ex1 (by decide) (small (by decide)) W
  rw [ex1_ok.1, ex1_ok.2] at hb
  have HB := Lib.hid hb
  clear hb
  go_enter Try.func13, Try.ntmps13
  go_wp2_with fail
  refine (HB.out _ (rd_built ex1 (Deep.blk_alloc_new w _))).mono ?_
  rintro e w1 ⟨⟨A1, c1, rfl, hc1, hA1, hr1⟩, hB1⟩
  have HB1 : Hid (Below w.heap.size w w1) := Lib.hid (Below.trans ((Below.refl w.heap.size w).alloc (Nat.le_refl _) _) (hB1.mono (by simp)))
  have HR1 := Lib.hid hr1
  have hm := fun W => merge_any (some ⟨w1.heap.size, 0, none⟩) (some ⟨w1.heap.size + 1, 0, none⟩) 2 2 ex2 ex3 (by decide) (by decide) (small (by decide)) (.inr ⟨_, _, rfl⟩) (.inr ⟨_, _, rfl⟩) (by decide) (by decide) W
  rw [ex23_ok.1, ex23_ok.2, ex23_bld, if_pos rfl, if_pos rfl, cd2.1, cd2.2] at hm
  have HM := Lib.hid hm
  clear hB1 hr1 hA1 hm HB
  go_wp2_with fail
  refine (HM.out _ (rd_built ex2 (blk_new2 w1 _ _)) (rd_built ex3 (blk_new3 w1 _ _))).mono ?_
  rintro e w2 ⟨⟨A2, c2, A3, c3, A4, c4, rfl, hc2, hc3, hc4, hr2, hr3, hr4⟩, hB2⟩
  have HB2 : Hid (Below w.heap.size w w2) := Lib.hid (Below.trans ((HB1.out.alloc HB1.out.size _).alloc (by have := HB1.out.size; simp; omega) _) (hB2.mono (by have := HB1.out.size; simp; omega)))
  have HR1' := Lib.hid (((HR1.out.alloc _).alloc _).below hB2)
  have HR2 := Lib.hid hr2
  have HR3 := Lib.hid hr3
  have HR4 := Lib.hid hr4
  have he := fun W => encode_any (some ⟨w2.heap.size, 0, none⟩) 2 ex4 (by decide) (small (by decide)) W
  have e4 : ex4.length = 2 := rfl
  rw [e4, ex4_frm] at he
  have HE := Lib.hid he
  clear hB2 hr2 hr3 hr4 HM HR1 he e4
  go_wp2_with fail
  refine (HE.out _ (rd_built ex4 (Deep.blk_alloc_new w2 _)) ex4_chk).mono ?_
  rintro e w3 ⟨rfl, hB3⟩
  have HB3 : Hid (Below w.heap.size w w3) := Lib.hid (Below.trans (HB2.out.alloc HB2.out.size _) (hB3.mono (by have := HB2.out.size; simp; omega)))
  have K1 := Lib.hid ((HR1'.out.alloc _).below hB3)
  have K2 := Lib.hid ((HR2.out.alloc _).below hB3)
  have K3 := Lib.hid ((HR3.out.alloc _).below hB3)
  have K4 := Lib.hid ((HR4.out.alloc _).below hB3)
  clear hB3 HE HR1' HR2 HR3 HR4
  have hs := fun W => same_any A1 (some ⟨w3.heap.size, 0, none⟩) c1 3 ed1 ed1 (by decide) (by decide) W
  rw [decide_eq_true rfl] at hs
  have HS := Lib.hid hs
  clear hs
  go_wp2_with fail
  refine (HS.out _ (K1.out.alloc _) (rd_built ed1 (Deep.blk_alloc_new w3 _))).mono ?_
  rintro e w4 ⟨rfl, hB4⟩
  have HB4 : Hid (Below w.heap.size w w4) := Lib.hid (Below.trans (HB3.out.alloc HB3.out.size _) (hB4.mono (by have := HB3.out.size; simp; omega)))
  have L1 := Lib.hid ((K1.out.alloc _).below hB4)
  have L2 := Lib.hid ((K2.out.alloc _).below hB4)
  have L3 := Lib.hid ((K3.out.alloc _).below hB4)
  have L4 := Lib.hid ((K4.out.alloc _).below hB4)
  have hp := prefix_any A1 c1 ed1 ed1_srt sA (by decide) w4 L1.out
  rw [lw_ex.2.1, lw_ex.2.2] at hp
  clear hB4 HS K1 K2 K3 K4
  go_wp2_with fail
  refine hp.mono ?_
  rintro e w5 ⟨rfl, hB5⟩
  have HB5 := Lib.hid (below_to HB4.out hB5)
  have M1 := Lib.hid (L1.out.below hB5)
  have M2 := Lib.hid (L2.out.below hB5)
  have M3 := Lib.hid (L3.out.below hB5)
  have M4 := Lib.hid (L4.out.below hB5)
  have hl := lower_any A1 c1 ed1 ed1_srt sAA (by decide) w5 M1.out
  rw [lw_ex.1] at hl
  clear hB5 L1 L2 L3 L4 hp
  go_wp2_with fail
  refine hl.mono ?_
  rintro e w6 ⟨rfl, hB6⟩
  have HB6 := Lib.hid (below_to HB5.out hB6)
  have N2 := Lib.hid (M2.out.below hB6)
  have N3 := Lib.hid (M3.out.below hB6)
  have N4 := Lib.hid (M4.out.below hB6)
  have hs := fun W => same_any A2 (some ⟨w6.heap.size, 0, none⟩) c2 3 ed2 ed2 (by decide) (by decide) W
  rw [decide_eq_true rfl] at hs
  have HS := Lib.hid hs
  clear hs hB6 M1 M2 M3 M4 hl
  go_wp2_with fail
  refine (HS.out _ (N2.out.alloc _) (rd_built ed2 (Deep.blk_alloc_new w6 _))).mono ?_
  rintro e w7 ⟨rfl, hB7⟩
  have HB7 : Hid (Below w.heap.size w w7) := Lib.hid (Below.trans (HB6.out.alloc HB6.out.size _) (hB7.mono (by have := HB6.out.size; simp; omega)))
  have O3 := Lib.hid ((N3.out.alloc _).below hB7)
  have O4 := Lib.hid ((N4.out.alloc _).below hB7)
  have hs := fun W => sameInts_any A3 (some ⟨w7.heap.size, 0, none⟩) c3 2 [0, 2] [0, 2] (by decide) (by decide) W
  rw [decide_eq_true rfl] at hs
  have HS3 := Lib.hid hs
  clear hs hB7 N2 N3 N4 HS
  go_wp2_with fail
  refine (HS3.out _ (O3.out.alloc _) (rd_built [0, 2] (Deep.blk_alloc_new w7 _))).mono ?_
  rintro e w8 ⟨rfl, hB8⟩
  have HB8 : Hid (Below w.heap.size w w8) := Lib.hid (Below.trans (HB7.out.alloc HB7.out.size _) (hB8.mono (by have := HB7.out.size; simp; omega)))
  have P4 := Lib.hid ((O4.out.alloc _).below hB8)
  have hs := fun W => sameInts_any A4 (some ⟨w8.heap.size, 0, none⟩) c4 2 [1, 2] [1, 2] (by decide) (by decide) W
  rw [decide_eq_true rfl] at hs
  have HS4 := Lib.hid hs
  clear hs hB8 O3 O4 HS3
  go_wp2_with fail
  refine (HS4.out _ (P4.out.alloc _) (rd_built [1, 2] (Deep.blk_alloc_new w8 _))).mono ?_
  rintro e w9 ⟨rfl, hB9⟩
  have HB9 : Hid (Below w.heap.size w w9) := Lib.hid (Below.trans (HB8.out.alloc HB8.out.size _) (hB9.mono (by have := HB8.out.size; simp; omega)))
  clear hB9 HS4 P4
  go_wp2_with fail
  go_ret
  exact ⟨rfl, HB9.out⟩
end Go.Proofs.Ytoohphhfigiicaa
