
/- The reference's Print. -/
import Derived.Test.YtokapficojgkgaaDoorRp
namespace Go.Proofs.YtokapficojgkgaaDoor
open Go.ChangeShapes Go.WideShapes Go.ChangeAt Go.RowKit Pl

def dgB (u : Nat) : ByteArray := ⟨(Lib.decDigits u).toArray⟩
def miB : ByteArray := ⟨#[45]⟩
theorem bsI_pos {n : Int} (h : 0 ≤ n) : bsI n = dgB n.natAbs := by
  unfold bsI dgB Lib.itoa
  rw [if_neg (by omega)]
  congr 2
  congr 1
  omega
theorem bsI_neg {n : Int} (h : n < 0) : bsI n = miB ++ dgB n.natAbs := by
  unfold bsI dgB Lib.itoa miB
  rw [if_pos h, bytes_cons]
theorem dgB_size (u : Nat) (h : u ≤ 1048576) : (dgB u).size ≤ 7 := by
  show (Lib.decDigits u).toArray.size ≤ 7
  rw [List.size_toArray, dec_len]
  exact nd_le (k := 6) (by omega)
set_option maxRecDepth 100000 in
set_option maxHeartbeats 1000000 in
theorem rprint_any (n d : Int) (h0 : -1048576 ≤ n) (h1 : n ≤ 1048576) (h2 : 1 ≤ d) (h3 : d ≤ 1048576) (w : World) :
    Calls Tryd.prog 9 #[.agg #[.int .i64 n, .int .i64 d]] w fun e w' => e = .returned (.string (prB n d)) ∧ Below w.heap.size w w' := by
  have HM := Lib.hid (fun W => rmagnitude_any n (by omega) (by omega) W)
  have HD := Lib.hid (fun W => digits_any n.natAbs (by omega) W)
  have HE := Lib.hid (fun W => digits_any d.natAbs (by omega) W)
  have hz1 := dgB_size n.natAbs (by omega)
  have hz2 := dgB_size d.natAbs (by omega)
  have hbd := bsI_pos (n := d) (by omega)
  obtain ⟨u, hu⟩ : ∃ u, u = n.natAbs := ⟨_, rfl⟩
  obtain ⟨v, hv⟩ : ∃ v, v = d.natAbs := ⟨_, rfl⟩
  have hvd : (d : Int) = (v : Int) := by omega
  have hw : IntKind.i64.wrap (u : Int) = (u : Int) := by simp only [IntKind.wrap_i64]; omega
  rw [← hu] at HM HD hz1
  rw [← hv] at HE hz2 hbd
  rw [← hvd] at HE
  change Hid (∀ W, Calls Tryd.prog 21 #[.int .i64 (u : Int), .int .i64 1] W fun e w' => e = .returned (.string (dgB u)) ∧ Below W.heap.size W w') at HD
  change Hid (∀ W, Calls Tryd.prog 21 #[.int .i64 d, .int .i64 1] W fun e w' => e = .returned (.string (dgB v)) ∧ Below W.heap.size W w') at HE
  by_cases hn : n < 0
  · have hbn := bsI_neg hn
    rw [← hu] at hbn
    by_cases hd : d = 1
    · skip
      have e1 : prB n d = miB ++ dgB u := by unfold prB; rw [if_pos hd, hbn]
      rw [e1]
      have n1 : ¬ 9223372036854775807 < 1 + (dgB u).size := by omega
      have n2 : ¬ 9223372036854775807 < 1 + (dgB u).size + 1 := by omega
      have n3 : ¬ 9223372036854775807 < 1 + (dgB u).size + 1 + (dgB v).size := by omega
      clear hbn hbd e1 hu hv hvd
      go_enter Tryd.func9, Tryd.ntmps9
      go_wp2_with fail
      refine (HM.out _).mono ?_
      rintro e w1 ⟨rfl, rfl⟩
      go_wp2_with fail
      refine (HD.out _).mono ?_
      rintro e w2 ⟨rfl, hb⟩
      have hz : w.heap.size < (w.alloc (.cells #[.int .i64 n, .int .i64 1] 23)).heap.size := by simp
      have c0 : w2.cell? ⟨w.heap.size, 0, none⟩ = some (.int .i64 n) := ((hb.cell (p := ⟨w.heap.size, 0, none⟩) hz).trans (cell_of_row _ _ 0 _ _ _ (Deep.blk_alloc_new w _))).trans rfl
      have c1 : w2.cell? ⟨w.heap.size, 1, none⟩ = some (.int .i64 1) := ((hb.cell (p := ⟨w.heap.size, 1, none⟩) hz).trans (cell_of_row _ _ 1 _ _ _ (Deep.blk_alloc_new w _))).trans rfl
      have HB := Lib.hid (((Below.refl _ w).alloc (Nat.le_refl _) (.cells #[.int .i64 n, .int .i64 1] 23)).trans (hb.mono (by simp)))
      clear hb hz
      go_wp2_with fail
      go_ret
      exact ⟨rfl, HB.out⟩
    · skip
      have e1 : prB n d = miB ++ dgB u ++ slB ++ dgB v := by unfold prB; rw [if_neg hd, hbn, hbd]
      rw [e1]
      have n1 : ¬ 9223372036854775807 < 1 + (dgB u).size := by omega
      have n2 : ¬ 9223372036854775807 < 1 + (dgB u).size + 1 := by omega
      have n3 : ¬ 9223372036854775807 < 1 + (dgB u).size + 1 + (dgB v).size := by omega
      have hdb : (d != 1) = true := bne_iff_ne.2 hd
      clear hbn hbd e1 hu hv hvd
      go_enter Tryd.func9, Tryd.ntmps9
      go_wp2_with fail
      refine (HM.out _).mono ?_
      rintro e w1 ⟨rfl, rfl⟩
      go_wp2_with fail
      refine (HD.out _).mono ?_
      rintro e w2 ⟨rfl, hb⟩
      have hz : w.heap.size < (w.alloc (.cells #[.int .i64 n, .int .i64 d] 23)).heap.size := by simp
      have c0 : w2.cell? ⟨w.heap.size, 0, none⟩ = some (.int .i64 n) := ((hb.cell (p := ⟨w.heap.size, 0, none⟩) hz).trans (cell_of_row _ _ 0 _ _ _ (Deep.blk_alloc_new w _))).trans rfl
      have c1 : w2.cell? ⟨w.heap.size, 1, none⟩ = some (.int .i64 d) := ((hb.cell (p := ⟨w.heap.size, 1, none⟩) hz).trans (cell_of_row _ _ 1 _ _ _ (Deep.blk_alloc_new w _))).trans rfl
      have HB := Lib.hid (((Below.refl _ w).alloc (Nat.le_refl _) (.cells #[.int .i64 n, .int .i64 d] 23)).trans (hb.mono (by simp)))
      clear hb hz
      go_wp2_with fail
      refine (HE.out _).mono ?_
      rintro e w3 ⟨rfl, hb⟩
      have HB3 := Lib.hid (HB.out.trans (hb.mono HB.out.size))
      clear hb
      go_wp2_with fail
      go_ret
      exact ⟨rfl, HB3.out⟩
  · have hbn := bsI_pos (n := n) (by omega)
    rw [← hu] at hbn
    by_cases hd : d = 1
    · skip
      have e1 : prB n d = dgB u := by unfold prB; rw [if_pos hd, hbn]
      rw [e1]
      have n2 : ¬ 9223372036854775807 < (dgB u).size + 1 := by omega
      have n3 : ¬ 9223372036854775807 < (dgB u).size + 1 + (dgB v).size := by omega
      have hnn : 0 ≤ n := by omega
      have hnf : (n < 0) = False := eq_false hn
      clear hbn hbd e1 hu hv hvd
      go_enter Tryd.func9, Tryd.ntmps9
      go_wp2_with fail
      refine (HM.out _).mono ?_
      rintro e w1 ⟨rfl, rfl⟩
      go_wp2_with fail
      refine (HD.out _).mono ?_
      rintro e w2 ⟨rfl, hb⟩
      have hz : w.heap.size < (w.alloc (.cells #[.int .i64 n, .int .i64 1] 23)).heap.size := by simp
      have c0 : w2.cell? ⟨w.heap.size, 0, none⟩ = some (.int .i64 n) := ((hb.cell (p := ⟨w.heap.size, 0, none⟩) hz).trans (cell_of_row _ _ 0 _ _ _ (Deep.blk_alloc_new w _))).trans rfl
      have c1 : w2.cell? ⟨w.heap.size, 1, none⟩ = some (.int .i64 1) := ((hb.cell (p := ⟨w.heap.size, 1, none⟩) hz).trans (cell_of_row _ _ 1 _ _ _ (Deep.blk_alloc_new w _))).trans rfl
      have HB := Lib.hid (((Below.refl _ w).alloc (Nat.le_refl _) (.cells #[.int .i64 n, .int .i64 1] 23)).trans (hb.mono (by simp)))
      clear hb hz
      go_wp2_with fail
      go_ret
      exact ⟨rfl, HB.out⟩
    · skip
      have e1 : prB n d = dgB u ++ slB ++ dgB v := by unfold prB; rw [if_neg hd, hbn, hbd]
      rw [e1]
      have n2 : ¬ 9223372036854775807 < (dgB u).size + 1 := by omega
      have n3 : ¬ 9223372036854775807 < (dgB u).size + 1 + (dgB v).size := by omega
      have hnn : 0 ≤ n := by omega
      have hnf : (n < 0) = False := eq_false hn
      have hdb : (d != 1) = true := bne_iff_ne.2 hd
      clear hbn hbd e1 hu hv hvd
      go_enter Tryd.func9, Tryd.ntmps9
      go_wp2_with fail
      refine (HM.out _).mono ?_
      rintro e w1 ⟨rfl, rfl⟩
      go_wp2_with fail
      refine (HD.out _).mono ?_
      rintro e w2 ⟨rfl, hb⟩
      have hz : w.heap.size < (w.alloc (.cells #[.int .i64 n, .int .i64 d] 23)).heap.size := by simp
      have c0 : w2.cell? ⟨w.heap.size, 0, none⟩ = some (.int .i64 n) := ((hb.cell (p := ⟨w.heap.size, 0, none⟩) hz).trans (cell_of_row _ _ 0 _ _ _ (Deep.blk_alloc_new w _))).trans rfl
      have c1 : w2.cell? ⟨w.heap.size, 1, none⟩ = some (.int .i64 d) := ((hb.cell (p := ⟨w.heap.size, 1, none⟩) hz).trans (cell_of_row _ _ 1 _ _ _ (Deep.blk_alloc_new w _))).trans rfl
      have HB := Lib.hid (((Below.refl _ w).alloc (Nat.le_refl _) (.cells #[.int .i64 n, .int .i64 d] 23)).trans (hb.mono (by simp)))
      clear hb hz
      go_wp2_with fail
      refine (HE.out _).mono ?_
      rintro e w3 ⟨rfl, hb⟩
      have HB3 := Lib.hid (HB.out.trans (hb.mono HB.out.size))
      clear hb
      go_wp2_with fail
      go_ret
      exact ⟨rfl, HB3.out⟩
end Go.Proofs.YtokapficojgkgaaDoor
