
/- The examples of the chapter hold. -/
import Derived.Test.YtokapficojgkgaaDoorStr
import Derived.Test.YtokapficojgkgaaDoorOps
import Derived.Test.YtokapficojgkgaaDoorRnd
namespace Go.Proofs.YtokapficojgkgaaDoor
open Go.ChangeShapes Go.WideShapes Go.ChangeAt Go.RowKit Pl

set_option maxHeartbeats 1000000 in
theorem known_any (w : World) :
    Calls Tryd.prog 5 #[] w fun e w' => e = .returned (.bool true) ∧ Below w.heap.size w w' := by
  go_enter Tryd.func5, Tryd.ntmps5
  go_wp2_with fail
  refine (make_any 6 (-8) (by omega) (by omega) (by omega) (by omega) (by omega) _).mono ?_
  rintro e w1 ⟨rfl, hb1⟩
  have hW1 : w.heap.size ≤ w1.heap.size := hb1.size
  rw [show mkN 6 (-8) = -3 from by decide, show mkD 6 (-8) = 4 from by decide, show mkE 6 (-8) = 0 from by decide]
  go_wp2_with fail
  refine (of_any 1 6 (by omega) (by omega) (by omega) (by omega) (by omega) _).mono ?_
  rintro e w2 ⟨rfl, hb2⟩
  rw [show mkN 1 6 = 1 from by decide, show mkD 1 6 = 6 from by decide]
  obtain ⟨hchb2, hfhb2⟩ := bcell hb2
  have hzhb2 := hb2.size
  try simp at hzhb2
  have hzhb20 : w1.heap.size < w2.heap.size := by omega
  have hBhb2 : Below w.heap.size w w2 := Below.trans (by (repeat' (first | (with_reducible exact Below.refl _ _) | (with_reducible assumption) | (with_reducible refine Below.alloc ?_ ?_ _) | (with_reducible refine below_drewN ?_ _) | (with_reducible refine Below.drew ?_) | (with_reducible refine Below.setCell ?_ ?_ _) | go_size))) (hb2.mono (by go_size))
  have hWhb2 : w.heap.size ≤ w2.heap.size := hBhb2.size
  clear hb2 hzhb2
  go_wp2_with fail
  refine (of_any 1 3 (by omega) (by omega) (by omega) (by omega) (by omega) _).mono ?_
  rintro e w3 ⟨rfl, hb3⟩
  rw [show mkN 1 3 = 1 from by decide, show mkD 1 3 = 3 from by decide]
  obtain ⟨hchb3, hfhb3⟩ := bcell hb3
  have hzhb3 := hb3.size
  try simp at hzhb3
  have hzhb30 : w1.heap.size < w3.heap.size := by omega
  have hBhb3 : Below w.heap.size w w3 := Below.trans (by (repeat' (first | (with_reducible exact Below.refl _ _) | (with_reducible assumption) | (with_reducible refine Below.alloc ?_ ?_ _) | (with_reducible refine below_drewN ?_ _) | (with_reducible refine Below.drew ?_) | (with_reducible refine Below.setCell ?_ ?_ _) | go_size))) (hb3.mono (by go_size))
  have hWhb3 : w.heap.size ≤ w3.heap.size := hBhb3.size
  clear hb3 hzhb3
  go_wp2_with fail
  refine (add_any 1 6 1 3 (by omega) (by omega) (by omega) (by omega) (by omega) (by omega) (by omega) (by omega) _).mono ?_
  rintro e w4 ⟨rfl, hb4⟩
  rw [show mkN (1 * 3 + 1 * 6) (6 * 3) = 1 from by decide, show mkD (1 * 3 + 1 * 6) (6 * 3) = 2 from by decide, show mkE (1 * 3 + 1 * 6) (6 * 3) = 0 from by decide]
  obtain ⟨hchb4, hfhb4⟩ := bcell hb4
  have hzhb4 := hb4.size
  try simp at hzhb4
  have hzhb40 : w1.heap.size < w4.heap.size := by omega
  have hBhb4 : Below w.heap.size w w4 := Below.trans (by (repeat' (first | (with_reducible exact Below.refl _ _) | (with_reducible assumption) | (with_reducible refine Below.alloc ?_ ?_ _) | (with_reducible refine below_drewN ?_ _) | (with_reducible refine Below.drew ?_) | (with_reducible refine Below.setCell ?_ ?_ _) | go_size))) (hb4.mono (by go_size))
  have hWhb4 : w.heap.size ≤ w4.heap.size := hBhb4.size
  clear hb4 hzhb4
  go_wp2_with fail
  refine (of_any 99 100 (by omega) (by omega) (by omega) (by omega) (by omega) _).mono ?_
  rintro e w5 ⟨rfl, hb5⟩
  rw [show mkN 99 100 = 99 from by decide, show mkD 99 100 = 100 from by decide]
  obtain ⟨hchb5, hfhb5⟩ := bcell hb5
  have hzhb5 := hb5.size
  try simp at hzhb5
  have hzhb50 : w1.heap.size < w5.heap.size := by omega
  have hzhb51 : w4.heap.size < w5.heap.size := by omega
  have hBhb5 : Below w.heap.size w w5 := Below.trans (by (repeat' (first | (with_reducible exact Below.refl _ _) | (with_reducible assumption) | (with_reducible refine Below.alloc ?_ ?_ _) | (with_reducible refine below_drewN ?_ _) | (with_reducible refine Below.drew ?_) | (with_reducible refine Below.setCell ?_ ?_ _) | go_size))) (hb5.mono (by go_size))
  have hWhb5 : w.heap.size ≤ w5.heap.size := hBhb5.size
  clear hb5 hzhb5
  go_wp2_with fail
  refine (mulFloor_any 10 99 100 (by omega) (by omega) (by omega) (by omega) (by omega) (by omega) _).mono ?_
  rintro e w6 ⟨rfl, hb6⟩
  rw [show (10 * 99 / 100 : Int) = 9 from by decide]
  obtain ⟨hchb6, hfhb6⟩ := bcell hb6
  have hzhb6 := hb6.size
  try simp at hzhb6
  have hzhb60 : w1.heap.size < w6.heap.size := by omega
  have hzhb61 : w4.heap.size < w6.heap.size := by omega
  have hBhb6 : Below w.heap.size w w6 := Below.trans (by (repeat' (first | (with_reducible exact Below.refl _ _) | (with_reducible assumption) | (with_reducible refine Below.alloc ?_ ?_ _) | (with_reducible refine below_drewN ?_ _) | (with_reducible refine Below.drew ?_) | (with_reducible refine Below.setCell ?_ ?_ _) | go_size))) (hb6.mono (by go_size))
  have hWhb6 : w.heap.size ≤ w6.heap.size := hBhb6.size
  clear hb6 hzhb6
  go_wp2_with fail
  refine (parse_known _).mono ?_
  rintro e w7 ⟨rfl, hb7⟩
  obtain ⟨hchb7, hfhb7⟩ := bcell hb7
  have hzhb7 := hb7.size
  try simp at hzhb7
  have hzhb70 : w1.heap.size < w7.heap.size := by omega
  have hzhb71 : w4.heap.size < w7.heap.size := by omega
  have hBhb7 : Below w.heap.size w w7 := Below.trans (by (repeat' (first | (with_reducible exact Below.refl _ _) | (with_reducible assumption) | (with_reducible refine Below.alloc ?_ ?_ _) | (with_reducible refine below_drewN ?_ _) | (with_reducible refine Below.drew ?_) | (with_reducible refine Below.setCell ?_ ?_ _) | go_size))) (hb7.mono (by go_size))
  have hWhb7 : w.heap.size ≤ w7.heap.size := hBhb7.size
  clear hb7 hzhb7
  go_wp2_with fail
  go_ret
  exact ⟨rfl, by (repeat' (first | (with_reducible exact Below.refl _ _) | (with_reducible assumption) | (with_reducible refine Below.alloc ?_ ?_ _) | (with_reducible refine below_drewN ?_ _) | (with_reducible refine Below.drew ?_) | (with_reducible refine Below.setCell ?_ ?_ _) | go_size))⟩
end Go.Proofs.YtokapficojgkgaaDoor
