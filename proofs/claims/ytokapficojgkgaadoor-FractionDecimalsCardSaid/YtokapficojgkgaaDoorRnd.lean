
/- What the roundings return. -/
import Derived.Test.YtokapficojgkgaaDoorCheck
namespace Go.Proofs.YtokapficojgkgaaDoor
open Go.ChangeShapes Go.WideShapes Go.ChangeAt Go.RowKit Pl


theorem div_bd (x d : Int) (hd : 1 ≤ d) (h1 : -1152921504606846976 ≤ x) (h2 : x ≤ 1152921504606846976) : -1152921504606846976 ≤ x / d ∧ x / d ≤ 1152921504606846976 := by
  have g1 := Int.mul_ediv_add_emod x d
  have g2 := Int.emod_nonneg x (show d ≠ 0 by omega)
  have g3 := Int.emod_lt_of_pos x (show 0 < d by omega)
  constructor
  · have := Int.ediv_le_ediv (show 0 < d by omega) h1
    refine Int.le_trans ?_ this
    refine (Int.le_ediv_iff_mul_le (by omega)).2 ?_
    omega
  · have := Int.ediv_le_ediv (show 0 < d by omega) h2
    refine Int.le_trans this ?_
    exact Int.ediv_le_self _ (by omega)

theorem mulFloor_any (n a d : Int) (h1 : -1099511627776 ≤ n) (h2 : n ≤ 1099511627776) (h3 : -1048576 ≤ a) (h4 : a ≤ 1048576) (h5 : 1 ≤ d) (h6 : d ≤ 1048576) (w : World) :
    Calls Tryd.prog 15 #[.int .i64 n, .agg #[.int .i64 a, .int .i64 d]] w fun e w' => e = .returned (.tuple #[.int .i64 (n * a / d), .int .i64 0]) ∧ Below w.heap.size w w' := by
  have t1 : decide (n < -1099511627776) = false := by simp; omega
  have t2 : decide (1099511627776 < n) = false := by simp; omega
  go_enter Tryd.func15, Tryd.ntmps15
  go_wp2_with fail
  refine (floorOf_any n a d (by omega) (by omega) h3 h4 h5 h6 _).mono ?_
  rintro e w' ⟨rfl, hb⟩
  obtain ⟨hchb, hfhb⟩ := bcell hb
  have hzhb := hb.size
  try simp at hzhb
  have hzhb0 : w.heap.size < w'.heap.size := by omega
  have hBhb : Below w.heap.size w w' := Below.trans (by (repeat' (first | (with_reducible exact Below.refl _ _) | (with_reducible assumption) | (with_reducible refine Below.alloc ?_ ?_ _) | (with_reducible refine below_drewN ?_ _) | (with_reducible refine Below.drew ?_) | (with_reducible refine Below.setCell ?_ ?_ _) | go_size))) (hb.mono (by go_size))
  have hWhb : w.heap.size ≤ w'.heap.size := hBhb.size
  clear hb hzhb
  go_wp2
  go_ret2
  exact ⟨rfl, by (repeat' (first | (with_reducible exact Below.refl _ _) | (with_reducible assumption) | (with_reducible refine Below.alloc ?_ ?_ _) | (with_reducible refine below_drewN ?_ _) | (with_reducible refine Below.drew ?_) | (with_reducible refine Below.setCell ?_ ?_ _) | go_size))⟩

theorem mulFloor_out (n a d : Int) (h : n < -1099511627776 ∨ 1099511627776 < n) (w : World) :
    Calls Tryd.prog 15 #[.int .i64 n, .agg #[.int .i64 a, .int .i64 d]] w fun e w' => e = .returned (.tuple #[.int .i64 0, .int .i64 2]) ∧ Below w.heap.size w w' := by
  by_cases h1 : n < -1099511627776
  · go_enter Tryd.func15, Tryd.ntmps15
    go_wp2
    go_ret2
    exact ⟨rfl, by (repeat' (first | (with_reducible exact Below.refl _ _) | (with_reducible assumption) | (with_reducible refine Below.alloc ?_ ?_ _) | (with_reducible refine below_drewN ?_ _) | (with_reducible refine Below.drew ?_) | (with_reducible refine Below.setCell ?_ ?_ _) | go_size))⟩
  · have h2 : 1099511627776 < n := by omega
    clear h
    go_enter Tryd.func15, Tryd.ntmps15
    go_wp2
    go_ret2
    exact ⟨rfl, by (repeat' (first | (with_reducible exact Below.refl _ _) | (with_reducible assumption) | (with_reducible refine Below.alloc ?_ ?_ _) | (with_reducible refine below_drewN ?_ _) | (with_reducible refine Below.drew ?_) | (with_reducible refine Below.setCell ?_ ?_ _) | go_size))⟩

theorem rmulFloor_any (n a d : Int) (h1 : -1099511627776 ≤ n) (h2 : n ≤ 1099511627776) (h3 : -1048576 ≤ a) (h4 : a ≤ 1048576) (h5 : 1 ≤ d) (h6 : d ≤ 1048576) (w : World) :
    Calls Tryd.prog 28 #[.int .i64 n, .agg #[.int .i64 a, .int .i64 d]] w fun e w' => e = .returned (.int .i64 (n * a / d)) ∧ Below w.heap.size w w' := by
  obtain ⟨p1, p2⟩ := prod_bd h1 h2 h3 h4
  go_enter Tryd.func28, Tryd.ntmps28
  go_wp2_with fail
  refine (rfloor_any (n * a) d (by omega) (by omega) h5 h6 _).mono ?_
  rintro e w' ⟨rfl, rfl⟩
  go_wp2
  go_ret
  exact ⟨ret_int (by simp), by (repeat' (first | (with_reducible exact Below.refl _ _) | (with_reducible assumption) | (with_reducible refine Below.alloc ?_ ?_ _) | (with_reducible refine below_drewN ?_ _) | (with_reducible refine Below.drew ?_) | (with_reducible refine Below.setCell ?_ ?_ _) | go_size))⟩

end Go.Proofs.YtokapficojgkgaaDoor
