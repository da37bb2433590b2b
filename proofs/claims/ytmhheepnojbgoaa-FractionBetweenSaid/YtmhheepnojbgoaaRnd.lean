/- What the roundings return. -/
import Derived.Test.YtmhheepnojbgoaaCheck
namespace Go.Proofs.Ytmhheepnojbgoaa
open Go.ChangeShapes Go.WideShapes Go.ChangeAt Go.RowKit Pl


theorem floor_any (a d : Int) (h3 : -1048576 ≤ a) (h4 : a ≤ 1048576) (h5 : 1 ≤ d) (h6 : d ≤ 1048576) (w : World) :
    Calls Try.prog 34 #[.agg #[.int .i64 a, .int .i64 d]] w fun e w' => e = .returned (.int .i64 (a / d)) ∧ Below w.heap.size w w' := by
  go_enter Try.func34, Try.ntmps34
  go_wp2_with fail
  refine (floorOf_any 1 a d (by omega) (by omega) h3 h4 h5 h6 _).mono ?_
  rintro e w' ⟨rfl, hb⟩
  obtain ⟨hchb, hfhb⟩ := bcell hb
  have hzhb := hb.size
  simp at hzhb
  have hzhb0 : w.heap.size < w'.heap.size := by omega
  have hBhb : Below w.heap.size w w' := Below.trans (by (repeat' (first | (with_reducible exact Below.refl _ _) | (with_reducible assumption) | (with_reducible refine Below.alloc ?_ ?_ _) | (with_reducible refine below_drewN ?_ _) | (with_reducible refine Below.drew ?_) | (with_reducible refine Below.setCell ?_ ?_ _) | go_size))) (hb.mono (by go_size))
  clear hb hzhb
  go_wp2
  go_ret
  exact ⟨ret_int (by simp), by (repeat' (first | (with_reducible exact Below.refl _ _) | (with_reducible assumption) | (with_reducible refine Below.alloc ?_ ?_ _) | (with_reducible refine below_drewN ?_ _) | (with_reducible refine Below.drew ?_) | (with_reducible refine Below.setCell ?_ ?_ _) | go_size))⟩

theorem div_bd (x d : Int) (hd : 1 ≤ d) (h1 : -1152921504606846976 ≤ x) (h2 : x ≤ 1152921504606846976) : -1152921504606846976 ≤ x / d ∧ x / d ≤ 1152921504606846976 := by
  have g1 := Int.mul_ediv_add_emod x d
  have g2 := Int.emod_nonneg x (show d ≠ 0 by omega)
  have g3 := Int.emod_lt_of_pos x (show 0 < d by omega)
  constructor
  · have := Int.ediv_le_ediv (show 0 < d by omega) h1
    refine Int.le_trans ?_ this
    refine (Int.le_ediv_iff_mul_le (by omega)).2 ?_
    omega
  · have := Int.ediv_le_ediv (show 0 < d by omega) h2
    refine Int.le_trans this ?_
    exact Int.ediv_le_self _ (by omega)

theorem ceil_any (a d : Int) (h3 : -1048576 ≤ a) (h4 : a ≤ 1048576) (h5 : 1 ≤ d) (h6 : d ≤ 1048576) (w : World) :
    Calls Try.prog 36 #[.agg #[.int .i64 a, .int .i64 d]] w fun e w' => e = .returned (.int .i64 (-(-a / d))) ∧ Below w.heap.size w w' := by
  obtain ⟨u1, u2⟩ := div_bd (-a) d h5 (by omega) (by omega)
  go_enter Try.func36, Try.ntmps36
  go_wp2_with fail
  refine (floorOf_any (-1) a d (by omega) (by omega) h3 h4 h5 h6 _).mono ?_
  rintro e w' ⟨rfl, hb⟩
  obtain ⟨hchb, hfhb⟩ := bcell hb
  have hzhb := hb.size
  simp at hzhb
  have hzhb0 : w.heap.size < w'.heap.size := by omega
  have hBhb : Below w.heap.size w w' := Below.trans (by (repeat' (first | (with_reducible exact Below.refl _ _) | (with_reducible assumption) | (with_reducible refine Below.alloc ?_ ?_ _) | (with_reducible refine below_drewN ?_ _) | (with_reducible refine Below.drew ?_) | (with_reducible refine Below.setCell ?_ ?_ _) | go_size))) (hb.mono (by go_size))
  clear hb hzhb
  go_wp2
  go_ret
  exact ⟨ret_int (by simp), by (repeat' (first | (with_reducible exact Below.refl _ _) | (with_reducible assumption) | (with_reducible refine Below.alloc ?_ ?_ _) | (with_reducible refine below_drewN ?_ _) | (with_reducible refine Below.drew ?_) | (with_reducible refine Below.setCell ?_ ?_ _) | go_size))⟩

theorem mulFloor_any (n a d : Int) (h1 : -1099511627776 ≤ n) (h2 : n ≤ 1099511627776) (h3 : -1048576 ≤ a) (h4 : a ≤ 1048576) (h5 : 1 ≤ d) (h6 : d ≤ 1048576) (w : World) :
    Calls Try.prog 38 #[.int .i64 n, .agg #[.int .i64 a, .int .i64 d]] w fun e w' => e = .returned (.tuple #[.int .i64 (n * a / d), .int .i64 0]) ∧ Below w.heap.size w w' := by
  have t1 : decide (n < -1099511627776) = false := by simp; omega
  have t2 : decide (1099511627776 < n) = false := by simp; omega
  go_enter Try.func38, Try.ntmps38
  go_wp2_with fail
  refine (floorOf_any n a d (by omega) (by omega) h3 h4 h5 h6 _).mono ?_
  rintro e w' ⟨rfl, hb⟩
  obtain ⟨hchb, hfhb⟩ := bcell hb
  have hzhb := hb.size
  simp at hzhb
  have hzhb0 : w.heap.size < w'.heap.size := by omega
  have hBhb : Below w.heap.size w w' := Below.trans (by (repeat' (first | (with_reducible exact Below.refl _ _) | (with_reducible assumption) | (with_reducible refine Below.alloc ?_ ?_ _) | (with_reducible refine below_drewN ?_ _) | (with_reducible refine Below.drew ?_) | (with_reducible refine Below.setCell ?_ ?_ _) | go_size))) (hb.mono (by go_size))
  clear hb hzhb
  go_wp2
  go_ret2
  exact ⟨rfl, by (repeat' (first | (with_reducible exact Below.refl _ _) | (with_reducible assumption) | (with_reducible refine Below.alloc ?_ ?_ _) | (with_reducible refine below_drewN ?_ _) | (with_reducible refine Below.drew ?_) | (with_reducible refine Below.setCell ?_ ?_ _) | go_size))⟩

theorem mulFloor_out (n a d : Int) (h : n < -1099511627776 ∨ 1099511627776 < n) (w : World) :
    Calls Try.prog 38 #[.int .i64 n, .agg #[.int .i64 a, .int .i64 d]] w fun e w' => e = .returned (.tuple #[.int .i64 0, .int .i64 2]) ∧ Below w.heap.size w w' := by
  by_cases h1 : n < -1099511627776
  · go_enter Try.func38, Try.ntmps38
    go_wp2
    go_ret2
    exact ⟨rfl, by (repeat' (first | (with_reducible exact Below.refl _ _) | (with_reducible assumption) | (with_reducible refine Below.alloc ?_ ?_ _) | (with_reducible refine below_drewN ?_ _) | (with_reducible refine Below.drew ?_) | (with_reducible refine Below.setCell ?_ ?_ _) | go_size))⟩
  · have h2 : 1099511627776 < n := by omega
    clear h
    go_enter Try.func38, Try.ntmps38
    go_wp2
    go_ret2
    exact ⟨rfl, by (repeat' (first | (with_reducible exact Below.refl _ _) | (with_reducible assumption) | (with_reducible refine Below.alloc ?_ ?_ _) | (with_reducible refine below_drewN ?_ _) | (with_reducible refine Below.drew ?_) | (with_reducible refine Below.setCell ?_ ?_ _) | go_size))⟩

theorem mulCeil_any (n a d : Int) (h1 : -1099511627776 ≤ n) (h2 : n ≤ 1099511627776) (h3 : -1048576 ≤ a) (h4 : a ≤ 1048576) (h5 : 1 ≤ d) (h6 : d ≤ 1048576) (w : World) :
    Calls Try.prog 39 #[.int .i64 n, .agg #[.int .i64 a, .int .i64 d]] w fun e w' => e = .returned (.tuple #[.int .i64 (-(-n * a / d)), .int .i64 0]) ∧ Below w.heap.size w w' := by
  obtain ⟨p1, p2⟩ := prod_bd (a := -n) (A := 1099511627776) (by omega) (by omega) h3 h4
  obtain ⟨u1, u2⟩ := div_bd (-n * a) d h5 (by omega) (by omega)
  go_enter Try.func39, Try.ntmps39
  go_wp2_with fail
  refine (floorOf_any (-n) a d (by omega) (by omega) h3 h4 h5 h6 _).mono ?_
  rintro e w' ⟨rfl, hb⟩
  obtain ⟨hchb, hfhb⟩ := bcell hb
  have hzhb := hb.size
  simp at hzhb
  have hzhb0 : w.heap.size < w'.heap.size := by omega
  have hBhb : Below w.heap.size w w' := Below.trans (by (repeat' (first | (with_reducible exact Below.refl _ _) | (with_reducible assumption) | (with_reducible refine Below.alloc ?_ ?_ _) | (with_reducible refine below_drewN ?_ _) | (with_reducible refine Below.drew ?_) | (with_reducible refine Below.setCell ?_ ?_ _) | go_size))) (hb.mono (by go_size))
  clear hb hzhb
  go_wp2
  go_ret2
  exact ⟨rfl, by (repeat' (first | (with_reducible exact Below.refl _ _) | (with_reducible assumption) | (with_reducible refine Below.alloc ?_ ?_ _) | (with_reducible refine below_drewN ?_ _) | (with_reducible refine Below.drew ?_) | (with_reducible refine Below.setCell ?_ ?_ _) | go_size))⟩

theorem mulCeil_out (n a d : Int) (h : n < -1099511627776 ∨ 1099511627776 < n) (w : World) :
    Calls Try.prog 39 #[.int .i64 n, .agg #[.int .i64 a, .int .i64 d]] w fun e w' => e = .returned (.tuple #[.int .i64 0, .int .i64 2]) ∧ Below w.heap.size w w' := by
  by_cases h1 : n < -1099511627776
  · go_enter Try.func39, Try.ntmps39
    go_wp2
    go_ret2
    exact ⟨rfl, by (repeat' (first | (with_reducible exact Below.refl _ _) | (with_reducible assumption) | (with_reducible refine Below.alloc ?_ ?_ _) | (with_reducible refine below_drewN ?_ _) | (with_reducible refine Below.drew ?_) | (with_reducible refine Below.setCell ?_ ?_ _) | go_size))⟩
  · have h2 : 1099511627776 < n := by omega
    clear h
    go_enter Try.func39, Try.ntmps39
    go_wp2
    go_ret2
    exact ⟨rfl, by (repeat' (first | (with_reducible exact Below.refl _ _) | (with_reducible assumption) | (with_reducible refine Below.alloc ?_ ?_ _) | (with_reducible refine below_drewN ?_ _) | (with_reducible refine Below.drew ?_) | (with_reducible refine Below.setCell ?_ ?_ _) | go_size))⟩

theorem rmulFloor_any (n a d : Int) (h1 : -1099511627776 ≤ n) (h2 : n ≤ 1099511627776) (h3 : -1048576 ≤ a) (h4 : a ≤ 1048576) (h5 : 1 ≤ d) (h6 : d ≤ 1048576) (w : World) :
    Calls Try.prog 40 #[.int .i64 n, .agg #[.int .i64 a, .int .i64 d]] w fun e w' => e = .returned (.int .i64 (n * a / d)) ∧ Below w.heap.size w w' := by
  obtain ⟨p1, p2⟩ := prod_bd h1 h2 h3 h4
  go_enter Try.func40, Try.ntmps40
  go_wp2_with fail
  refine (rfloor_any (n * a) d (by omega) (by omega) h5 h6 _).mono ?_
  rintro e w' ⟨rfl, rfl⟩
  go_wp2
  go_ret
  exact ⟨ret_int (by simp), by (repeat' (first | (with_reducible exact Below.refl _ _) | (with_reducible assumption) | (with_reducible refine Below.alloc ?_ ?_ _) | (with_reducible refine below_drewN ?_ _) | (with_reducible refine Below.drew ?_) | (with_reducible refine Below.setCell ?_ ?_ _) | go_size))⟩

theorem rmulCeil_any (n a d : Int) (h1 : -1099511627776 ≤ n) (h2 : n ≤ 1099511627776) (h3 : -1048576 ≤ a) (h4 : a ≤ 1048576) (h5 : 1 ≤ d) (h6 : d ≤ 1048576) (w : World) :
    Calls Try.prog 41 #[.int .i64 n, .agg #[.int .i64 a, .int .i64 d]] w fun e w' => e = .returned (.int .i64 (-(-n * a / d))) ∧ Below w.heap.size w w' := by
  obtain ⟨p1, p2⟩ := prod_bd (a := -n) (A := 1099511627776) (by omega) (by omega) h3 h4
  obtain ⟨p3, p4⟩ := prod_bd (a := n) (A := 1099511627776) (by omega) (by omega) h3 h4
  have e : -n * a = -(n * a) := Int.neg_mul _ _
  have E := Lib.hid e
  obtain ⟨u1, u2⟩ := div_bd (-(n * a)) d h5 (by omega) (by omega)
  rw [e]
  clear e p1 p2
  go_enter Try.func41, Try.ntmps41
  go_wp2_with fail
  refine (rfloor_any (-(n * a)) d (by omega) (by omega) h5 h6 _).mono ?_
  rintro e w' ⟨rfl, rfl⟩
  go_wp2
  go_ret
  exact ⟨ret_int (by simp), by (repeat' (first | (with_reducible exact Below.refl _ _) | (with_reducible assumption) | (with_reducible refine Below.alloc ?_ ?_ _) | (with_reducible refine below_drewN ?_ _) | (with_reducible refine Below.drew ?_) | (with_reducible refine Below.setCell ?_ ?_ _) | go_size))⟩

theorem rfloor1_any (a d : Int) (h3 : -1048576 ≤ a) (h4 : a ≤ 1048576) (h5 : 1 ≤ d) (h6 : d ≤ 1048576) (w : World) :
    Calls Try.prog 35 #[.agg #[.int .i64 a, .int .i64 d]] w fun e w' => e = .returned (.int .i64 (a / d)) ∧ Below w.heap.size w w' := by
  go_enter Try.func35, Try.ntmps35
  go_wp2_with fail
  refine (rmulFloor_any 1 a d (by omega) (by omega) h3 h4 h5 h6 _).mono ?_
  rintro e w' ⟨rfl, hb⟩
  obtain ⟨hchb, hfhb⟩ := bcell hb
  have hzhb := hb.size
  simp at hzhb
  have hzhb0 : w.heap.size < w'.heap.size := by omega
  have hBhb : Below w.heap.size w w' := Below.trans (by (repeat' (first | (with_reducible exact Below.refl _ _) | (with_reducible assumption) | (with_reducible refine Below.alloc ?_ ?_ _) | (with_reducible refine below_drewN ?_ _) | (with_reducible refine Below.drew ?_) | (with_reducible refine Below.setCell ?_ ?_ _) | go_size))) (hb.mono (by go_size))
  clear hb hzhb
  go_wp2
  go_ret
  exact ⟨ret_int (by simp), by (repeat' (first | (with_reducible exact Below.refl _ _) | (with_reducible assumption) | (with_reducible refine Below.alloc ?_ ?_ _) | (with_reducible refine below_drewN ?_ _) | (with_reducible refine Below.drew ?_) | (with_reducible refine Below.setCell ?_ ?_ _) | go_size))⟩

theorem rceil1_any (a d : Int) (h3 : -1048576 ≤ a) (h4 : a ≤ 1048576) (h5 : 1 ≤ d) (h6 : d ≤ 1048576) (w : World) :
    Calls Try.prog 37 #[.agg #[.int .i64 a, .int .i64 d]] w fun e w' => e = .returned (.int .i64 (-(-a / d))) ∧ Below w.heap.size w w' := by
  go_enter Try.func37, Try.ntmps37
  go_wp2_with fail
  refine (rmulCeil_any 1 a d (by omega) (by omega) h3 h4 h5 h6 _).mono ?_
  rintro e w' ⟨rfl, hb⟩
  obtain ⟨hchb, hfhb⟩ := bcell hb
  have hzhb := hb.size
  simp at hzhb
  have hzhb0 : w.heap.size < w'.heap.size := by omega
  have hBhb : Below w.heap.size w w' := Below.trans (by (repeat' (first | (with_reducible exact Below.refl _ _) | (with_reducible assumption) | (with_reducible refine Below.alloc ?_ ?_ _) | (with_reducible refine below_drewN ?_ _) | (with_reducible refine Below.drew ?_) | (with_reducible refine Below.setCell ?_ ?_ _) | go_size))) (hb.mono (by go_size))
  clear hb hzhb
  go_wp2
  go_ret
  exact ⟨ret_int (by simp), by (repeat' (first | (with_reducible exact Below.refl _ _) | (with_reducible assumption) | (with_reducible refine Below.alloc ?_ ?_ _) | (with_reducible refine below_drewN ?_ _) | (with_reducible refine Below.drew ?_) | (with_reducible refine Below.setCell ?_ ?_ _) | go_size))⟩
end Go.Proofs.Ytmhheepnojbgoaa
