/- What the arithmetic of fractions returns. -/
import Derived.Test.YtmhheepnojbgoaaCheck
import Derived.Deep.RegionWith
import Derived.Deep.DeepMust
namespace Go.Proofs.Ytmhheepnojbgoaa
open Go.ChangeShapes Go.WideShapes Go.ChangeAt Go.RowKit Pl

theorem of_any (x y : Int) (h1 : -9223372036854775808 ≤ x) (h2 : x ≤ 9223372036854775807) (h3 : -9223372036854775808 ≤ y) (h4 : y ≤ 9223372036854775807) (h0 : y ≠ 0) (w : World) :
    Calls Try.prog 22 #[.int .i64 x, .int .i64 y] w fun e w' => e = .returned (.agg #[.int .i64 (mkN x y), .int .i64 (mkD x y)]) ∧ Below w.heap.size w w' := by
  go_enter Try.func22, Try.ntmps22
  go_wp2_with fail
  refine (rmake_any x y h1 h2 h3 h4 h0 _).mono ?_
  rintro e w' ⟨rfl, hb⟩
  obtain ⟨hchb, hfhb⟩ := bcell hb
  have hzhb := hb.size
  simp at hzhb
  have hzhb0 : w.heap.size < w'.heap.size := by omega
  have hBhb : Below w.heap.size w w' := Below.trans (by (repeat' (first | (with_reducible exact Below.refl _ _) | (with_reducible assumption) | (with_reducible refine Below.alloc ?_ ?_ _) | (with_reducible refine below_drewN ?_ _) | (with_reducible refine Below.drew ?_) | (with_reducible refine Below.setCell ?_ ?_ _) | go_size))) (hb.mono (by go_size))
  clear hb hzhb
  go_wp2
  refine bodyPost_ret (v := .agg #[.int .i64 (mkN x y), .int .i64 (mkD x y)]) (by simp [results, Try.results22, go_sem, *]) rfl ⟨rfl, by (repeat' (first | (with_reducible exact Below.refl _ _) | (with_reducible assumption) | (with_reducible refine Below.alloc ?_ ?_ _) | (with_reducible refine below_drewN ?_ _) | (with_reducible refine Below.drew ?_) | (with_reducible refine Below.setCell ?_ ?_ _) | go_size))⟩

theorem add_any (n d p q : Int) (h1 : -1048576 ≤ n) (h2 : n ≤ 1048576) (h3 : 1 ≤ d) (h4 : d ≤ 1048576) (h5 : -1048576 ≤ p) (h6 : p ≤ 1048576) (h7 : 1 ≤ q) (h8 : q ≤ 1048576) (w : World) :
    Calls Try.prog 26 #[.agg #[.int .i64 n, .int .i64 d], .agg #[.int .i64 p, .int .i64 q]] w fun e w' => e = .returned (.tuple #[.agg #[.int .i64 (mkN (n * q + p * d) (d * q)), .int .i64 (mkD (n * q + p * d) (d * q))], .int .i64 (mkE (n * q + p * d) (d * q))]) ∧ Below w.heap.size w w' := by
  obtain ⟨a1, a2⟩ := prod_bd h1 h2 (show -1048576 ≤ q by omega) h8
  obtain ⟨a3, a4⟩ := prod_bd h5 h6 (show -1048576 ≤ d by omega) h4
  obtain ⟨a5, a6⟩ := prod_bd (show -1048576 ≤ d by omega) h4 (show -1048576 ≤ q by omega) h8
  obtain ⟨a8, a9⟩ := prod_bd h1 h2 h5 h6
  obtain ⟨b1, b2⟩ := prod_bd (show -1048576 ≤ d by omega) h4 h5 h6
  have a7 := Int.mul_pos (show 0 < d by omega) (show 0 < q by omega)
  go_enter Try.func26, Try.ntmps26
  go_wp2_with fail
  refine (make_any (n * q + p * d) (d * q) (by omega) (by omega) (by omega) (by omega) (by omega) _).mono ?_
  rintro e w' ⟨rfl, hb⟩
  obtain ⟨hchb, hfhb⟩ := bcell hb
  have hzhb := hb.size
  simp at hzhb
  have hzhb0 : w.heap.size < w'.heap.size := by omega
  have hzhb1 : w.heap.size + 1 < w'.heap.size := by omega
  have hzhb2 : w.heap.size + 1 + 1 < w'.heap.size := by omega
  have hBhb : Below w.heap.size w w' := Below.trans (by (repeat' (first | (with_reducible exact Below.refl _ _) | (with_reducible assumption) | (with_reducible refine Below.alloc ?_ ?_ _) | (with_reducible refine below_drewN ?_ _) | (with_reducible refine Below.drew ?_) | (with_reducible refine Below.setCell ?_ ?_ _) | go_size))) (hb.mono (by go_size))
  clear hb hzhb
  go_wp2
  refine bodyPost_ret (v := .tuple #[.agg #[.int .i64 (mkN (n * q + p * d) (d * q)), .int .i64 (mkD (n * q + p * d) (d * q))], .int .i64 (mkE (n * q + p * d) (d * q))]) (by simp [results, Try.results26, go_sem, *]) rfl ⟨rfl, by (repeat' (first | (with_reducible exact Below.refl _ _) | (with_reducible assumption) | (with_reducible refine Below.alloc ?_ ?_ _) | (with_reducible refine below_drewN ?_ _) | (with_reducible refine Below.drew ?_) | (with_reducible refine Below.setCell ?_ ?_ _) | go_size))⟩

theorem radd_any (n d p q : Int) (h1 : -1048576 ≤ n) (h2 : n ≤ 1048576) (h3 : 1 ≤ d) (h4 : d ≤ 1048576) (h5 : -1048576 ≤ p) (h6 : p ≤ 1048576) (h7 : 1 ≤ q) (h8 : q ≤ 1048576) (w : World) :
    Calls Try.prog 27 #[.agg #[.int .i64 n, .int .i64 d], .agg #[.int .i64 p, .int .i64 q]] w fun e w' => e = .returned (.tuple #[.agg #[.int .i64 (mkN (n * q + p * d) (d * q)), .int .i64 (mkD (n * q + p * d) (d * q))], .bool (decide (mkE (n * q + p * d) (d * q) = 0))]) ∧ Below w.heap.size w w' := by
  obtain ⟨a1, a2⟩ := prod_bd h1 h2 (show -1048576 ≤ q by omega) h8
  obtain ⟨a3, a4⟩ := prod_bd h5 h6 (show -1048576 ≤ d by omega) h4
  obtain ⟨a5, a6⟩ := prod_bd (show -1048576 ≤ d by omega) h4 (show -1048576 ≤ q by omega) h8
  obtain ⟨a8, a9⟩ := prod_bd h1 h2 h5 h6
  obtain ⟨b1, b2⟩ := prod_bd (show -1048576 ≤ d by omega) h4 h5 h6
  have a7 := Int.mul_pos (show 0 < d by omega) (show 0 < q by omega)
  go_enter Try.func27, Try.ntmps27
  go_wp2_with fail
  refine (rmake_any (n * q + p * d) (d * q) (by omega) (by omega) (by omega) (by omega) (by omega) _).mono ?_
  rintro e w' ⟨rfl, hb⟩
  obtain ⟨hchb, hfhb⟩ := bcell hb
  have hzhb := hb.size
  simp at hzhb
  have hzhb0 : w.heap.size < w'.heap.size := by omega
  have hzhb1 : w.heap.size + 1 < w'.heap.size := by omega
  have hzhb2 : w.heap.size + 1 + 1 < w'.heap.size := by omega
  have hBhb : Below w.heap.size w w' := Below.trans (by (repeat' (first | (with_reducible exact Below.refl _ _) | (with_reducible assumption) | (with_reducible refine Below.alloc ?_ ?_ _) | (with_reducible refine below_drewN ?_ _) | (with_reducible refine Below.drew ?_) | (with_reducible refine Below.setCell ?_ ?_ _) | go_size))) (hb.mono (by go_size))
  clear hb hzhb
  go_wp2
  refine bodyPost_ret (v := .tuple #[.agg #[.int .i64 (mkN (n * q + p * d) (d * q)), .int .i64 (mkD (n * q + p * d) (d * q))], .bool (decide (mkE (n * q + p * d) (d * q) = 0))]) (by simp [results, Try.results27, go_sem, *]) rfl ⟨rfl, by (repeat' (first | (with_reducible exact Below.refl _ _) | (with_reducible assumption) | (with_reducible refine Below.alloc ?_ ?_ _) | (with_reducible refine below_drewN ?_ _) | (with_reducible refine Below.drew ?_) | (with_reducible refine Below.setCell ?_ ?_ _) | go_size))⟩

theorem rsub_any (n d p q : Int) (h1 : -1048576 ≤ n) (h2 : n ≤ 1048576) (h3 : 1 ≤ d) (h4 : d ≤ 1048576) (h5 : -1048576 ≤ p) (h6 : p ≤ 1048576) (h7 : 1 ≤ q) (h8 : q ≤ 1048576) (w : World) :
    Calls Try.prog 29 #[.agg #[.int .i64 n, .int .i64 d], .agg #[.int .i64 p, .int .i64 q]] w fun e w' => e = .returned (.tuple #[.agg #[.int .i64 (mkN (n * q - p * d) (d * q)), .int .i64 (mkD (n * q - p * d) (d * q))], .bool (decide (mkE (n * q - p * d) (d * q) = 0))]) ∧ Below w.heap.size w w' := by
  obtain ⟨a1, a2⟩ := prod_bd h1 h2 (show -1048576 ≤ q by omega) h8
  obtain ⟨a3, a4⟩ := prod_bd h5 h6 (show -1048576 ≤ d by omega) h4
  obtain ⟨a5, a6⟩ := prod_bd (show -1048576 ≤ d by omega) h4 (show -1048576 ≤ q by omega) h8
  obtain ⟨a8, a9⟩ := prod_bd h1 h2 h5 h6
  obtain ⟨b1, b2⟩ := prod_bd (show -1048576 ≤ d by omega) h4 h5 h6
  have a7 := Int.mul_pos (show 0 < d by omega) (show 0 < q by omega)
  go_enter Try.func29, Try.ntmps29
  go_wp2_with fail
  refine (rmake_any (n * q - p * d) (d * q) (by omega) (by omega) (by omega) (by omega) (by omega) _).mono ?_
  rintro e w' ⟨rfl, hb⟩
  obtain ⟨hchb, hfhb⟩ := bcell hb
  have hzhb := hb.size
  simp at hzhb
  have hzhb0 : w.heap.size < w'.heap.size := by omega
  have hzhb1 : w.heap.size + 1 < w'.heap.size := by omega
  have hzhb2 : w.heap.size + 1 + 1 < w'.heap.size := by omega
  have hBhb : Below w.heap.size w w' := Below.trans (by (repeat' (first | (with_reducible exact Below.refl _ _) | (with_reducible assumption) | (with_reducible refine Below.alloc ?_ ?_ _) | (with_reducible refine below_drewN ?_ _) | (with_reducible refine Below.drew ?_) | (with_reducible refine Below.setCell ?_ ?_ _) | go_size))) (hb.mono (by go_size))
  clear hb hzhb
  go_wp2
  refine bodyPost_ret (v := .tuple #[.agg #[.int .i64 (mkN (n * q - p * d) (d * q)), .int .i64 (mkD (n * q - p * d) (d * q))], .bool (decide (mkE (n * q - p * d) (d * q) = 0))]) (by simp [results, Try.results29, go_sem, *]) rfl ⟨rfl, by (repeat' (first | (with_reducible exact Below.refl _ _) | (with_reducible assumption) | (with_reducible refine Below.alloc ?_ ?_ _) | (with_reducible refine below_drewN ?_ _) | (with_reducible refine Below.drew ?_) | (with_reducible refine Below.setCell ?_ ?_ _) | go_size))⟩

theorem mul_any (n d p q : Int) (h1 : -1048576 ≤ n) (h2 : n ≤ 1048576) (h3 : 1 ≤ d) (h4 : d ≤ 1048576) (h5 : -1048576 ≤ p) (h6 : p ≤ 1048576) (h7 : 1 ≤ q) (h8 : q ≤ 1048576) (w : World) :
    Calls Try.prog 30 #[.agg #[.int .i64 n, .int .i64 d], .agg #[.int .i64 p, .int .i64 q]] w fun e w' => e = .returned (.tuple #[.agg #[.int .i64 (mkN (n * p) (d * q)), .int .i64 (mkD (n * p) (d * q))], .int .i64 (mkE (n * p) (d * q))]) ∧ Below w.heap.size w w' := by
  obtain ⟨a1, a2⟩ := prod_bd h1 h2 (show -1048576 ≤ q by omega) h8
  obtain ⟨a3, a4⟩ := prod_bd h5 h6 (show -1048576 ≤ d by omega) h4
  obtain ⟨a5, a6⟩ := prod_bd (show -1048576 ≤ d by omega) h4 (show -1048576 ≤ q by omega) h8
  obtain ⟨a8, a9⟩ := prod_bd h1 h2 h5 h6
  obtain ⟨b1, b2⟩ := prod_bd (show -1048576 ≤ d by omega) h4 h5 h6
  have a7 := Int.mul_pos (show 0 < d by omega) (show 0 < q by omega)
  go_enter Try.func30, Try.ntmps30
  go_wp2_with fail
  refine (make_any (n * p) (d * q) (by omega) (by omega) (by omega) (by omega) (by omega) _).mono ?_
  rintro e w' ⟨rfl, hb⟩
  obtain ⟨hchb, hfhb⟩ := bcell hb
  have hzhb := hb.size
  simp at hzhb
  have hzhb0 : w.heap.size < w'.heap.size := by omega
  have hzhb1 : w.heap.size + 1 < w'.heap.size := by omega
  have hzhb2 : w.heap.size + 1 + 1 < w'.heap.size := by omega
  have hBhb : Below w.heap.size w w' := Below.trans (by (repeat' (first | (with_reducible exact Below.refl _ _) | (with_reducible assumption) | (with_reducible refine Below.alloc ?_ ?_ _) | (with_reducible refine below_drewN ?_ _) | (with_reducible refine Below.drew ?_) | (with_reducible refine Below.setCell ?_ ?_ _) | go_size))) (hb.mono (by go_size))
  clear hb hzhb
  go_wp2
  refine bodyPost_ret (v := .tuple #[.agg #[.int .i64 (mkN (n * p) (d * q)), .int .i64 (mkD (n * p) (d * q))], .int .i64 (mkE (n * p) (d * q))]) (by simp [results, Try.results30, go_sem, *]) rfl ⟨rfl, by (repeat' (first | (with_reducible exact Below.refl _ _) | (with_reducible assumption) | (with_reducible refine Below.alloc ?_ ?_ _) | (with_reducible refine below_drewN ?_ _) | (with_reducible refine Below.drew ?_) | (with_reducible refine Below.setCell ?_ ?_ _) | go_size))⟩

theorem rmul_any (n d p q : Int) (h1 : -1048576 ≤ n) (h2 : n ≤ 1048576) (h3 : 1 ≤ d) (h4 : d ≤ 1048576) (h5 : -1048576 ≤ p) (h6 : p ≤ 1048576) (h7 : 1 ≤ q) (h8 : q ≤ 1048576) (w : World) :
    Calls Try.prog 31 #[.agg #[.int .i64 n, .int .i64 d], .agg #[.int .i64 p, .int .i64 q]] w fun e w' => e = .returned (.tuple #[.agg #[.int .i64 (mkN (n * p) (d * q)), .int .i64 (mkD (n * p) (d * q))], .bool (decide (mkE (n * p) (d * q) = 0))]) ∧ Below w.heap.size w w' := by
  obtain ⟨a1, a2⟩ := prod_bd h1 h2 (show -1048576 ≤ q by omega) h8
  obtain ⟨a3, a4⟩ := prod_bd h5 h6 (show -1048576 ≤ d by omega) h4
  obtain ⟨a5, a6⟩ := prod_bd (show -1048576 ≤ d by omega) h4 (show -1048576 ≤ q by omega) h8
  obtain ⟨a8, a9⟩ := prod_bd h1 h2 h5 h6
  obtain ⟨b1, b2⟩ := prod_bd (show -1048576 ≤ d by omega) h4 h5 h6
  have a7 := Int.mul_pos (show 0 < d by omega) (show 0 < q by omega)
  go_enter Try.func31, Try.ntmps31
  go_wp2_with fail
  refine (rmake_any (n * p) (d * q) (by omega) (by omega) (by omega) (by omega) (by omega) _).mono ?_
  rintro e w' ⟨rfl, hb⟩
  obtain ⟨hchb, hfhb⟩ := bcell hb
  have hzhb := hb.size
  simp at hzhb
  have hzhb0 : w.heap.size < w'.heap.size := by omega
  have hzhb1 : w.heap.size + 1 < w'.heap.size := by omega
  have hzhb2 : w.heap.size + 1 + 1 < w'.heap.size := by omega
  have hBhb : Below w.heap.size w w' := Below.trans (by (repeat' (first | (with_reducible exact Below.refl _ _) | (with_reducible assumption) | (with_reducible refine Below.alloc ?_ ?_ _) | (with_reducible refine below_drewN ?_ _) | (with_reducible refine Below.drew ?_) | (with_reducible refine Below.setCell ?_ ?_ _) | go_size))) (hb.mono (by go_size))
  clear hb hzhb
  go_wp2
  refine bodyPost_ret (v := .tuple #[.agg #[.int .i64 (mkN (n * p) (d * q)), .int .i64 (mkD (n * p) (d * q))], .bool (decide (mkE (n * p) (d * q) = 0))]) (by simp [results, Try.results31, go_sem, *]) rfl ⟨rfl, by (repeat' (first | (with_reducible exact Below.refl _ _) | (with_reducible assumption) | (with_reducible refine Below.alloc ?_ ?_ _) | (with_reducible refine below_drewN ?_ _) | (with_reducible refine Below.drew ?_) | (with_reducible refine Below.setCell ?_ ?_ _) | go_size))⟩

theorem div_any (n d p q : Int) (h1 : -1048576 ≤ n) (h2 : n ≤ 1048576) (h3 : 1 ≤ d) (h4 : d ≤ 1048576) (h5 : -1048576 ≤ p) (h6 : p ≤ 1048576) (h7 : 1 ≤ q) (h8 : q ≤ 1048576) (h9 : p ≠ 0) (w : World) :
    Calls Try.prog 32 #[.agg #[.int .i64 n, .int .i64 d], .agg #[.int .i64 p, .int .i64 q]] w fun e w' => e = .returned (.tuple #[.agg #[.int .i64 (mkN (n * q) (d * p)), .int .i64 (mkD (n * q) (d * p))], .int .i64 (mkE (n * q) (d * p))]) ∧ Below w.heap.size w w' := by
  obtain ⟨a1, a2⟩ := prod_bd h1 h2 (show -1048576 ≤ q by omega) h8
  obtain ⟨a3, a4⟩ := prod_bd h5 h6 (show -1048576 ≤ d by omega) h4
  obtain ⟨a5, a6⟩ := prod_bd (show -1048576 ≤ d by omega) h4 (show -1048576 ≤ q by omega) h8
  obtain ⟨a8, a9⟩ := prod_bd h1 h2 h5 h6
  obtain ⟨b1, b2⟩ := prod_bd (show -1048576 ≤ d by omega) h4 h5 h6
  have a7 := Int.mul_pos (show 0 < d by omega) (show 0 < q by omega)
  have nz : d * p ≠ 0 := Int.mul_ne_zero (by omega) h9
  go_enter Try.func32, Try.ntmps32
  go_wp2_with fail
  refine (make_any (n * q) (d * p) (by omega) (by omega) (by omega) (by omega) (by omega) _).mono ?_
  rintro e w' ⟨rfl, hb⟩
  obtain ⟨hchb, hfhb⟩ := bcell hb
  have hzhb := hb.size
  simp at hzhb
  have hzhb0 : w.heap.size < w'.heap.size := by omega
  have hzhb1 : w.heap.size + 1 < w'.heap.size := by omega
  have hzhb2 : w.heap.size + 1 + 1 < w'.heap.size := by omega
  have hBhb : Below w.heap.size w w' := Below.trans (by (repeat' (first | (with_reducible exact Below.refl _ _) | (with_reducible assumption) | (with_reducible refine Below.alloc ?_ ?_ _) | (with_reducible refine below_drewN ?_ _) | (with_reducible refine Below.drew ?_) | (with_reducible refine Below.setCell ?_ ?_ _) | go_size))) (hb.mono (by go_size))
  clear hb hzhb
  go_wp2
  refine bodyPost_ret (v := .tuple #[.agg #[.int .i64 (mkN (n * q) (d * p)), .int .i64 (mkD (n * q) (d * p))], .int .i64 (mkE (n * q) (d * p))]) (by simp [results, Try.results32, go_sem, *]) rfl ⟨rfl, by (repeat' (first | (with_reducible exact Below.refl _ _) | (with_reducible assumption) | (with_reducible refine Below.alloc ?_ ?_ _) | (with_reducible refine below_drewN ?_ _) | (with_reducible refine Below.drew ?_) | (with_reducible refine Below.setCell ?_ ?_ _) | go_size))⟩

theorem rdiv_any (n d p q : Int) (h1 : -1048576 ≤ n) (h2 : n ≤ 1048576) (h3 : 1 ≤ d) (h4 : d ≤ 1048576) (h5 : -1048576 ≤ p) (h6 : p ≤ 1048576) (h7 : 1 ≤ q) (h8 : q ≤ 1048576) (h9 : p ≠ 0) (w : World) :
    Calls Try.prog 33 #[.agg #[.int .i64 n, .int .i64 d], .agg #[.int .i64 p, .int .i64 q]] w fun e w' => e = .returned (.tuple #[.agg #[.int .i64 (mkN (n * q) (d * p)), .int .i64 (mkD (n * q) (d * p))], .bool (decide (mkE (n * q) (d * p) = 0))]) ∧ Below w.heap.size w w' := by
  obtain ⟨a1, a2⟩ := prod_bd h1 h2 (show -1048576 ≤ q by omega) h8
  obtain ⟨a3, a4⟩ := prod_bd h5 h6 (show -1048576 ≤ d by omega) h4
  obtain ⟨a5, a6⟩ := prod_bd (show -1048576 ≤ d by omega) h4 (show -1048576 ≤ q by omega) h8
  obtain ⟨a8, a9⟩ := prod_bd h1 h2 h5 h6
  obtain ⟨b1, b2⟩ := prod_bd (show -1048576 ≤ d by omega) h4 h5 h6
  have a7 := Int.mul_pos (show 0 < d by omega) (show 0 < q by omega)
  have nz : d * p ≠ 0 := Int.mul_ne_zero (by omega) h9
  go_enter Try.func33, Try.ntmps33
  go_wp2_with fail
  refine (rmake_any (n * q) (d * p) (by omega) (by omega) (by omega) (by omega) (by omega) _).mono ?_
  rintro e w' ⟨rfl, hb⟩
  obtain ⟨hchb, hfhb⟩ := bcell hb
  have hzhb := hb.size
  simp at hzhb
  have hzhb0 : w.heap.size < w'.heap.size := by omega
  have hzhb1 : w.heap.size + 1 < w'.heap.size := by omega
  have hzhb2 : w.heap.size + 1 + 1 < w'.heap.size := by omega
  have hBhb : Below w.heap.size w w' := Below.trans (by (repeat' (first | (with_reducible exact Below.refl _ _) | (with_reducible assumption) | (with_reducible refine Below.alloc ?_ ?_ _) | (with_reducible refine below_drewN ?_ _) | (with_reducible refine Below.drew ?_) | (with_reducible refine Below.setCell ?_ ?_ _) | go_size))) (hb.mono (by go_size))
  clear hb hzhb
  go_wp2
  refine bodyPost_ret (v := .tuple #[.agg #[.int .i64 (mkN (n * q) (d * p)), .int .i64 (mkD (n * q) (d * p))], .bool (decide (mkE (n * q) (d * p) = 0))]) (by simp [results, Try.results33, go_sem, *]) rfl ⟨rfl, by (repeat' (first | (with_reducible exact Below.refl _ _) | (with_reducible assumption) | (with_reducible refine Below.alloc ?_ ?_ _) | (with_reducible refine below_drewN ?_ _) | (with_reducible refine Below.drew ?_) | (with_reducible refine Below.setCell ?_ ?_ _) | go_size))⟩

theorem neg_any (n d : Int) (h1 : -1048576 ≤ n) (h2 : n ≤ 1048576) (w : World) :
    Calls Try.prog 25 #[.agg #[.int .i64 n, .int .i64 d]] w fun e w' => e = .returned (.agg #[.int .i64 (-n), .int .i64 d]) ∧ Below w.heap.size w w' := by
  go_enter Try.func25, Try.ntmps25
  go_wp2
  refine bodyPost_ret (v := .agg #[.int .i64 (-n), .int .i64 d]) (by simp [results, Try.results25, go_sem, *]) rfl ⟨rfl, by (repeat' (first | (with_reducible exact Below.refl _ _) | (with_reducible assumption) | (with_reducible refine Below.alloc ?_ ?_ _) | (with_reducible refine below_drewN ?_ _) | (with_reducible refine Below.drew ?_) | (with_reducible refine Below.setCell ?_ ?_ _) | go_size))⟩

set_option maxHeartbeats 1000000 in
theorem sub_any (n d p q : Int) (h1 : -1048576 ≤ n) (h2 : n ≤ 1048576) (h3 : 1 ≤ d) (h4 : d ≤ 1048576) (h5 : -1048576 ≤ p) (h6 : p ≤ 1048576) (h7 : 1 ≤ q) (h8 : q ≤ 1048576) (w : World) :
    Calls Try.prog 28 #[.agg #[.int .i64 n, .int .i64 d], .agg #[.int .i64 p, .int .i64 q]] w fun e w' => e = .returned (.tuple #[.agg #[.int .i64 (mkN (n * q + -p * d) (d * q)), .int .i64 (mkD (n * q + -p * d) (d * q))], .int .i64 (mkE (n * q + -p * d) (d * q))]) ∧ Below w.heap.size w w' := by
  go_enter Try.func28, Try.ntmps28
  go_wp2_with fail
  go_region_with ((first | (go_at_call 25; go_must (refine (neg_any p q h5 h6 _).mono ?_; rintro e w1 ⟨rfl, hb⟩; obtain ⟨hc, hf⟩ := bcell hb; have hz := hb.size; simp at hz; have hz0 : w.heap.size < w1.heap.size := (by omega); have hz1 : w.heap.size + 1 < w1.heap.size := (by omega); have hz2 : w.heap.size + 1 + 1 < w1.heap.size := (by omega); have hB : Below w.heap.size w w1 := Below.trans (by (repeat' (first | (with_reducible exact Below.refl _ _) | (with_reducible assumption) | (with_reducible refine Below.alloc ?_ ?_ _) | (with_reducible refine below_drewN ?_ _) | (with_reducible refine Below.drew ?_) | (with_reducible refine Below.setCell ?_ ?_ _) | go_size))) (hb.mono (by go_size)); clear hb hz)) | (go_at_call 26; refine (add_any n d (-p) q h1 h2 h3 h4 (by omega) (by omega) h7 h8 _).mono ?_; rintro e w2 ⟨rfl, hb2⟩; obtain ⟨hc2, hf2⟩ := bcell hb2; have hz' := hb2.size; have hy0 : w.heap.size < w2.heap.size := (by omega); have hy1 : w.heap.size + 1 < w2.heap.size := (by omega); have hy2 : w.heap.size + 1 + 1 < w2.heap.size := (by omega); have hB2 : Below w.heap.size w w2 := Below.trans (by assumption) (hb2.mono (by omega)); clear hb2 hz')))
  all_goals go_wp2
  all_goals refine bodyPost_ret (v := (.tuple #[.agg #[.int .i64 (mkN (n * q + -p * d) (d * q)), .int .i64 (mkD (n * q + -p * d) (d * q))], .int .i64 (mkE (n * q + -p * d) (d * q))])) (by simp [results, Try.results28, go_sem, *]) rfl ⟨rfl, by (repeat' (first | (with_reducible exact Below.refl _ _) | (with_reducible assumption) | (with_reducible refine Below.alloc ?_ ?_ _) | (with_reducible refine below_drewN ?_ _) | (with_reducible refine Below.drew ?_) | (with_reducible refine Below.setCell ?_ ?_ _) | go_size))⟩

theorem div_zero (n d q : Int) (h1 : -1048576 ≤ n) (h2 : n ≤ 1048576) (h7 : 1 ≤ q) (h8 : q ≤ 1048576) (w : World) :
    Calls Try.prog 32 #[.agg #[.int .i64 n, .int .i64 d], .agg #[.int .i64 0, .int .i64 q]] w fun e w' => e = .returned (.tuple #[.agg #[.int .i64 0, .int .i64 0], .int .i64 19]) ∧ Below w.heap.size w w' := by
  obtain ⟨a1, a2⟩ := prod_bd h1 h2 (show -1048576 ≤ q by omega) h8
  go_enter Try.func32, Try.ntmps32
  go_wp2_with fail
  refine (make_zero (n * q) _).mono ?_
  rintro e w' ⟨rfl, hb⟩
  obtain ⟨hchb, hfhb⟩ := bcell hb
  have hzhb := hb.size
  simp at hzhb
  have hzhb0 : w.heap.size < w'.heap.size := by omega
  have hzhb1 : w.heap.size + 1 < w'.heap.size := by omega
  have hzhb2 : w.heap.size + 1 + 1 < w'.heap.size := by omega
  have hBhb : Below w.heap.size w w' := Below.trans (by (repeat' (first | (with_reducible exact Below.refl _ _) | (with_reducible assumption) | (with_reducible refine Below.alloc ?_ ?_ _) | (with_reducible refine below_drewN ?_ _) | (with_reducible refine Below.drew ?_) | (with_reducible refine Below.setCell ?_ ?_ _) | go_size))) (hb.mono (by go_size))
  clear hb hzhb
  go_wp2
  refine bodyPost_ret (v := .tuple #[.agg #[.int .i64 0, .int .i64 0], .int .i64 19]) (by simp [results, Try.results32, go_sem, *]) rfl ⟨rfl, by (repeat' (first | (with_reducible exact Below.refl _ _) | (with_reducible assumption) | (with_reducible refine Below.alloc ?_ ?_ _) | (with_reducible refine below_drewN ?_ _) | (with_reducible refine Below.drew ?_) | (with_reducible refine Below.setCell ?_ ?_ _) | go_size))⟩

end Go.Proofs.Ytmhheepnojbgoaa
