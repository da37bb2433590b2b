
/- What the arithmetic of fractions returns. -/
import Derived.Test.YtokapficojgkgaaDoorCheck
import Derived.Deep.RegionWith
import Derived.Deep.DeepMust
namespace Go.Proofs.YtokapficojgkgaaDoor
open Go.ChangeShapes Go.WideShapes Go.ChangeAt Go.RowKit Pl

theorem of_any (x y : Int) (h1 : -9223372036854775808 ≤ x) (h2 : x ≤ 9223372036854775807) (h3 : -9223372036854775808 ≤ y) (h4 : y ≤ 9223372036854775807) (h0 : y ≠ 0) (w : World) :
    Calls Tryd.prog 14 #[.int .i64 x, .int .i64 y] w fun e w' => e = .returned (.agg #[.int .i64 (mkN x y), .int .i64 (mkD x y)]) ∧ Below w.heap.size w w' := by
  go_enter Tryd.func14, Tryd.ntmps14
  go_wp2_with fail
  refine (rmake_any x y h1 h2 h3 h4 h0 _).mono ?_
  rintro e w' ⟨rfl, hb⟩
  obtain ⟨hchb, hfhb⟩ := bcell hb
  have hzhb := hb.size
  try simp at hzhb
  have hzhb0 : w.heap.size < w'.heap.size := by omega
  have hBhb : Below w.heap.size w w' := Below.trans (by (repeat' (first | (with_reducible exact Below.refl _ _) | (with_reducible assumption) | (with_reducible refine Below.alloc ?_ ?_ _) | (with_reducible refine below_drewN ?_ _) | (with_reducible refine Below.drew ?_) | (with_reducible refine Below.setCell ?_ ?_ _) | go_size))) (hb.mono (by go_size))
  have hWhb : w.heap.size ≤ w'.heap.size := hBhb.size
  clear hb hzhb
  go_wp2
  refine bodyPost_ret (v := .agg #[.int .i64 (mkN x y), .int .i64 (mkD x y)]) (by simp [results, Tryd.results14, go_sem, *]) rfl ⟨rfl, by (repeat' (first | (with_reducible exact Below.refl _ _) | (with_reducible assumption) | (with_reducible refine Below.alloc ?_ ?_ _) | (with_reducible refine below_drewN ?_ _) | (with_reducible refine Below.drew ?_) | (with_reducible refine Below.setCell ?_ ?_ _) | go_size))⟩

theorem add_any (n d p q : Int) (h1 : -1048576 ≤ n) (h2 : n ≤ 1048576) (h3 : 1 ≤ d) (h4 : d ≤ 1048576) (h5 : -1048576 ≤ p) (h6 : p ≤ 1048576) (h7 : 1 ≤ q) (h8 : q ≤ 1048576) (w : World) :
    Calls Tryd.prog 13 #[.agg #[.int .i64 n, .int .i64 d], .agg #[.int .i64 p, .int .i64 q]] w fun e w' => e = .returned (.tuple #[.agg #[.int .i64 (mkN (n * q + p * d) (d * q)), .int .i64 (mkD (n * q + p * d) (d * q))], .int .i64 (mkE (n * q + p * d) (d * q))]) ∧ Below w.heap.size w w' := by
  obtain ⟨a1, a2⟩ := prod_bd h1 h2 (show -1048576 ≤ q by omega) h8
  obtain ⟨a3, a4⟩ := prod_bd h5 h6 (show -1048576 ≤ d by omega) h4
  obtain ⟨a5, a6⟩ := prod_bd (show -1048576 ≤ d by omega) h4 (show -1048576 ≤ q by omega) h8
  obtain ⟨a8, a9⟩ := prod_bd h1 h2 h5 h6
  obtain ⟨b1, b2⟩ := prod_bd (show -1048576 ≤ d by omega) h4 h5 h6
  have a7 := Int.mul_pos (show 0 < d by omega) (show 0 < q by omega)
  go_enter Tryd.func13, Tryd.ntmps13
  go_wp2_with fail
  refine (make_any (n * q + p * d) (d * q) (by omega) (by omega) (by omega) (by omega) (by omega) _).mono ?_
  rintro e w' ⟨rfl, hb⟩
  obtain ⟨hchb, hfhb⟩ := bcell hb
  have hzhb := hb.size
  try simp at hzhb
  have hzhb0 : w.heap.size < w'.heap.size := by omega
  have hzhb1 : w.heap.size + 1 < w'.heap.size := by omega
  have hzhb2 : w.heap.size + 1 + 1 < w'.heap.size := by omega
  have hBhb : Below w.heap.size w w' := Below.trans (by (repeat' (first | (with_reducible exact Below.refl _ _) | (with_reducible assumption) | (with_reducible refine Below.alloc ?_ ?_ _) | (with_reducible refine below_drewN ?_ _) | (with_reducible refine Below.drew ?_) | (with_reducible refine Below.setCell ?_ ?_ _) | go_size))) (hb.mono (by go_size))
  have hWhb : w.heap.size ≤ w'.heap.size := hBhb.size
  clear hb hzhb
  go_wp2
  refine bodyPost_ret (v := .tuple #[.agg #[.int .i64 (mkN (n * q + p * d) (d * q)), .int .i64 (mkD (n * q + p * d) (d * q))], .int .i64 (mkE (n * q + p * d) (d * q))]) (by simp [results, Tryd.results13, go_sem, *]) rfl ⟨rfl, by (repeat' (first | (with_reducible exact Below.refl _ _) | (with_reducible assumption) | (with_reducible refine Below.alloc ?_ ?_ _) | (with_reducible refine below_drewN ?_ _) | (with_reducible refine Below.drew ?_) | (with_reducible refine Below.setCell ?_ ?_ _) | go_size))⟩

end Go.Proofs.YtokapficojgkgaaDoor
