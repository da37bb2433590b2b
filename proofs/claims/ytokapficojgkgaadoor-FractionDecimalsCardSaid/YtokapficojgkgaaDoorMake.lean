
/- What Make and Check return. -/
import Derived.Test.YtokapficojgkgaaDoorLeaf
import Derived.WalkSmall
import Derived.Handy
namespace Go.Proofs.YtokapficojgkgaaDoor
open Go.ChangeShapes Go.WideShapes Go.ChangeAt Go.RowKit Pl

theorem make_zero (x : Int) (w : World) :
    Calls Tryd.prog 12 #[.int .i64 x, .int .i64 0] w fun e w' => e = .returned (.tuple #[.agg #[.int .i64 0, .int .i64 0], .int .i64 19]) ∧ Below w.heap.size w w' := by
  go_enter Tryd.func12, Tryd.ntmps12
  go_wp2
  refine bodyPost_ret (v := .tuple #[.agg #[.int .i64 0, .int .i64 0], .int .i64 19]) (by simp [results, Tryd.results12, go_sem]) rfl ⟨rfl, ?_⟩
  (repeat' (first | (with_reducible exact Below.refl _ _) | (with_reducible assumption) | (with_reducible refine Below.alloc ?_ ?_ _) | (with_reducible refine below_drewN ?_ _) | (with_reducible refine Below.drew ?_) | (with_reducible refine Below.setCell ?_ ?_ _) | go_size))
set_option maxHeartbeats 1000000 in
theorem make_any (x y : Int) (h1 : -9223372036854775808 ≤ x) (h2 : x ≤ 9223372036854775807) (h3 : -9223372036854775808 ≤ y) (h4 : y ≤ 9223372036854775807) (h0 : y ≠ 0) (w : World) :
    Calls Tryd.prog 12 #[.int .i64 x, .int .i64 y] w fun e w' => e = .returned (.tuple #[.agg #[.int .i64 (mkN x y), .int .i64 (mkD x y)], .int .i64 (mkE x y)]) ∧ Below w.heap.size w w' := by
  have t0 : (y == 0) = false := by simp [h0]
  obtain ⟨g, a, b, hg, ⟨g1, g2⟩, ha, hb, ⟨a2, b2⟩, hbig, hok⟩ := mk_how x y h0 (by omega) (by omega)
  have Hg := Lib.hid hg
  have Ha := Lib.hid ha
  have Hb := Lib.hid hb
  have Hbig := Lib.hid hbig
  have Hok := Lib.hid hok
  clear hg ha hb hbig hok
  generalize mkN x y = N at *
  generalize mkD x y = D at *
  generalize mkE x y = E at *
  go_enter Tryd.func12, Tryd.ntmps12
  go_wp2_with fail
  refine (magnitude_any x h1 h2 _).mono ?_
  rintro e w' ⟨rfl, rfl⟩
  go_wp2_with fail
  refine (magnitude_any y h3 h4 _).mono ?_
  rintro e w' ⟨rfl, rfl⟩
  go_wp2_with fail
  refine (divisor_any x.natAbs y.natAbs (by omega) (by omega) _).mono ?_
  rintro e w' ⟨rfl, rfl⟩
  rw [Hg.out]
  go_wp2_with fail
  go_quiet (fail)
  rw [Ha.out, Hb.out]
  by_cases hc : 1048576 < (a : Int)
  · obtain ⟨rfl, rfl, rfl⟩ := Hbig.out (by omega)
    go_wp2
    refine bodyPost_ret (v := .tuple #[.agg #[.int .i64 0, .int .i64 0], .int .i64 20]) (by simp [results, Tryd.results12, go_sem]) rfl ⟨rfl, ?_⟩
    (repeat' (first | (with_reducible exact Below.refl _ _) | (with_reducible assumption) | (with_reducible refine Below.alloc ?_ ?_ _) | (with_reducible refine below_drewN ?_ _) | (with_reducible refine Below.drew ?_) | (with_reducible refine Below.setCell ?_ ?_ _) | go_size))
  · by_cases hc2 : 1048576 < (b : Int)
    · obtain ⟨rfl, rfl, rfl⟩ := Hbig.out (by omega)
      go_wp2
      refine bodyPost_ret (v := .tuple #[.agg #[.int .i64 0, .int .i64 0], .int .i64 20]) (by simp [results, Tryd.results12, go_sem]) rfl ⟨rfl, ?_⟩
      (repeat' (first | (with_reducible exact Below.refl _ _) | (with_reducible assumption) | (with_reducible refine Below.alloc ?_ ?_ _) | (with_reducible refine below_drewN ?_ _) | (with_reducible refine Below.drew ?_) | (with_reducible refine Below.setCell ?_ ?_ _) | go_size))
    · obtain ⟨k1, k2, k3, k4⟩ := Hok.out (by omega) (by omega)
      by_cases hx : x < 0 <;> by_cases hy : y < 0
      · have := k3 (by simp [hx, hy])
        subst k1 k2 this
        clear k3 k4
        go_wp2
        refine bodyPost_ret (v := .tuple #[.agg #[.int .i64 ((a : Int)), .int .i64 (b : Int)], .int .i64 0]) (by simp [results, Tryd.results12, go_sem]) rfl ⟨rfl, ?_⟩
        (repeat' (first | (with_reducible exact Below.refl _ _) | (with_reducible assumption) | (with_reducible refine Below.alloc ?_ ?_ _) | (with_reducible refine below_drewN ?_ _) | (with_reducible refine Below.drew ?_) | (with_reducible refine Below.setCell ?_ ?_ _) | go_size))
      · have := k4 (by simp [hx, hy])
        subst k1 k2 this
        clear k3 k4
        go_wp2
        refine bodyPost_ret (v := .tuple #[.agg #[.int .i64 (-(a : Int)), .int .i64 (b : Int)], .int .i64 0]) (by simp [results, Tryd.results12, go_sem]) rfl ⟨rfl, ?_⟩
        (repeat' (first | (with_reducible exact Below.refl _ _) | (with_reducible assumption) | (with_reducible refine Below.alloc ?_ ?_ _) | (with_reducible refine below_drewN ?_ _) | (with_reducible refine Below.drew ?_) | (with_reducible refine Below.setCell ?_ ?_ _) | go_size))
      · have := k4 (by simp [hx, hy])
        subst k1 k2 this
        clear k3 k4
        go_wp2
        refine bodyPost_ret (v := .tuple #[.agg #[.int .i64 (-(a : Int)), .int .i64 (b : Int)], .int .i64 0]) (by simp [results, Tryd.results12, go_sem]) rfl ⟨rfl, ?_⟩
        (repeat' (first | (with_reducible exact Below.refl _ _) | (with_reducible assumption) | (with_reducible refine Below.alloc ?_ ?_ _) | (with_reducible refine below_drewN ?_ _) | (with_reducible refine Below.drew ?_) | (with_reducible refine Below.setCell ?_ ?_ _) | go_size))
      · have := k3 (by simp [hx, hy])
        subst k1 k2 this
        clear k3 k4
        go_wp2
        refine bodyPost_ret (v := .tuple #[.agg #[.int .i64 ((a : Int)), .int .i64 (b : Int)], .int .i64 0]) (by simp [results, Tryd.results12, go_sem]) rfl ⟨rfl, ?_⟩
        (repeat' (first | (with_reducible exact Below.refl _ _) | (with_reducible assumption) | (with_reducible refine Below.alloc ?_ ?_ _) | (with_reducible refine below_drewN ?_ _) | (with_reducible refine Below.drew ?_) | (with_reducible refine Below.setCell ?_ ?_ _) | go_size))

set_option maxHeartbeats 2000000 in
theorem rmake_any (x y : Int) (h1 : -9223372036854775808 ≤ x) (h2 : x ≤ 9223372036854775807) (h3 : -9223372036854775808 ≤ y) (h4 : y ≤ 9223372036854775807) (h0 : y ≠ 0) (w : World) :
    Calls Tryd.prog 30 #[.int .i64 x, .int .i64 y] w fun e w' => e = .returned (.tuple #[.agg #[.int .i64 (mkN x y), .int .i64 (mkD x y)], .bool (decide (mkE x y = 0))]) ∧ Below w.heap.size w w' := by
  have t0 : (y == 0) = false := by simp [h0]
  obtain ⟨g, a, b, hg, ⟨g1, g2⟩, ha, hb, ⟨a2, b2⟩, hbig, hok⟩ := mk_how x y h0 (by omega) (by omega)
  have Hg := Lib.hid hg
  have Ha := Lib.hid ha
  have Hb := Lib.hid hb
  have Hbig := Lib.hid hbig
  have Hok := Lib.hid hok
  clear hg ha hb hbig hok
  generalize mkN x y = N at *
  generalize mkD x y = D at *
  generalize mkE x y = E at *
  obtain ⟨B, hB⟩ : ∃ B, decide (E = 0) = B := ⟨_, rfl⟩
  rw [hB]
  have HB := Lib.hid hB
  clear hB
  go_enter Tryd.func30, Tryd.ntmps30
  go_wp2_with fail
  refine (rmagnitude_any x h1 h2 _).mono ?_
  rintro e w' ⟨rfl, rfl⟩
  go_wp2_with fail
  refine (rmagnitude_any y h3 h4 _).mono ?_
  rintro e w' ⟨rfl, rfl⟩
  go_wp2_with fail
  refine (rdivisor_any x.natAbs y.natAbs (by omega) (by omega) _).mono ?_
  rintro e w' ⟨rfl, n, rfl⟩
  rw [Hg.out]
  go_wp2_with fail
  go_quiet (fail)
  rw [Ha.out, Hb.out]
  by_cases hc : 1048576 < (a : Int)
  · obtain ⟨k1, rfl, rfl⟩ := Hbig.out (by omega)
    have hd : B = false := by rw [← HB.out]; simp [k1]
    subst hd
    clear HB k1 Hbig Hok
    go_wp2
    refine bodyPost_ret (v := .tuple #[.agg #[.int .i64 0, .int .i64 0], .bool false]) (by simp [results, Tryd.results30, go_sem]) rfl ⟨rfl, ?_⟩
    (repeat' (first | (with_reducible exact Below.refl _ _) | (with_reducible assumption) | (with_reducible refine Below.alloc ?_ ?_ _) | (with_reducible refine below_drewN ?_ _) | (with_reducible refine Below.drew ?_) | (with_reducible refine Below.setCell ?_ ?_ _) | go_size))
  · by_cases hc2 : 1048576 < (b : Int)
    · obtain ⟨k1, rfl, rfl⟩ := Hbig.out (by omega)
      have hd : B = false := by rw [← HB.out]; simp [k1]
      subst hd
      clear HB k1 Hbig Hok
      go_wp2
      refine bodyPost_ret (v := .tuple #[.agg #[.int .i64 0, .int .i64 0], .bool false]) (by simp [results, Tryd.results30, go_sem]) rfl ⟨rfl, ?_⟩
      (repeat' (first | (with_reducible exact Below.refl _ _) | (with_reducible assumption) | (with_reducible refine Below.alloc ?_ ?_ _) | (with_reducible refine below_drewN ?_ _) | (with_reducible refine Below.drew ?_) | (with_reducible refine Below.setCell ?_ ?_ _) | go_size))
    · obtain ⟨k1, k2, k3, k4⟩ := Hok.out (by omega) (by omega)
      have hd : B = true := by rw [← HB.out]; simp [k1]
      subst hd
      clear HB k1 Hbig Hok
      by_cases hx : x < 0 <;> by_cases hy : y < 0
      · have := k3 (by simp [hx, hy])
        subst k2 this
        clear k3 k4
        go_wp2
        refine bodyPost_ret (v := .tuple #[.agg #[.int .i64 ((a : Int)), .int .i64 (b : Int)], .bool true]) (by simp [results, Tryd.results30, go_sem]) rfl ⟨rfl, ?_⟩
        (repeat' (first | (with_reducible exact Below.refl _ _) | (with_reducible assumption) | (with_reducible refine Below.alloc ?_ ?_ _) | (with_reducible refine below_drewN ?_ _) | (with_reducible refine Below.drew ?_) | (with_reducible refine Below.setCell ?_ ?_ _) | go_size))
      · have := k4 (by simp [hx, hy])
        subst k2 this
        clear k3 k4
        go_wp2
        refine bodyPost_ret (v := .tuple #[.agg #[.int .i64 (-(a : Int)), .int .i64 (b : Int)], .bool true]) (by simp [results, Tryd.results30, go_sem]) rfl ⟨rfl, ?_⟩
        (repeat' (first | (with_reducible exact Below.refl _ _) | (with_reducible assumption) | (with_reducible refine Below.alloc ?_ ?_ _) | (with_reducible refine below_drewN ?_ _) | (with_reducible refine Below.drew ?_) | (with_reducible refine Below.setCell ?_ ?_ _) | go_size))
      · have := k4 (by simp [hx, hy])
        subst k2 this
        clear k3 k4
        go_wp2
        refine bodyPost_ret (v := .tuple #[.agg #[.int .i64 (-(a : Int)), .int .i64 (b : Int)], .bool true]) (by simp [results, Tryd.results30, go_sem]) rfl ⟨rfl, ?_⟩
        (repeat' (first | (with_reducible exact Below.refl _ _) | (with_reducible assumption) | (with_reducible refine Below.alloc ?_ ?_ _) | (with_reducible refine below_drewN ?_ _) | (with_reducible refine Below.drew ?_) | (with_reducible refine Below.setCell ?_ ?_ _) | go_size))
      · have := k3 (by simp [hx, hy])
        subst k2 this
        clear k3 k4
        go_wp2
        refine bodyPost_ret (v := .tuple #[.agg #[.int .i64 ((a : Int)), .int .i64 (b : Int)], .bool true]) (by simp [results, Tryd.results30, go_sem]) rfl ⟨rfl, ?_⟩
        (repeat' (first | (with_reducible exact Below.refl _ _) | (with_reducible assumption) | (with_reducible refine Below.alloc ?_ ?_ _) | (with_reducible refine below_drewN ?_ _) | (with_reducible refine Below.drew ?_) | (with_reducible refine Below.setCell ?_ ?_ _) | go_size))
end Go.Proofs.YtokapficojgkgaaDoor
