/- The statement FractionAssociates: for any three fractions, the law returns true and changes nothing. No condition. -/
import Derived.Test.YtmhheepnojbgoaaAsBad
namespace Go.Proofs.Ytmhheepnojbgoaa.lawAssociates
open Go.Proofs.Ytmhheepnojbgoaa Go.ChangeShapes Go.WideShapes Go.ChangeAt Go.RowKit Go.Joins Pl

theorem mk_le {x y K J : Int} (h1 : -K ≤ x) (h2 : x ≤ K) (h3 : 1 ≤ y) (h4 : y ≤ J) (hK : K ≤ 1048576) (hJ : J ≤ 1048576) :
    mkE x y = 0 ∧ -K ≤ mkN x y ∧ mkN x y ≤ K ∧ 1 ≤ mkD x y ∧ mkD x y ≤ J := by
  have hy : y ≠ 0 := by omega
  have he := mk_small (x := x) hy (by omega) (by omega)
  refine ⟨he, ?_⟩
  obtain ⟨a, b, hg, hx, hyy, hc, ha, hb, hb1, hd, hn⟩ := mk_parts hy he
  have g1 : a ≤ gI x y * a := Nat.le_mul_of_pos_left _ hg
  have g2 : b ≤ gI x y * b := Nat.le_mul_of_pos_left _ hg
  rw [← hx] at g1
  rw [← hyy] at g2
  clear hx hyy hc ha hb he
  rw [hd, hn]
  have k1 : (a : Int) ≤ K := by omega
  have k2 : (b : Int) ≤ J := by omega
  refine ⟨?_, ?_, by omega, k2⟩
  · split <;> omega
  · split <;> omega

theorem add_small {n d p q A B C D : Int} (h1 : -A ≤ n) (h2 : n ≤ A) (h3 : 1 ≤ d) (h4 : d ≤ B) (h5 : -C ≤ p) (h6 : p ≤ C) (h7 : 1 ≤ q) (h8 : q ≤ D) :
    (-(A * D + C * B) ≤ n * q + p * d ∧ n * q + p * d ≤ A * D + C * B) ∧ (1 ≤ d * q ∧ d * q ≤ B * D) ∧ (-(A * C) ≤ n * p ∧ n * p ≤ A * C) := by
  obtain ⟨a1, a2⟩ := prod_bd h1 h2 (show -D ≤ q by omega) h8
  obtain ⟨a3, a4⟩ := prod_bd h5 h6 (show -B ≤ d by omega) h4
  obtain ⟨a5, a6⟩ := prod_bd (show -B ≤ d by omega) h4 (show -D ≤ q by omega) h8
  obtain ⟨a7, a8⟩ := prod_bd h1 h2 h5 h6
  have a9 := Int.mul_pos (show 0 < d by omega) (show 0 < q by omega)
  exact ⟨⟨by omega, by omega⟩, ⟨by omega, by omega⟩, ⟨by omega, by omega⟩⟩

/-- What the law computes first of two small fractions fits, and is small. -/
theorem pair {n d p q : Int} (f2 : -60 ≤ n) (f1 : n ≤ 60) (f4 : 1 ≤ d) (f3 : d ≤ 60) (g2 : -60 ≤ p) (g1 : p ≤ 60) (g4 : 1 ≤ q) (g3 : q ≤ 60) :
    (mkE (n * q + p * d) (d * q) = 0 ∧ -7200 ≤ mkN (n * q + p * d) (d * q) ∧ mkN (n * q + p * d) (d * q) ≤ 7200 ∧ 1 ≤ mkD (n * q + p * d) (d * q) ∧ mkD (n * q + p * d) (d * q) ≤ 3600) ∧
    (mkE (n * p) (d * q) = 0 ∧ -3600 ≤ mkN (n * p) (d * q) ∧ mkN (n * p) (d * q) ≤ 3600 ∧ 1 ≤ mkD (n * p) (d * q) ∧ mkD (n * p) (d * q) ≤ 3600) := by
  obtain ⟨⟨s1, s2⟩, ⟨s3, s4⟩, ⟨s5, s6⟩⟩ := add_small (A := 60) (B := 60) (C := 60) (D := 60) f2 f1 f4 f3 g2 g1 g4 g3
  exact ⟨mk_le (by omega) (by omega) s3 (by omega) (by omega) (by omega), mk_le (by omega) (by omega) s3 (by omega) (by omega) (by omega)⟩

theorem small_parts {n d : Int} (h : small n d) : -60 ≤ n ∧ n ≤ 60 ∧ 1 ≤ d ∧ d ≤ 60 := by
  obtain ⟨c, h1, h2, h3⟩ := h
  have h4 : canon n d := of_decide_eq_true c
  exact ⟨h2, h1, h4.1, h3⟩

set_option maxHeartbeats 4000000 in
set_option maxRecDepth 100000 in
theorem walk_good (n d : Int) (hn1 : -9223372036854775808 ≤ n) (hn2 : n ≤ 9223372036854775807) (hd1 : -9223372036854775808 ≤ d) (hd2 : d ≤ 9223372036854775807) (p q : Int) (hp1 : -9223372036854775808 ≤ p) (hp2 : p ≤ 9223372036854775807) (hq1 : -9223372036854775808 ≤ q) (hq2 : q ≤ 9223372036854775807) (k l : Int) (hk1 : -9223372036854775808 ≤ k) (hk2 : k ≤ 9223372036854775807) (hl1 : -9223372036854775808 ≤ l) (hl2 : l ≤ 9223372036854775807) (gf : small n d) (gg : small p q) (gh : small k l) (w : World) :
    Calls Try.prog 8 #[.agg #[.int .i64 n, .int .i64 d], .agg #[.int .i64 p, .int .i64 q], .agg #[.int .i64 k, .int .i64 l]] w fun e w' => e = .returned (.bool true) ∧ Below w.heap.size w w' := by
  obtain ⟨f2, f1, f4, f3⟩ := small_parts gf
  obtain ⟨g2, g1, g4, g3⟩ := small_parts gg
  obtain ⟨h2, h1, h4, h3⟩ := small_parts gh
  have c1 := gf.1
  have c2 := gg.1
  have c3 := gh.1
  clear gf gg gh
  obtain ⟨⟨e1, a1, a2, a3, a4⟩, ⟨e3, m1, m2, m3, m4⟩⟩ := pair f2 f1 f4 f3 g2 g1 g4 g3
  obtain ⟨⟨e2, b1, b2, b3, b4⟩, ⟨e4, n1, n2, n3, n4⟩⟩ := pair g2 g1 g4 g3 h2 h1 h4 h3
  obtain ⟨⟨s1, s2⟩, ⟨s3, s4⟩, -⟩ := add_small (A := 7200) (B := 3600) (C := 60) (D := 60) a1 a2 a3 a4 h2 h1 h4 h3
  obtain ⟨-, ⟨u3, u4⟩, ⟨u5, u6⟩⟩ := add_small (A := 3600) (B := 3600) (C := 60) (D := 60) m1 m2 m3 m4 h2 h1 h4 h3
  have e5 := (mk_le s1 s2 s3 s4 (by decide) (by decide)).1
  have e6 := (mk_le u5 u6 u3 u4 (by decide) (by decide)).1
  obtain ⟨r1, r2, r3⟩ := assoc_add (by omega) (by omega) (by omega) e1 e2 e5
  obtain ⟨v1, v2, v3⟩ := assoc_mul (by omega) (by omega) (by omega) e3 e4 e6
  have B0 := Lib.hid c1
  have B1 := Lib.hid c2
  have B2 := Lib.hid c3
  have R1 := Lib.hid r1
  have R2 := Lib.hid r2
  have R3 := Lib.hid r3
  have V1 := Lib.hid v1
  have V2 := Lib.hid v2
  have V3 := Lib.hid v3
  have E5 := Lib.hid e5
  have E6 := Lib.hid e6
  clear c1 c2 c3 r1 r2 r3 v1 v2 v3 e1 e2 e3 e4 e5 e6 s1 s2 s3 s4 u3 u4 u5 u6
  go_enter Try.func8, Try.ntmps8
  go_wp2_with fail
  refine wp_loop_rounds 4 ?_
  rw [rounds_succ]
  go_wp2_with fail
  refine (rcheck_any n d hn1 hn2 hd1 hd2 _).mono ?_
  rintro e x0 ⟨rfl, hbx0⟩
  obtain ⟨hchbx0, hfhbx0⟩ := bcell hbx0
  have hzhbx0 := hbx0.size
  try simp at hzhbx0
  have hzhbx00 : w.heap.size < x0.heap.size := by omega
  have hzhbx01 : w.heap.size + 1 < x0.heap.size := by omega
  have hzhbx02 : w.heap.size + 1 + 1 < x0.heap.size := by omega
  have hzhbx03 : w.heap.size + 1 + 1 + 1 < x0.heap.size := by omega
  have hBhbx0 : Below w.heap.size w x0 := Below.trans (by (repeat' (first | (with_reducible exact Below.refl _ _) | (with_reducible assumption) | (with_reducible refine Below.alloc ?_ ?_ _) | (with_reducible refine below_drewN ?_ _) | (with_reducible refine Below.drew ?_) | (with_reducible refine Below.setCell ?_ ?_ _) | go_size))) (hbx0.mono (by go_size))
  have hWhbx0 : w.heap.size ≤ x0.heap.size := hBhbx0.size
  clear hbx0 hzhbx0
  rw [B0.out]
  go_wp2_with fail
  rw [rounds_succ]
  go_wp2_with fail
  refine (rcheck_any p q hp1 hp2 hq1 hq2 _).mono ?_
  rintro e x1 ⟨rfl, hbx1⟩
  obtain ⟨hchbx1, hfhbx1⟩ := bcell hbx1
  have hzhbx1 := hbx1.size
  try simp at hzhbx1
  have hzhbx10 : w.heap.size < x1.heap.size := by omega
  have hzhbx11 : w.heap.size + 1 < x1.heap.size := by omega
  have hzhbx12 : w.heap.size + 1 + 1 < x1.heap.size := by omega
  have hzhbx13 : w.heap.size + 1 + 1 + 1 < x1.heap.size := by omega
  have hBhbx1 : Below w.heap.size w x1 := Below.trans (by (repeat' (first | (with_reducible exact Below.refl _ _) | (with_reducible assumption) | (with_reducible refine Below.alloc ?_ ?_ _) | (with_reducible refine below_drewN ?_ _) | (with_reducible refine Below.drew ?_) | (with_reducible refine Below.setCell ?_ ?_ _) | go_size))) (hbx1.mono (by go_size))
  have hWhbx1 : w.heap.size ≤ x1.heap.size := hBhbx1.size
  clear hbx1 hzhbx1
  rw [B1.out]
  go_wp2_with fail
  rw [rounds_succ]
  go_wp2_with fail
  refine (rcheck_any k l hk1 hk2 hl1 hl2 _).mono ?_
  rintro e x2 ⟨rfl, hbx2⟩
  obtain ⟨hchbx2, hfhbx2⟩ := bcell hbx2
  have hzhbx2 := hbx2.size
  try simp at hzhbx2
  have hzhbx20 : w.heap.size < x2.heap.size := by omega
  have hzhbx21 : w.heap.size + 1 < x2.heap.size := by omega
  have hzhbx22 : w.heap.size + 1 + 1 < x2.heap.size := by omega
  have hzhbx23 : w.heap.size + 1 + 1 + 1 < x2.heap.size := by omega
  have hBhbx2 : Below w.heap.size w x2 := Below.trans (by (repeat' (first | (with_reducible exact Below.refl _ _) | (with_reducible assumption) | (with_reducible refine Below.alloc ?_ ?_ _) | (with_reducible refine below_drewN ?_ _) | (with_reducible refine Below.drew ?_) | (with_reducible refine Below.setCell ?_ ?_ _) | go_size))) (hbx2.mono (by go_size))
  have hWhbx2 : w.heap.size ≤ x2.heap.size := hBhbx2.size
  clear hbx2 hzhbx2
  rw [B2.out]
  go_wp2_with fail
  rw [rounds_succ]
  go_wp2_with fail
  refine (known_any _).mono ?_
  rintro e y ⟨rfl, hby⟩
  obtain ⟨hchby, hfhby⟩ := bcell hby
  have hzhby := hby.size
  try simp at hzhby
  have hzhby0 : w.heap.size < y.heap.size := by omega
  have hzhby1 : w.heap.size + 1 < y.heap.size := by omega
  have hzhby2 : w.heap.size + 1 + 1 < y.heap.size := by omega
  have hzhby3 : w.heap.size + 1 + 1 + 1 < y.heap.size := by omega
  have hBhby : Below w.heap.size w y := Below.trans (by (repeat' (first | (with_reducible exact Below.refl _ _) | (with_reducible assumption) | (with_reducible refine Below.alloc ?_ ?_ _) | (with_reducible refine below_drewN ?_ _) | (with_reducible refine Below.drew ?_) | (with_reducible refine Below.setCell ?_ ?_ _) | go_size))) (hby.mono (by go_size))
  have hWhby : w.heap.size ≤ y.heap.size := hBhby.size
  clear hby hzhby
  have k00 : y.cell? ⟨w.heap.size, 0, none⟩ = some (.int .i64 n) := by simp [*, go_sem]
  have k01 : y.cell? ⟨w.heap.size, 1, none⟩ = some (.int .i64 d) := by simp [*, go_sem]
  have k10 : y.cell? ⟨w.heap.size + 1, 0, none⟩ = some (.int .i64 p) := by simp [*, go_sem]
  have k11 : y.cell? ⟨w.heap.size + 1, 1, none⟩ = some (.int .i64 q) := by simp [*, go_sem]
  have k20 : y.cell? ⟨w.heap.size + 1 + 1, 0, none⟩ = some (.int .i64 k) := by simp [*, go_sem]
  have k21 : y.cell? ⟨w.heap.size + 1 + 1, 1, none⟩ = some (.int .i64 l) := by simp [*, go_sem]
  clear hchbx0 hfhbx0 hchbx1 hfhbx1 hchbx2 hfhbx2 hchby hfhby
  go_wp2_with fail
  refine (add_any n d p q (by omega) (by omega) (by omega) (by omega) (by omega) (by omega) (by omega) (by omega) _).mono ?_
  rintro e w1 ⟨rfl, hbw1⟩
  obtain ⟨hchbw1, hfhbw1⟩ := bcell hbw1
  have hzhbw1 := hbw1.size
  try simp at hzhbw1
  have hzhbw10 : w.heap.size < w1.heap.size := by omega
  have hzhbw11 : w.heap.size + 1 < w1.heap.size := by omega
  have hzhbw12 : w.heap.size + 1 + 1 < w1.heap.size := by omega
  have hBhbw1 : Below w.heap.size w w1 := Below.trans (by (repeat' (first | (with_reducible exact Below.refl _ _) | (with_reducible assumption) | (with_reducible refine Below.alloc ?_ ?_ _) | (with_reducible refine below_drewN ?_ _) | (with_reducible refine Below.drew ?_) | (with_reducible refine Below.setCell ?_ ?_ _) | go_size))) (hbw1.mono (by go_size))
  have hWhbw1 : w.heap.size ≤ w1.heap.size := hBhbw1.size
  clear hbw1 hzhbw1
  go_wp2_with fail
  refine (add_any p q k l (by omega) (by omega) (by omega) (by omega) (by omega) (by omega) (by omega) (by omega) _).mono ?_
  rintro e w2 ⟨rfl, hbw2⟩
  obtain ⟨hchbw2, hfhbw2⟩ := bcell hbw2
  have hzhbw2 := hbw2.size
  try simp at hzhbw2
  have hzhbw20 : w.heap.size < w2.heap.size := by omega
  have hzhbw21 : w.heap.size + 1 < w2.heap.size := by omega
  have hzhbw22 : w.heap.size + 1 + 1 < w2.heap.size := by omega
  have hzhbw23 : w1.heap.size < w2.heap.size := by omega
  have hBhbw2 : Below w.heap.size w w2 := Below.trans (by (repeat' (first | (with_reducible exact Below.refl _ _) | (with_reducible assumption) | (with_reducible refine Below.alloc ?_ ?_ _) | (with_reducible refine below_drewN ?_ _) | (with_reducible refine Below.drew ?_) | (with_reducible refine Below.setCell ?_ ?_ _) | go_size))) (hbw2.mono (by go_size))
  have hWhbw2 : w.heap.size ≤ w2.heap.size := hBhbw2.size
  clear hbw2 hzhbw2
  go_wp2_with fail
  refine (add_any (mkN (n * q + p * d) (d * q)) (mkD (n * q + p * d) (d * q)) k l (by omega) (by omega) (by omega) (by omega) (by omega) (by omega) (by omega) (by omega) _).mono ?_
  rintro e w3 ⟨rfl, hbw3⟩
  obtain ⟨hchbw3, hfhbw3⟩ := bcell hbw3
  have hzhbw3 := hbw3.size
  try simp at hzhbw3
  have hzhbw30 : w.heap.size < w3.heap.size := by omega
  have hzhbw31 : w.heap.size + 1 < w3.heap.size := by omega
  have hzhbw32 : w.heap.size + 1 + 1 < w3.heap.size := by omega
  have hzhbw33 : w1.heap.size < w3.heap.size := by omega
  have hzhbw34 : w2.heap.size < w3.heap.size := by omega
  have hBhbw3 : Below w.heap.size w w3 := Below.trans (by (repeat' (first | (with_reducible exact Below.refl _ _) | (with_reducible assumption) | (with_reducible refine Below.alloc ?_ ?_ _) | (with_reducible refine below_drewN ?_ _) | (with_reducible refine Below.drew ?_) | (with_reducible refine Below.setCell ?_ ?_ _) | go_size))) (hbw3.mono (by go_size))
  have hWhbw3 : w.heap.size ≤ w3.heap.size := hBhbw3.size
  clear hbw3 hzhbw3
  rw [E5.out]
  go_wp2_with fail
  refine (add_any n d (mkN (p * l + k * q) (q * l)) (mkD (p * l + k * q) (q * l)) (by omega) (by omega) (by omega) (by omega) (by omega) (by omega) (by omega) (by omega) _).mono ?_
  rintro e w4 ⟨rfl, hbw4⟩
  obtain ⟨hchbw4, hfhbw4⟩ := bcell hbw4
  have hzhbw4 := hbw4.size
  try simp at hzhbw4
  have hzhbw40 : w.heap.size < w4.heap.size := by omega
  have hzhbw41 : w.heap.size + 1 < w4.heap.size := by omega
  have hzhbw42 : w.heap.size + 1 + 1 < w4.heap.size := by omega
  have hzhbw43 : w3.heap.size < w4.heap.size := by omega
  have hBhbw4 : Below w.heap.size w w4 := Below.trans (by (repeat' (first | (with_reducible exact Below.refl _ _) | (with_reducible assumption) | (with_reducible refine Below.alloc ?_ ?_ _) | (with_reducible refine below_drewN ?_ _) | (with_reducible refine Below.drew ?_) | (with_reducible refine Below.setCell ?_ ?_ _) | go_size))) (hbw4.mono (by go_size))
  have hWhbw4 : w.heap.size ≤ w4.heap.size := hBhbw4.size
  clear hbw4 hzhbw4
  rw [R1.out, R2.out, R3.out]
  go_wp2_with fail
  refine (mul_any n d p q (by omega) (by omega) (by omega) (by omega) (by omega) (by omega) (by omega) (by omega) _).mono ?_
  rintro e w5 ⟨rfl, hbw5⟩
  obtain ⟨hchbw5, hfhbw5⟩ := bcell hbw5
  have hzhbw5 := hbw5.size
  try simp at hzhbw5
  have hzhbw50 : w.heap.size < w5.heap.size := by omega
  have hzhbw51 : w.heap.size + 1 < w5.heap.size := by omega
  have hzhbw52 : w.heap.size + 1 + 1 < w5.heap.size := by omega
  have hzhbw53 : w3.heap.size < w5.heap.size := by omega
  have hzhbw54 : w4.heap.size < w5.heap.size := by omega
  have hBhbw5 : Below w.heap.size w w5 := Below.trans (by (repeat' (first | (with_reducible exact Below.refl _ _) | (with_reducible assumption) | (with_reducible refine Below.alloc ?_ ?_ _) | (with_reducible refine below_drewN ?_ _) | (with_reducible refine Below.drew ?_) | (with_reducible refine Below.setCell ?_ ?_ _) | go_size))) (hbw5.mono (by go_size))
  have hWhbw5 : w.heap.size ≤ w5.heap.size := hBhbw5.size
  clear hbw5 hzhbw5
  go_wp2_with fail
  refine (mul_any p q k l (by omega) (by omega) (by omega) (by omega) (by omega) (by omega) (by omega) (by omega) _).mono ?_
  rintro e w6 ⟨rfl, hbw6⟩
  obtain ⟨hchbw6, hfhbw6⟩ := bcell hbw6
  have hzhbw6 := hbw6.size
  try simp at hzhbw6
  have hzhbw60 : w.heap.size < w6.heap.size := by omega
  have hzhbw61 : w.heap.size + 1 < w6.heap.size := by omega
  have hzhbw62 : w.heap.size + 1 + 1 < w6.heap.size := by omega
  have hzhbw63 : w3.heap.size < w6.heap.size := by omega
  have hzhbw64 : w4.heap.size < w6.heap.size := by omega
  have hzhbw65 : w5.heap.size < w6.heap.size := by omega
  have hBhbw6 : Below w.heap.size w w6 := Below.trans (by (repeat' (first | (with_reducible exact Below.refl _ _) | (with_reducible assumption) | (with_reducible refine Below.alloc ?_ ?_ _) | (with_reducible refine below_drewN ?_ _) | (with_reducible refine Below.drew ?_) | (with_reducible refine Below.setCell ?_ ?_ _) | go_size))) (hbw6.mono (by go_size))
  have hWhbw6 : w.heap.size ≤ w6.heap.size := hBhbw6.size
  clear hbw6 hzhbw6
  go_wp2_with fail
  refine (mul_any (mkN (n * p) (d * q)) (mkD (n * p) (d * q)) k l (by omega) (by omega) (by omega) (by omega) (by omega) (by omega) (by omega) (by omega) _).mono ?_
  rintro e w7 ⟨rfl, hbw7⟩
  obtain ⟨hchbw7, hfhbw7⟩ := bcell hbw7
  have hzhbw7 := hbw7.size
  try simp at hzhbw7
  have hzhbw70 : w.heap.size < w7.heap.size := by omega
  have hzhbw71 : w.heap.size + 1 < w7.heap.size := by omega
  have hzhbw72 : w.heap.size + 1 + 1 < w7.heap.size := by omega
  have hzhbw73 : w3.heap.size < w7.heap.size := by omega
  have hzhbw74 : w4.heap.size < w7.heap.size := by omega
  have hzhbw75 : w5.heap.size < w7.heap.size := by omega
  have hzhbw76 : w6.heap.size < w7.heap.size := by omega
  have hBhbw7 : Below w.heap.size w w7 := Below.trans (by (repeat' (first | (with_reducible exact Below.refl _ _) | (with_reducible assumption) | (with_reducible refine Below.alloc ?_ ?_ _) | (with_reducible refine below_drewN ?_ _) | (with_reducible refine Below.drew ?_) | (with_reducible refine Below.setCell ?_ ?_ _) | go_size))) (hbw7.mono (by go_size))
  have hWhbw7 : w.heap.size ≤ w7.heap.size := hBhbw7.size
  clear hbw7 hzhbw7
  rw [E6.out]
  go_wp2_with fail
  refine (mul_any n d (mkN (p * k) (q * l)) (mkD (p * k) (q * l)) (by omega) (by omega) (by omega) (by omega) (by omega) (by omega) (by omega) (by omega) _).mono ?_
  rintro e w8 ⟨rfl, hbw8⟩
  obtain ⟨hchbw8, hfhbw8⟩ := bcell hbw8
  have hzhbw8 := hbw8.size
  try simp at hzhbw8
  have hzhbw80 : w.heap.size < w8.heap.size := by omega
  have hzhbw81 : w.heap.size + 1 < w8.heap.size := by omega
  have hzhbw82 : w.heap.size + 1 + 1 < w8.heap.size := by omega
  have hzhbw83 : w3.heap.size < w8.heap.size := by omega
  have hzhbw84 : w4.heap.size < w8.heap.size := by omega
  have hzhbw85 : w7.heap.size < w8.heap.size := by omega
  have hBhbw8 : Below w.heap.size w w8 := Below.trans (by (repeat' (first | (with_reducible exact Below.refl _ _) | (with_reducible assumption) | (with_reducible refine Below.alloc ?_ ?_ _) | (with_reducible refine below_drewN ?_ _) | (with_reducible refine Below.drew ?_) | (with_reducible refine Below.setCell ?_ ?_ _) | go_size))) (hbw8.mono (by go_size))
  have hWhbw8 : w.heap.size ≤ w8.heap.size := hBhbw8.size
  clear hbw8 hzhbw8
  rw [V1.out, V2.out, V3.out]
  go_wp2_with fail
  go_ret
  exact ⟨rfl, by (repeat' (first | (with_reducible exact Below.refl _ _) | (with_reducible assumption) | (with_reducible refine Below.alloc ?_ ?_ _) | (with_reducible refine below_drewN ?_ _) | (with_reducible refine Below.drew ?_) | (with_reducible refine Below.setCell ?_ ?_ _) | go_size))⟩

theorem walk (n d : Int) (hn1 : -9223372036854775808 ≤ n) (hn2 : n ≤ 9223372036854775807) (hd1 : -9223372036854775808 ≤ d) (hd2 : d ≤ 9223372036854775807) (p q : Int) (hp1 : -9223372036854775808 ≤ p) (hp2 : p ≤ 9223372036854775807) (hq1 : -9223372036854775808 ≤ q) (hq2 : q ≤ 9223372036854775807) (k l : Int) (hk1 : -9223372036854775808 ≤ k) (hk2 : k ≤ 9223372036854775807) (hl1 : -9223372036854775808 ≤ l) (hl2 : l ≤ 9223372036854775807) (w : World) :
    Calls Try.prog 8 #[.agg #[.int .i64 n, .int .i64 d], .agg #[.int .i64 p, .int .i64 q], .agg #[.int .i64 k, .int .i64 l]] w fun e w' => e = .returned (.bool true) ∧ Below w.heap.size w w' := by
  by_cases g : small n d ∧ small p q ∧ small k l
  · exact walk_good n d hn1 hn2 hd1 hd2 p q hp1 hp2 hq1 hq2 k l hk1 hk2 hl1 hl2 g.1 g.2.1 g.2.2 w
  · exact walk_bad n d hn1 hn2 hd1 hd2 p q hp1 hp2 hq1 hq2 k l hk1 hk2 hl1 hl2 g w

set_option maxRecDepth 100000 in
theorem lifted (os : Os) (started : os.Started) (H : Type) (enc : TypeId × Value → H) :
    ReturnsInHanded {} Try.checked os 8 .any (Rows.fractionAssociatesSpec.pre6 enc Try.prog Try.f8 Rows.fractionAssociatesRow.domain false) (Rows.fractionAssociatesSpec.post enc Try.prog Try.f8 false true false false) := by
  refine returnsInHanded_of_change (C := Try.checked) own started (by kernel_rfl) Try.func8
    (ChangeSpec.witness6 (enc := enc) (C := Try.checked) false ⟨#[], #[.agg #[.int .i64 0, .int .i64 0], .agg #[.int .i64 0, .int .i64 0], .agg #[.int .i64 0, .int .i64 0]], []⟩ 8 (by kernel_rfl) (by kernel_rfl) (by kernel_rfl) (by kernel_rfl)) ?_
  intro W base args ds gs before hval0 hW _ _
  have hval : ∀ (j : Nat) t v, Try.f8.params[j]? = some t → args[j]? = some v → Value.okWide Try.prog W .any base t v := hval0
  have hW' := hW
  obtain ⟨p, q, hA0, hV, rfl, _, _⟩ := hW
  have hA : DataW.TrodAll enc Try.prog W 0 (fun _ => true) true Try.f8.params.toList args.toList ds p := hA0
  rw [Try.params8] at hA hval
  obtain ⟨v0, vs0, d0, ds0, p0, q0, hargs0, rfl, rfl, h0, r0⟩ := trodAll_cons hA
  obtain ⟨v1, vs1, d1, ds1, p1, q1, hargs1, rfl, rfl, h1, r1⟩ := trodAll_cons r0
  obtain ⟨v2, vs2, d2, ds2, p2, q2, hargs2, rfl, rfl, h2, r2⟩ := trodAll_cons r1
  obtain ⟨rfl, rfl, rfl⟩ := trodAll_nil r2
  obtain rfl : args = #[v0, v1, v2] := by cases args; simp_all
  obtain ⟨rfl, rfl⟩ := trodVars_none hV
  obtain ⟨c0, e0, y0, z0, m0, rfl, rfl, rfl, hy0, hz0⟩ := open_agg2 Try.underlying23 (by kernel_rfl) cells_fr (hval 0 23 v0 rfl rfl) h0
  obtain ⟨a0, ea0, rfl, wa0⟩ := DataW.trod_int Try.underlying3 hy0
  obtain ⟨b0, eb0, rfl, wb0⟩ := DataW.trod_int Try.underlying3 hz0
  simp at ea0 eb0
  subst ea0 eb0
  obtain ⟨c1, e1, y1, z1, m1, rfl, rfl, rfl, hy1, hz1⟩ := open_agg2 Try.underlying23 (by kernel_rfl) cells_fr (hval 1 23 v1 rfl rfl) h1
  obtain ⟨a1, ea1, rfl, wa1⟩ := DataW.trod_int Try.underlying3 hy1
  obtain ⟨b1, eb1, rfl, wb1⟩ := DataW.trod_int Try.underlying3 hz1
  simp at ea1 eb1
  subst ea1 eb1
  obtain ⟨c2, e2, y2, z2, m2, rfl, rfl, rfl, hy2, hz2⟩ := open_agg2 Try.underlying23 (by kernel_rfl) cells_fr (hval 2 23 v2 rfl rfl) h2
  obtain ⟨a2, ea2, rfl, wa2⟩ := DataW.trod_int Try.underlying3 hy2
  obtain ⟨b2, eb2, rfl, wb2⟩ := DataW.trod_int Try.underlying3 hz2
  simp at ea2 eb2
  subst ea2 eb2
  clear hA0 hval0
  simp only [List.append_nil] at hW'
  refine (walk a0 b0 (bd64 wa0).1 (bd64 wa0).2 (bd64 wb0).1 (bd64 wb0).2 a1 b1 (bd64 wa1).1 (bd64 wa1).2 (bd64 wb1).1 (bd64 wb1).2 a2 b2 (bd64 wa2).1 (bd64 wa2).2 (bd64 wb2).1 (bd64 wb2).2 W).mono fun e W' ⟨he, hb⟩ => ?_
  subst he
  exact ⟨_, rfl, post_plain hW' hb (fun _ _ _ => trodAll_mk1 (shut_bool Try.underlying4 _)) (fun sp => trodAll_cons_mk (fr_reads wa0 wb0 _ sp) (trodAll_cons_mk (fr_reads wa1 wb1 _ sp) (trodAll_cons_mk (fr_reads wa2 wb2 _ sp) trodAll_mk0))) (fun _ => rfl) (ok_one (by kernel_rfl) rfl (okWide_bool_mk Try.underlying4 _))⟩

theorem proved : Rows.FractionAssociatesSaid :=
  OpenClaim.holds_of_wide 8 Try.f8 rfl rfl rfl rfl rfl rfl rfl ⟨rfl, rfl, rfl, rfl, rfl⟩ rfl rfl rfl rfl rfl (by kernel_rfl) Try.func8 (by kernel_rfl)
    (of_decide_eq_true (by kernel_rfl)) (by unfold Func.isWrapper; first | (rw [if_pos (by decide +kernel)]; kernel_rfl) | (rw [if_neg (by decide +kernel)]; exact ⟨rfl, rfl⟩))
    (fun os started H enc _ => lifted os started H enc)
end Go.Proofs.Ytmhheepnojbgoaa.lawAssociates
