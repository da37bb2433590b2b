/- What Between returns, case by case. -/
import Derived.Test.YtmhheepnojbgoaaSimp
import Derived.Test.YtmhheepnojbgoaaCmp
import Derived.Test.YtmhheepnojbgoaaLawMakes
import Derived.Deep.RegionWith
namespace Go.Proofs.Ytmhheepnojbgoaa
open Go.ChangeShapes Go.WideShapes Go.ChangeAt Go.RowKit Pl
set_option linter.unusedVariables false

theorem grow {W w1 : World} (hb : Below W.heap.size W w1) : ∀ b, b < W.heap.size → b < w1.heap.size := fun b h => Nat.lt_of_lt_of_le h hb.size

set_option maxHeartbeats 4000000 in
theorem between_ordera (n d p q : Int) (f3 : -1048576 ≤ n) (f4 : n ≤ 1048576) (f1 : 1 ≤ d) (f2 : d ≤ 1048576) (g3 : -1048576 ≤ p) (g4 : p ≤ 1048576) (g1 : 1 ≤ q) (g2 : q ≤ 1048576) (Bf : Hid (canonB n d = true)) (Bg : Hid (canonB p q = true)) (Hs : Hid (sg (n * q) (p * d) = 0)) (w : World) :
    Calls Try.prog 42 #[.agg #[.int .i64 n, .int .i64 d], .agg #[.int .i64 p, .int .i64 q]] w fun e w' => e = .returned (.tuple #[.agg #[.int .i64 0, .int .i64 0], .int .i64 8]) ∧ Below w.heap.size w w' := by
  go_enter Try.func42, Try.ntmps42
  go_wp2_with fail
  refine (check_any n d (by omega) (by omega) (by omega) (by omega) _).mono ?_
  rintro e w1 ⟨rfl, hbw1⟩
  obtain ⟨hchbw1, hfhbw1⟩ := bcell hbw1
  have hzhbw1 := hbw1.size
  try simp at hzhbw1
  have hzhbw10 : w.heap.size < w1.heap.size := by omega
  have hzhbw11 : w.heap.size + 1 < w1.heap.size := by omega
  have hzhbw12 : w.heap.size + 1 + 1 < w1.heap.size := by omega
  have hBhbw1 : Below w.heap.size w w1 := Below.trans (by (repeat' (first | (with_reducible exact Below.refl _ _) | (with_reducible assumption) | (with_reducible refine Below.alloc ?_ ?_ _) | (with_reducible refine below_drewN ?_ _) | (with_reducible refine Below.drew ?_) | (with_reducible refine Below.setCell ?_ ?_ _) | go_size))) (hbw1.mono (by go_size))
  have hWhbw1 : w.heap.size ≤ w1.heap.size := hBhbw1.size
  clear hbw1 hzhbw1
  rw [Bf.out]
  go_wp2_with fail
  refine (check_any p q (by omega) (by omega) (by omega) (by omega) _).mono ?_
  rintro e w2 ⟨rfl, hbw2⟩
  obtain ⟨hchbw2, hfhbw2⟩ := bcell hbw2
  have hzhbw2 := hbw2.size
  try simp at hzhbw2
  have hzhbw20 : w.heap.size < w2.heap.size := by omega
  have hzhbw21 : w.heap.size + 1 < w2.heap.size := by omega
  have hzhbw22 : w.heap.size + 1 + 1 < w2.heap.size := by omega
  have hBhbw2 : Below w.heap.size w w2 := Below.trans (by (repeat' (first | (with_reducible exact Below.refl _ _) | (with_reducible assumption) | (with_reducible refine Below.alloc ?_ ?_ _) | (with_reducible refine below_drewN ?_ _) | (with_reducible refine Below.drew ?_) | (with_reducible refine Below.setCell ?_ ?_ _) | go_size))) (hbw2.mono (by go_size))
  have hWhbw2 : w.heap.size ≤ w2.heap.size := hBhbw2.size
  clear hbw2 hzhbw2
  rw [Bg.out]
  go_wp2_with fail
  refine (compare_any n d p q f3 f4 f1 f2 g3 g4 g1 g2 _).mono ?_
  rintro e w3 ⟨rfl, hbw3⟩
  obtain ⟨hchbw3, hfhbw3⟩ := bcell hbw3
  have hzhbw3 := hbw3.size
  try simp at hzhbw3
  have hzhbw30 : w.heap.size < w3.heap.size := by omega
  have hzhbw31 : w.heap.size + 1 < w3.heap.size := by omega
  have hzhbw32 : w.heap.size + 1 + 1 < w3.heap.size := by omega
  have hBhbw3 : Below w.heap.size w w3 := Below.trans (by (repeat' (first | (with_reducible exact Below.refl _ _) | (with_reducible assumption) | (with_reducible refine Below.alloc ?_ ?_ _) | (with_reducible refine below_drewN ?_ _) | (with_reducible refine Below.drew ?_) | (with_reducible refine Below.setCell ?_ ?_ _) | go_size))) (hbw3.mono (by go_size))
  have hWhbw3 : w.heap.size ≤ w3.heap.size := hBhbw3.size
  clear hbw3 hzhbw3
  rw [Hs.out]
  have k0 : w3.cell? ⟨w.heap.size, 0, none⟩ = some (.int .i64 n) := by simp [*, go_sem]
  have k1 : w3.cell? ⟨w.heap.size, 1, none⟩ = some (.int .i64 d) := by simp [*, go_sem]
  have k2 : w3.cell? ⟨w.heap.size + 1, 0, none⟩ = some (.int .i64 p) := by simp [*, go_sem]
  have k3 : w3.cell? ⟨w.heap.size + 1, 1, none⟩ = some (.int .i64 q) := by simp [*, go_sem]
  have k4 : w3.cell? ⟨w.heap.size + 1 + 1, 0, none⟩ = some (.int .i64 0) := by simp [*, go_sem]
  have k5 : w3.cell? ⟨w.heap.size + 1 + 1, 1, none⟩ = some (.int .i64 0) := by simp [*, go_sem]
  have k6 : w3.frozen? ⟨w.heap.size + 1 + 1, 0, none⟩ = false := by simp [*, go_sem]
  have k7 : w3.frozen? ⟨w.heap.size + 1 + 1, 1, none⟩ = false := by simp [*, go_sem]
  clear hchbw1 hfhbw1 hchbw2 hfhbw2 hchbw3 hfhbw3
  go_wp2_with fail
  refine bodyPost_ret (v := .tuple #[.agg #[.int .i64 0, .int .i64 0], .int .i64 8]) (by simp [results, Try.results42, go_sem, *]) rfl ⟨rfl, by (repeat' (first | (with_reducible exact Below.refl _ _) | (with_reducible assumption) | (with_reducible refine Below.alloc ?_ ?_ _) | (with_reducible refine below_drewN ?_ _) | (with_reducible refine Below.drew ?_) | (with_reducible refine Below.setCell ?_ ?_ _) | go_size))⟩

set_option maxHeartbeats 4000000 in
theorem between_orderb (n d p q : Int) (f3 : -1048576 ≤ n) (f4 : n ≤ 1048576) (f1 : 1 ≤ d) (f2 : d ≤ 1048576) (g3 : -1048576 ≤ p) (g4 : p ≤ 1048576) (g1 : 1 ≤ q) (g2 : q ≤ 1048576) (Bf : Hid (canonB n d = true)) (Bg : Hid (canonB p q = true)) (Hs : Hid (sg (n * q) (p * d) = 1)) (w : World) :
    Calls Try.prog 42 #[.agg #[.int .i64 n, .int .i64 d], .agg #[.int .i64 p, .int .i64 q]] w fun e w' => e = .returned (.tuple #[.agg #[.int .i64 0, .int .i64 0], .int .i64 8]) ∧ Below w.heap.size w w' := by
  go_enter Try.func42, Try.ntmps42
  go_wp2_with fail
  refine (check_any n d (by omega) (by omega) (by omega) (by omega) _).mono ?_
  rintro e w1 ⟨rfl, hbw1⟩
  obtain ⟨hchbw1, hfhbw1⟩ := bcell hbw1
  have hzhbw1 := hbw1.size
  try simp at hzhbw1
  have hzhbw10 : w.heap.size < w1.heap.size := by omega
  have hzhbw11 : w.heap.size + 1 < w1.heap.size := by omega
  have hzhbw12 : w.heap.size + 1 + 1 < w1.heap.size := by omega
  have hBhbw1 : Below w.heap.size w w1 := Below.trans (by (repeat' (first | (with_reducible exact Below.refl _ _) | (with_reducible assumption) | (with_reducible refine Below.alloc ?_ ?_ _) | (with_reducible refine below_drewN ?_ _) | (with_reducible refine Below.drew ?_) | (with_reducible refine Below.setCell ?_ ?_ _) | go_size))) (hbw1.mono (by go_size))
  have hWhbw1 : w.heap.size ≤ w1.heap.size := hBhbw1.size
  clear hbw1 hzhbw1
  rw [Bf.out]
  go_wp2_with fail
  refine (check_any p q (by omega) (by omega) (by omega) (by omega) _).mono ?_
  rintro e w2 ⟨rfl, hbw2⟩
  obtain ⟨hchbw2, hfhbw2⟩ := bcell hbw2
  have hzhbw2 := hbw2.size
  try simp at hzhbw2
  have hzhbw20 : w.heap.size < w2.heap.size := by omega
  have hzhbw21 : w.heap.size + 1 < w2.heap.size := by omega
  have hzhbw22 : w.heap.size + 1 + 1 < w2.heap.size := by omega
  have hBhbw2 : Below w.heap.size w w2 := Below.trans (by (repeat' (first | (with_reducible exact Below.refl _ _) | (with_reducible assumption) | (with_reducible refine Below.alloc ?_ ?_ _) | (with_reducible refine below_drewN ?_ _) | (with_reducible refine Below.drew ?_) | (with_reducible refine Below.setCell ?_ ?_ _) | go_size))) (hbw2.mono (by go_size))
  have hWhbw2 : w.heap.size ≤ w2.heap.size := hBhbw2.size
  clear hbw2 hzhbw2
  rw [Bg.out]
  go_wp2_with fail
  refine (compare_any n d p q f3 f4 f1 f2 g3 g4 g1 g2 _).mono ?_
  rintro e w3 ⟨rfl, hbw3⟩
  obtain ⟨hchbw3, hfhbw3⟩ := bcell hbw3
  have hzhbw3 := hbw3.size
  try simp at hzhbw3
  have hzhbw30 : w.heap.size < w3.heap.size := by omega
  have hzhbw31 : w.heap.size + 1 < w3.heap.size := by omega
  have hzhbw32 : w.heap.size + 1 + 1 < w3.heap.size := by omega
  have hBhbw3 : Below w.heap.size w w3 := Below.trans (by (repeat' (first | (with_reducible exact Below.refl _ _) | (with_reducible assumption) | (with_reducible refine Below.alloc ?_ ?_ _) | (with_reducible refine below_drewN ?_ _) | (with_reducible refine Below.drew ?_) | (with_reducible refine Below.setCell ?_ ?_ _) | go_size))) (hbw3.mono (by go_size))
  have hWhbw3 : w.heap.size ≤ w3.heap.size := hBhbw3.size
  clear hbw3 hzhbw3
  rw [Hs.out]
  have k0 : w3.cell? ⟨w.heap.size, 0, none⟩ = some (.int .i64 n) := by simp [*, go_sem]
  have k1 : w3.cell? ⟨w.heap.size, 1, none⟩ = some (.int .i64 d) := by simp [*, go_sem]
  have k2 : w3.cell? ⟨w.heap.size + 1, 0, none⟩ = some (.int .i64 p) := by simp [*, go_sem]
  have k3 : w3.cell? ⟨w.heap.size + 1, 1, none⟩ = some (.int .i64 q) := by simp [*, go_sem]
  have k4 : w3.cell? ⟨w.heap.size + 1 + 1, 0, none⟩ = some (.int .i64 0) := by simp [*, go_sem]
  have k5 : w3.cell? ⟨w.heap.size + 1 + 1, 1, none⟩ = some (.int .i64 0) := by simp [*, go_sem]
  have k6 : w3.frozen? ⟨w.heap.size + 1 + 1, 0, none⟩ = false := by simp [*, go_sem]
  have k7 : w3.frozen? ⟨w.heap.size + 1 + 1, 1, none⟩ = false := by simp [*, go_sem]
  clear hchbw1 hfhbw1 hchbw2 hfhbw2 hchbw3 hfhbw3
  go_wp2_with fail
  refine bodyPost_ret (v := .tuple #[.agg #[.int .i64 0, .int .i64 0], .int .i64 8]) (by simp [results, Try.results42, go_sem, *]) rfl ⟨rfl, by (repeat' (first | (with_reducible exact Below.refl _ _) | (with_reducible assumption) | (with_reducible refine Below.alloc ?_ ?_ _) | (with_reducible refine below_drewN ?_ _) | (with_reducible refine Below.drew ?_) | (with_reducible refine Below.setCell ?_ ?_ _) | go_size))⟩

set_option maxHeartbeats 4000000 in
theorem between_zero (n d p q : Int) (f3 : -1048576 ≤ n) (f4 : n ≤ 1048576) (f1 : 1 ≤ d) (f2 : d ≤ 1048576) (g3 : -1048576 ≤ p) (g4 : p ≤ 1048576) (g1 : 1 ≤ q) (g2 : q ≤ 1048576) (Bf : Hid (canonB n d = true)) (Bg : Hid (canonB p q = true)) (Hs : Hid (sg (n * q) (p * d) = -1)) (Hn : Hid (sg n 0 = -1)) (Hp : Hid (sg p 0 = 1)) (w : World) :
    Calls Try.prog 42 #[.agg #[.int .i64 n, .int .i64 d], .agg #[.int .i64 p, .int .i64 q]] w fun e w' => e = .returned (.tuple #[.agg #[.int .i64 0, .int .i64 1], .int .i64 0]) ∧ Below w.heap.size w w' := by
  go_enter Try.func42, Try.ntmps42
  go_wp2_with fail
  refine (check_any n d (by omega) (by omega) (by omega) (by omega) _).mono ?_
  rintro e w1 ⟨rfl, hbw1⟩
  obtain ⟨hchbw1, hfhbw1⟩ := bcell hbw1
  have hzhbw1 := hbw1.size
  try simp at hzhbw1
  have hzhbw10 : w.heap.size < w1.heap.size := by omega
  have hzhbw11 : w.heap.size + 1 < w1.heap.size := by omega
  have hzhbw12 : w.heap.size + 1 + 1 < w1.heap.size := by omega
  have hBhbw1 : Below w.heap.size w w1 := Below.trans (by (repeat' (first | (with_reducible exact Below.refl _ _) | (with_reducible assumption) | (with_reducible refine Below.alloc ?_ ?_ _) | (with_reducible refine below_drewN ?_ _) | (with_reducible refine Below.drew ?_) | (with_reducible refine Below.setCell ?_ ?_ _) | go_size))) (hbw1.mono (by go_size))
  have hWhbw1 : w.heap.size ≤ w1.heap.size := hBhbw1.size
  clear hbw1 hzhbw1
  rw [Bf.out]
  go_wp2_with fail
  refine (check_any p q (by omega) (by omega) (by omega) (by omega) _).mono ?_
  rintro e w2 ⟨rfl, hbw2⟩
  obtain ⟨hchbw2, hfhbw2⟩ := bcell hbw2
  have hzhbw2 := hbw2.size
  try simp at hzhbw2
  have hzhbw20 : w.heap.size < w2.heap.size := by omega
  have hzhbw21 : w.heap.size + 1 < w2.heap.size := by omega
  have hzhbw22 : w.heap.size + 1 + 1 < w2.heap.size := by omega
  have hBhbw2 : Below w.heap.size w w2 := Below.trans (by (repeat' (first | (with_reducible exact Below.refl _ _) | (with_reducible assumption) | (with_reducible refine Below.alloc ?_ ?_ _) | (with_reducible refine below_drewN ?_ _) | (with_reducible refine Below.drew ?_) | (with_reducible refine Below.setCell ?_ ?_ _) | go_size))) (hbw2.mono (by go_size))
  have hWhbw2 : w.heap.size ≤ w2.heap.size := hBhbw2.size
  clear hbw2 hzhbw2
  rw [Bg.out]
  go_wp2_with fail
  refine (compare_any n d p q f3 f4 f1 f2 g3 g4 g1 g2 _).mono ?_
  rintro e w3 ⟨rfl, hbw3⟩
  obtain ⟨hchbw3, hfhbw3⟩ := bcell hbw3
  have hzhbw3 := hbw3.size
  try simp at hzhbw3
  have hzhbw30 : w.heap.size < w3.heap.size := by omega
  have hzhbw31 : w.heap.size + 1 < w3.heap.size := by omega
  have hzhbw32 : w.heap.size + 1 + 1 < w3.heap.size := by omega
  have hBhbw3 : Below w.heap.size w w3 := Below.trans (by (repeat' (first | (with_reducible exact Below.refl _ _) | (with_reducible assumption) | (with_reducible refine Below.alloc ?_ ?_ _) | (with_reducible refine below_drewN ?_ _) | (with_reducible refine Below.drew ?_) | (with_reducible refine Below.setCell ?_ ?_ _) | go_size))) (hbw3.mono (by go_size))
  have hWhbw3 : w.heap.size ≤ w3.heap.size := hBhbw3.size
  clear hbw3 hzhbw3
  rw [Hs.out]
  have k0 : w3.cell? ⟨w.heap.size, 0, none⟩ = some (.int .i64 n) := by simp [*, go_sem]
  have k1 : w3.cell? ⟨w.heap.size, 1, none⟩ = some (.int .i64 d) := by simp [*, go_sem]
  have k2 : w3.cell? ⟨w.heap.size + 1, 0, none⟩ = some (.int .i64 p) := by simp [*, go_sem]
  have k3 : w3.cell? ⟨w.heap.size + 1, 1, none⟩ = some (.int .i64 q) := by simp [*, go_sem]
  have k4 : w3.cell? ⟨w.heap.size + 1 + 1, 0, none⟩ = some (.int .i64 0) := by simp [*, go_sem]
  have k5 : w3.cell? ⟨w.heap.size + 1 + 1, 1, none⟩ = some (.int .i64 0) := by simp [*, go_sem]
  have k6 : w3.frozen? ⟨w.heap.size + 1 + 1, 0, none⟩ = false := by simp [*, go_sem]
  have k7 : w3.frozen? ⟨w.heap.size + 1 + 1, 1, none⟩ = false := by simp [*, go_sem]
  clear hchbw1 hfhbw1 hchbw2 hfhbw2 hchbw3 hfhbw3
  go_wp2_with fail
  refine (sign_any n d _).mono ?_
  rintro e w4 ⟨rfl, hbw4⟩
  obtain ⟨hchbw4, hfhbw4⟩ := bcell hbw4
  have hzhbw4 := hbw4.size
  try simp at hzhbw4
  have hzhbw40 : w.heap.size < w4.heap.size := by omega
  have hzhbw41 : w.heap.size + 1 < w4.heap.size := by omega
  have hzhbw42 : w.heap.size + 1 + 1 < w4.heap.size := by omega
  have hBhbw4 : Below w.heap.size w w4 := Below.trans (by (repeat' (first | (with_reducible exact Below.refl _ _) | (with_reducible assumption) | (with_reducible refine Below.alloc ?_ ?_ _) | (with_reducible refine below_drewN ?_ _) | (with_reducible refine Below.drew ?_) | (with_reducible refine Below.setCell ?_ ?_ _) | go_size))) (hbw4.mono (by go_size))
  have hWhbw4 : w.heap.size ≤ w4.heap.size := hBhbw4.size
  clear hbw4 hzhbw4
  rw [Hn.out]
  go_wp2_with fail
  refine (sign_any p q _).mono ?_
  rintro e w5 ⟨rfl, hbw5⟩
  obtain ⟨hchbw5, hfhbw5⟩ := bcell hbw5
  have hzhbw5 := hbw5.size
  try simp at hzhbw5
  have hzhbw50 : w.heap.size < w5.heap.size := by omega
  have hzhbw51 : w.heap.size + 1 < w5.heap.size := by omega
  have hzhbw52 : w.heap.size + 1 + 1 < w5.heap.size := by omega
  have hBhbw5 : Below w.heap.size w w5 := Below.trans (by (repeat' (first | (with_reducible exact Below.refl _ _) | (with_reducible assumption) | (with_reducible refine Below.alloc ?_ ?_ _) | (with_reducible refine below_drewN ?_ _) | (with_reducible refine Below.drew ?_) | (with_reducible refine Below.setCell ?_ ?_ _) | go_size))) (hbw5.mono (by go_size))
  have hWhbw5 : w.heap.size ≤ w5.heap.size := hBhbw5.size
  clear hbw5 hzhbw5
  rw [Hp.out]
  go_wp2_with fail
  refine (lawMakes.fromInt_any 0 (by omega) (by omega) _).mono ?_
  rintro e w6 ⟨rfl, hbw6⟩
  obtain ⟨hchbw6, hfhbw6⟩ := bcell hbw6
  have hzhbw6 := hbw6.size
  try simp at hzhbw6
  have hzhbw60 : w.heap.size < w6.heap.size := by omega
  have hzhbw61 : w.heap.size + 1 < w6.heap.size := by omega
  have hzhbw62 : w.heap.size + 1 + 1 < w6.heap.size := by omega
  have hBhbw6 : Below w.heap.size w w6 := Below.trans (by (repeat' (first | (with_reducible exact Below.refl _ _) | (with_reducible assumption) | (with_reducible refine Below.alloc ?_ ?_ _) | (with_reducible refine below_drewN ?_ _) | (with_reducible refine Below.drew ?_) | (with_reducible refine Below.setCell ?_ ?_ _) | go_size))) (hbw6.mono (by go_size))
  have hWhbw6 : w.heap.size ≤ w6.heap.size := hBhbw6.size
  clear hbw6 hzhbw6
  rw [show mkN 0 1 = 0 from by decide, show mkD 0 1 = 1 from by decide, show mkE 0 1 = 0 from by decide]
  go_wp2_with fail
  refine bodyPost_ret (v := .tuple #[.agg #[.int .i64 0, .int .i64 1], .int .i64 0]) (by simp [results, Try.results42, go_sem, *]) rfl ⟨rfl, by (repeat' (first | (with_reducible exact Below.refl _ _) | (with_reducible assumption) | (with_reducible refine Below.alloc ?_ ?_ _) | (with_reducible refine below_drewN ?_ _) | (with_reducible refine Below.drew ?_) | (with_reducible refine Below.setCell ?_ ?_ _) | go_size))⟩

set_option maxHeartbeats 4000000 in
theorem between_pos (n d p q : Int) (f3 : -1048576 ≤ n) (f4 : n ≤ 1048576) (f1 : 1 ≤ d) (f2 : d ≤ 1048576) (g3 : -1048576 ≤ p) (g4 : p ≤ 1048576) (g1 : 1 ≤ q) (g2 : q ≤ 1048576) (Bf : Hid (canonB n d = true)) (Bg : Hid (canonB p q = true)) (Hs : Hid (sg (n * q) (p * d) = -1)) (s0 : Int) (Hn : Hid (sg n 0 = s0)) (h0 : 0 ≤ s0) (ho : okS n d p q) (N D : Int) (HN : Hid ((sim 2097152 n d p q).1 = N)) (HD : Hid ((sim 2097152 n d p q).2 = D)) (n1 : 1 ≤ N) (n2 : N ≤ 2097152) (d1 : 1 ≤ D) (d2 : D ≤ 2097152) (w : World) :
    Calls Try.prog 42 #[.agg #[.int .i64 n, .int .i64 d], .agg #[.int .i64 p, .int .i64 q]] w fun e w' => e = .returned (.tuple #[.agg #[.int .i64 (mkN N D), .int .i64 (mkD N D)], .int .i64 (mkE N D)]) ∧ Below w.heap.size w w' := by
  have Ho := Lib.hid ho
  clear ho
  go_enter Try.func42, Try.ntmps42
  go_wp2_with fail
  refine (check_any n d (by omega) (by omega) (by omega) (by omega) _).mono ?_
  rintro e w1 ⟨rfl, hbw1⟩
  obtain ⟨hchbw1, hfhbw1⟩ := bcell hbw1
  have hzhbw1 := hbw1.size
  try simp at hzhbw1
  have hzhbw10 : w.heap.size < w1.heap.size := by omega
  have hzhbw11 : w.heap.size + 1 < w1.heap.size := by omega
  have hzhbw12 : w.heap.size + 1 + 1 < w1.heap.size := by omega
  have hBhbw1 : Below w.heap.size w w1 := Below.trans (by (repeat' (first | (with_reducible exact Below.refl _ _) | (with_reducible assumption) | (with_reducible refine Below.alloc ?_ ?_ _) | (with_reducible refine below_drewN ?_ _) | (with_reducible refine Below.drew ?_) | (with_reducible refine Below.setCell ?_ ?_ _) | go_size))) (hbw1.mono (by go_size))
  have hWhbw1 : w.heap.size ≤ w1.heap.size := hBhbw1.size
  clear hbw1 hzhbw1
  rw [Bf.out]
  go_wp2_with fail
  refine (check_any p q (by omega) (by omega) (by omega) (by omega) _).mono ?_
  rintro e w2 ⟨rfl, hbw2⟩
  obtain ⟨hchbw2, hfhbw2⟩ := bcell hbw2
  have hzhbw2 := hbw2.size
  try simp at hzhbw2
  have hzhbw20 : w.heap.size < w2.heap.size := by omega
  have hzhbw21 : w.heap.size + 1 < w2.heap.size := by omega
  have hzhbw22 : w.heap.size + 1 + 1 < w2.heap.size := by omega
  have hBhbw2 : Below w.heap.size w w2 := Below.trans (by (repeat' (first | (with_reducible exact Below.refl _ _) | (with_reducible assumption) | (with_reducible refine Below.alloc ?_ ?_ _) | (with_reducible refine below_drewN ?_ _) | (with_reducible refine Below.drew ?_) | (with_reducible refine Below.setCell ?_ ?_ _) | go_size))) (hbw2.mono (by go_size))
  have hWhbw2 : w.heap.size ≤ w2.heap.size := hBhbw2.size
  clear hbw2 hzhbw2
  rw [Bg.out]
  go_wp2_with fail
  refine (compare_any n d p q f3 f4 f1 f2 g3 g4 g1 g2 _).mono ?_
  rintro e w3 ⟨rfl, hbw3⟩
  obtain ⟨hchbw3, hfhbw3⟩ := bcell hbw3
  have hzhbw3 := hbw3.size
  try simp at hzhbw3
  have hzhbw30 : w.heap.size < w3.heap.size := by omega
  have hzhbw31 : w.heap.size + 1 < w3.heap.size := by omega
  have hzhbw32 : w.heap.size + 1 + 1 < w3.heap.size := by omega
  have hBhbw3 : Below w.heap.size w w3 := Below.trans (by (repeat' (first | (with_reducible exact Below.refl _ _) | (with_reducible assumption) | (with_reducible refine Below.alloc ?_ ?_ _) | (with_reducible refine below_drewN ?_ _) | (with_reducible refine Below.drew ?_) | (with_reducible refine Below.setCell ?_ ?_ _) | go_size))) (hbw3.mono (by go_size))
  have hWhbw3 : w.heap.size ≤ w3.heap.size := hBhbw3.size
  clear hbw3 hzhbw3
  rw [Hs.out]
  have k0 : w3.cell? ⟨w.heap.size, 0, none⟩ = some (.int .i64 n) := by simp [*, go_sem]
  have k1 : w3.cell? ⟨w.heap.size, 1, none⟩ = some (.int .i64 d) := by simp [*, go_sem]
  have k2 : w3.cell? ⟨w.heap.size + 1, 0, none⟩ = some (.int .i64 p) := by simp [*, go_sem]
  have k3 : w3.cell? ⟨w.heap.size + 1, 1, none⟩ = some (.int .i64 q) := by simp [*, go_sem]
  have k4 : w3.cell? ⟨w.heap.size + 1 + 1, 0, none⟩ = some (.int .i64 0) := by simp [*, go_sem]
  have k5 : w3.cell? ⟨w.heap.size + 1 + 1, 1, none⟩ = some (.int .i64 0) := by simp [*, go_sem]
  have k6 : w3.frozen? ⟨w.heap.size + 1 + 1, 0, none⟩ = false := by simp [*, go_sem]
  have k7 : w3.frozen? ⟨w.heap.size + 1 + 1, 1, none⟩ = false := by simp [*, go_sem]
  clear hchbw1 hfhbw1 hchbw2 hfhbw2 hchbw3 hfhbw3
  go_wp2_with fail
  refine (sign_any n d _).mono ?_
  rintro e w4 ⟨rfl, hbw4⟩
  obtain ⟨hchbw4, hfhbw4⟩ := bcell hbw4
  have hzhbw4 := hbw4.size
  try simp at hzhbw4
  have hzhbw40 : w.heap.size < w4.heap.size := by omega
  have hzhbw41 : w.heap.size + 1 < w4.heap.size := by omega
  have hzhbw42 : w.heap.size + 1 + 1 < w4.heap.size := by omega
  have hBhbw4 : Below w.heap.size w w4 := Below.trans (by (repeat' (first | (with_reducible exact Below.refl _ _) | (with_reducible assumption) | (with_reducible refine Below.alloc ?_ ?_ _) | (with_reducible refine below_drewN ?_ _) | (with_reducible refine Below.drew ?_) | (with_reducible refine Below.setCell ?_ ?_ _) | go_size))) (hbw4.mono (by go_size))
  have hWhbw4 : w.heap.size ≤ w4.heap.size := hBhbw4.size
  clear hbw4 hzhbw4
  rw [Hn.out]
  go_wp2_with fail
  refine (sign_any n d _).mono ?_
  rintro e w5 ⟨rfl, hbw5⟩
  obtain ⟨hchbw5, hfhbw5⟩ := bcell hbw5
  have hzhbw5 := hbw5.size
  try simp at hzhbw5
  have hzhbw50 : w.heap.size < w5.heap.size := by omega
  have hzhbw51 : w.heap.size + 1 < w5.heap.size := by omega
  have hzhbw52 : w.heap.size + 1 + 1 < w5.heap.size := by omega
  have hBhbw5 : Below w.heap.size w w5 := Below.trans (by (repeat' (first | (with_reducible exact Below.refl _ _) | (with_reducible assumption) | (with_reducible refine Below.alloc ?_ ?_ _) | (with_reducible refine below_drewN ?_ _) | (with_reducible refine Below.drew ?_) | (with_reducible refine Below.setCell ?_ ?_ _) | go_size))) (hbw5.mono (by go_size))
  have hWhbw5 : w.heap.size ≤ w5.heap.size := hBhbw5.size
  clear hbw5 hzhbw5
  rw [Hn.out]
  go_wp2_with fail
  refine (simplest_any 2097152 n d p q _ Ho.out (by omega) f4 f2 g4 g2).mono ?_
  rintro e w6 ⟨rfl, hbw6⟩
  obtain ⟨hchbw6, hfhbw6⟩ := bcell hbw6
  have hzhbw6 := hbw6.size
  try simp at hzhbw6
  have hzhbw60 : w.heap.size < w6.heap.size := by omega
  have hzhbw61 : w.heap.size + 1 < w6.heap.size := by omega
  have hzhbw62 : w.heap.size + 1 + 1 < w6.heap.size := by omega
  have hBhbw6 : Below w.heap.size w w6 := Below.trans (by (repeat' (first | (with_reducible exact Below.refl _ _) | (with_reducible assumption) | (with_reducible refine Below.alloc ?_ ?_ _) | (with_reducible refine below_drewN ?_ _) | (with_reducible refine Below.drew ?_) | (with_reducible refine Below.setCell ?_ ?_ _) | go_size))) (hbw6.mono (by go_size))
  have hWhbw6 : w.heap.size ≤ w6.heap.size := hBhbw6.size
  clear hbw6 hzhbw6
  rw [HN.out, HD.out]
  go_wp2_with fail
  refine (make_any N D (by omega) (by omega) (by omega) (by omega) (by omega) _).mono ?_
  rintro e w7 ⟨rfl, hbw7⟩
  obtain ⟨hchbw7, hfhbw7⟩ := bcell hbw7
  have hzhbw7 := hbw7.size
  try simp at hzhbw7
  have hzhbw70 : w.heap.size < w7.heap.size := by omega
  have hzhbw71 : w.heap.size + 1 < w7.heap.size := by omega
  have hzhbw72 : w.heap.size + 1 + 1 < w7.heap.size := by omega
  have hBhbw7 : Below w.heap.size w w7 := Below.trans (by (repeat' (first | (with_reducible exact Below.refl _ _) | (with_reducible assumption) | (with_reducible refine Below.alloc ?_ ?_ _) | (with_reducible refine below_drewN ?_ _) | (with_reducible refine Below.drew ?_) | (with_reducible refine Below.setCell ?_ ?_ _) | go_size))) (hbw7.mono (by go_size))
  have hWhbw7 : w.heap.size ≤ w7.heap.size := hBhbw7.size
  clear hbw7 hzhbw7
  go_wp2_with fail
  refine bodyPost_ret (v := .tuple #[.agg #[.int .i64 (mkN N D), .int .i64 (mkD N D)], .int .i64 (mkE N D)]) (by simp [results, Try.results42, go_sem, *]) rfl ⟨rfl, by (repeat' (first | (with_reducible exact Below.refl _ _) | (with_reducible assumption) | (with_reducible refine Below.alloc ?_ ?_ _) | (with_reducible refine below_drewN ?_ _) | (with_reducible refine Below.drew ?_) | (with_reducible refine Below.setCell ?_ ?_ _) | go_size))⟩
end Go.Proofs.Ytmhheepnojbgoaa
