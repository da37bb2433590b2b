/- The law of the simplest fraction, given what both sides return. -/
import Derived.Test.YtmhheepnojbgoaaPlC
import Derived.Test.YtmhheepnojbgoaaKnown
import Derived.Test.YtmhheepnojbgoaaCmp
namespace Go.Proofs.Ytmhheepnojbgoaa.lawBetween
open Go.Proofs.Ytmhheepnojbgoaa Go.ChangeShapes Go.WideShapes Go.ChangeAt Go.RowKit Pl
set_option linter.unusedVariables false

/-- What Between returns for two fractions, in every world; and the reference. -/
def GB (n d p q N D E : Int) : Prop := ∀ w : World, Calls Try.prog 42 #[.agg #[.int .i64 n, .int .i64 d], .agg #[.int .i64 p, .int .i64 q]] w fun e w' => e = .returned (.tuple #[.agg #[.int .i64 N, .int .i64 D], .int .i64 E]) ∧ Below w.heap.size w w'
def GR (n d p q N D : Int) (ok : Bool) : Prop := ∀ w : World, Calls Try.prog 43 #[.agg #[.int .i64 n, .int .i64 d], .agg #[.int .i64 p, .int .i64 q], .int .i64 200] w fun e w' => e = .returned (.tuple #[.agg #[.int .i64 N, .int .i64 D], .bool ok]) ∧ Below w.heap.size w w'

set_option maxHeartbeats 2000000 in
theorem law_ordera (n d p q : Int) (f3 : -1048576 ≤ n) (f4 : n ≤ 1048576) (f1 : 1 ≤ d) (f2 : d ≤ 1048576) (g3 : -1048576 ≤ p) (g4 : p ≤ 1048576) (g1 : 1 ≤ q) (g2 : q ≤ 1048576) (Bf : Hid (canonB n d = true)) (Bg : Hid (canonB p q = true)) (Hs : Hid (sg (n * q) (p * d) = 0)) (hb : GB n d p q 0 0 8) (w : World) :
    Calls Try.prog 10 #[.agg #[.int .i64 n, .int .i64 d], .agg #[.int .i64 p, .int .i64 q]] w fun e w' => e = .returned (.bool true) ∧ Below w.heap.size w w' := by
  go_enter Try.func10, Try.ntmps10
  go_wp2_with fail
  refine (known_any _).mono ?_
  rintro e w1 ⟨rfl, hbw1⟩
  obtain ⟨hchbw1, hfhbw1⟩ := bcell hbw1
  have hzhbw1 := hbw1.size
  try simp at hzhbw1
  have hzhbw10 : w.heap.size < w1.heap.size := by omega
  have hzhbw11 : w.heap.size + 1 < w1.heap.size := by omega
  have hBhbw1 : Below w.heap.size w w1 := Below.trans (by (repeat' (first | (with_reducible exact Below.refl _ _) | (with_reducible assumption) | (with_reducible refine Below.alloc ?_ ?_ _) | (with_reducible refine below_drewN ?_ _) | (with_reducible refine Below.drew ?_) | (with_reducible refine Below.setCell ?_ ?_ _) | go_size))) (hbw1.mono (by go_size))
  have hWhbw1 : w.heap.size ≤ w1.heap.size := hBhbw1.size
  clear hbw1 hzhbw1
  go_wp2_with fail
  refine (rcheck_any n d (by omega) (by omega) (by omega) (by omega) _).mono ?_
  rintro e w2 ⟨rfl, hbw2⟩
  obtain ⟨hchbw2, hfhbw2⟩ := bcell hbw2
  have hzhbw2 := hbw2.size
  try simp at hzhbw2
  have hzhbw20 : w.heap.size < w2.heap.size := by omega
  have hzhbw21 : w.heap.size + 1 < w2.heap.size := by omega
  have hBhbw2 : Below w.heap.size w w2 := Below.trans (by (repeat' (first | (with_reducible exact Below.refl _ _) | (with_reducible assumption) | (with_reducible refine Below.alloc ?_ ?_ _) | (with_reducible refine below_drewN ?_ _) | (with_reducible refine Below.drew ?_) | (with_reducible refine Below.setCell ?_ ?_ _) | go_size))) (hbw2.mono (by go_size))
  have hWhbw2 : w.heap.size ≤ w2.heap.size := hBhbw2.size
  clear hbw2 hzhbw2
  rw [Bf.out]
  go_wp2_with fail
  refine (rcheck_any p q (by omega) (by omega) (by omega) (by omega) _).mono ?_
  rintro e w3 ⟨rfl, hbw3⟩
  obtain ⟨hchbw3, hfhbw3⟩ := bcell hbw3
  have hzhbw3 := hbw3.size
  try simp at hzhbw3
  have hzhbw30 : w.heap.size < w3.heap.size := by omega
  have hzhbw31 : w.heap.size + 1 < w3.heap.size := by omega
  have hBhbw3 : Below w.heap.size w w3 := Below.trans (by (repeat' (first | (with_reducible exact Below.refl _ _) | (with_reducible assumption) | (with_reducible refine Below.alloc ?_ ?_ _) | (with_reducible refine below_drewN ?_ _) | (with_reducible refine Below.drew ?_) | (with_reducible refine Below.setCell ?_ ?_ _) | go_size))) (hbw3.mono (by go_size))
  have hWhbw3 : w.heap.size ≤ w3.heap.size := hBhbw3.size
  clear hbw3 hzhbw3
  rw [Bg.out]
  have k0 : w3.cell? ⟨w.heap.size, 0, none⟩ = some (.int .i64 n) := by simp [*, go_sem]
  have k1 : w3.cell? ⟨w.heap.size, 1, none⟩ = some (.int .i64 d) := by simp [*, go_sem]
  have k2 : w3.cell? ⟨w.heap.size + 1, 0, none⟩ = some (.int .i64 p) := by simp [*, go_sem]
  have k3 : w3.cell? ⟨w.heap.size + 1, 1, none⟩ = some (.int .i64 q) := by simp [*, go_sem]
  clear hchbw1 hfhbw1 hchbw2 hfhbw2 hchbw3 hfhbw3
  go_wp2_with fail
  refine (hb _).mono ?_
  rintro e w4 ⟨rfl, hbw4⟩
  obtain ⟨hchbw4, hfhbw4⟩ := bcell hbw4
  have hzhbw4 := hbw4.size
  try simp at hzhbw4
  have hzhbw40 : w.heap.size < w4.heap.size := by omega
  have hzhbw41 : w.heap.size + 1 < w4.heap.size := by omega
  have hBhbw4 : Below w.heap.size w w4 := Below.trans (by (repeat' (first | (with_reducible exact Below.refl _ _) | (with_reducible assumption) | (with_reducible refine Below.alloc ?_ ?_ _) | (with_reducible refine below_drewN ?_ _) | (with_reducible refine Below.drew ?_) | (with_reducible refine Below.setCell ?_ ?_ _) | go_size))) (hbw4.mono (by go_size))
  have hWhbw4 : w.heap.size ≤ w4.heap.size := hBhbw4.size
  clear hbw4 hzhbw4
  go_wp2_with fail
  refine (rcompare_any n d p q f3 f4 f1 f2 g3 g4 g1 g2 _).mono ?_
  rintro e w5 ⟨rfl, hbw5⟩
  obtain ⟨hchbw5, hfhbw5⟩ := bcell hbw5
  have hzhbw5 := hbw5.size
  try simp at hzhbw5
  have hzhbw50 : w.heap.size < w5.heap.size := by omega
  have hzhbw51 : w.heap.size + 1 < w5.heap.size := by omega
  have hzhbw52 : w4.heap.size < w5.heap.size := by omega
  have hBhbw5 : Below w.heap.size w w5 := Below.trans (by (repeat' (first | (with_reducible exact Below.refl _ _) | (with_reducible assumption) | (with_reducible refine Below.alloc ?_ ?_ _) | (with_reducible refine below_drewN ?_ _) | (with_reducible refine Below.drew ?_) | (with_reducible refine Below.setCell ?_ ?_ _) | go_size))) (hbw5.mono (by go_size))
  have hWhbw5 : w.heap.size ≤ w5.heap.size := hBhbw5.size
  clear hbw5 hzhbw5
  rw [Hs.out]
  go_wp2_with fail
  go_ret
  exact ⟨rfl, by (repeat' (first | (with_reducible exact Below.refl _ _) | (with_reducible assumption) | (with_reducible refine Below.alloc ?_ ?_ _) | (with_reducible refine below_drewN ?_ _) | (with_reducible refine Below.drew ?_) | (with_reducible refine Below.setCell ?_ ?_ _) | go_size))⟩

set_option maxHeartbeats 2000000 in
theorem law_orderb (n d p q : Int) (f3 : -1048576 ≤ n) (f4 : n ≤ 1048576) (f1 : 1 ≤ d) (f2 : d ≤ 1048576) (g3 : -1048576 ≤ p) (g4 : p ≤ 1048576) (g1 : 1 ≤ q) (g2 : q ≤ 1048576) (Bf : Hid (canonB n d = true)) (Bg : Hid (canonB p q = true)) (Hs : Hid (sg (n * q) (p * d) = 1)) (hb : GB n d p q 0 0 8) (w : World) :
    Calls Try.prog 10 #[.agg #[.int .i64 n, .int .i64 d], .agg #[.int .i64 p, .int .i64 q]] w fun e w' => e = .returned (.bool true) ∧ Below w.heap.size w w' := by
  go_enter Try.func10, Try.ntmps10
  go_wp2_with fail
  refine (known_any _).mono ?_
  rintro e w1 ⟨rfl, hbw1⟩
  obtain ⟨hchbw1, hfhbw1⟩ := bcell hbw1
  have hzhbw1 := hbw1.size
  try simp at hzhbw1
  have hzhbw10 : w.heap.size < w1.heap.size := by omega
  have hzhbw11 : w.heap.size + 1 < w1.heap.size := by omega
  have hBhbw1 : Below w.heap.size w w1 := Below.trans (by (repeat' (first | (with_reducible exact Below.refl _ _) | (with_reducible assumption) | (with_reducible refine Below.alloc ?_ ?_ _) | (with_reducible refine below_drewN ?_ _) | (with_reducible refine Below.drew ?_) | (with_reducible refine Below.setCell ?_ ?_ _) | go_size))) (hbw1.mono (by go_size))
  have hWhbw1 : w.heap.size ≤ w1.heap.size := hBhbw1.size
  clear hbw1 hzhbw1
  go_wp2_with fail
  refine (rcheck_any n d (by omega) (by omega) (by omega) (by omega) _).mono ?_
  rintro e w2 ⟨rfl, hbw2⟩
  obtain ⟨hchbw2, hfhbw2⟩ := bcell hbw2
  have hzhbw2 := hbw2.size
  try simp at hzhbw2
  have hzhbw20 : w.heap.size < w2.heap.size := by omega
  have hzhbw21 : w.heap.size + 1 < w2.heap.size := by omega
  have hBhbw2 : Below w.heap.size w w2 := Below.trans (by (repeat' (first | (with_reducible exact Below.refl _ _) | (with_reducible assumption) | (with_reducible refine Below.alloc ?_ ?_ _) | (with_reducible refine below_drewN ?_ _) | (with_reducible refine Below.drew ?_) | (with_reducible refine Below.setCell ?_ ?_ _) | go_size))) (hbw2.mono (by go_size))
  have hWhbw2 : w.heap.size ≤ w2.heap.size := hBhbw2.size
  clear hbw2 hzhbw2
  rw [Bf.out]
  go_wp2_with fail
  refine (rcheck_any p q (by omega) (by omega) (by omega) (by omega) _).mono ?_
  rintro e w3 ⟨rfl, hbw3⟩
  obtain ⟨hchbw3, hfhbw3⟩ := bcell hbw3
  have hzhbw3 := hbw3.size
  try simp at hzhbw3
  have hzhbw30 : w.heap.size < w3.heap.size := by omega
  have hzhbw31 : w.heap.size + 1 < w3.heap.size := by omega
  have hBhbw3 : Below w.heap.size w w3 := Below.trans (by (repeat' (first | (with_reducible exact Below.refl _ _) | (with_reducible assumption) | (with_reducible refine Below.alloc ?_ ?_ _) | (with_reducible refine below_drewN ?_ _) | (with_reducible refine Below.drew ?_) | (with_reducible refine Below.setCell ?_ ?_ _) | go_size))) (hbw3.mono (by go_size))
  have hWhbw3 : w.heap.size ≤ w3.heap.size := hBhbw3.size
  clear hbw3 hzhbw3
  rw [Bg.out]
  have k0 : w3.cell? ⟨w.heap.size, 0, none⟩ = some (.int .i64 n) := by simp [*, go_sem]
  have k1 : w3.cell? ⟨w.heap.size, 1, none⟩ = some (.int .i64 d) := by simp [*, go_sem]
  have k2 : w3.cell? ⟨w.heap.size + 1, 0, none⟩ = some (.int .i64 p) := by simp [*, go_sem]
  have k3 : w3.cell? ⟨w.heap.size + 1, 1, none⟩ = some (.int .i64 q) := by simp [*, go_sem]
  clear hchbw1 hfhbw1 hchbw2 hfhbw2 hchbw3 hfhbw3
  go_wp2_with fail
  refine (hb _).mono ?_
  rintro e w4 ⟨rfl, hbw4⟩
  obtain ⟨hchbw4, hfhbw4⟩ := bcell hbw4
  have hzhbw4 := hbw4.size
  try simp at hzhbw4
  have hzhbw40 : w.heap.size < w4.heap.size := by omega
  have hzhbw41 : w.heap.size + 1 < w4.heap.size := by omega
  have hBhbw4 : Below w.heap.size w w4 := Below.trans (by (repeat' (first | (with_reducible exact Below.refl _ _) | (with_reducible assumption) | (with_reducible refine Below.alloc ?_ ?_ _) | (with_reducible refine below_drewN ?_ _) | (with_reducible refine Below.drew ?_) | (with_reducible refine Below.setCell ?_ ?_ _) | go_size))) (hbw4.mono (by go_size))
  have hWhbw4 : w.heap.size ≤ w4.heap.size := hBhbw4.size
  clear hbw4 hzhbw4
  go_wp2_with fail
  refine (rcompare_any n d p q f3 f4 f1 f2 g3 g4 g1 g2 _).mono ?_
  rintro e w5 ⟨rfl, hbw5⟩
  obtain ⟨hchbw5, hfhbw5⟩ := bcell hbw5
  have hzhbw5 := hbw5.size
  try simp at hzhbw5
  have hzhbw50 : w.heap.size < w5.heap.size := by omega
  have hzhbw51 : w.heap.size + 1 < w5.heap.size := by omega
  have hzhbw52 : w4.heap.size < w5.heap.size := by omega
  have hBhbw5 : Below w.heap.size w w5 := Below.trans (by (repeat' (first | (with_reducible exact Below.refl _ _) | (with_reducible assumption) | (with_reducible refine Below.alloc ?_ ?_ _) | (with_reducible refine below_drewN ?_ _) | (with_reducible refine Below.drew ?_) | (with_reducible refine Below.setCell ?_ ?_ _) | go_size))) (hbw5.mono (by go_size))
  have hWhbw5 : w.heap.size ≤ w5.heap.size := hBhbw5.size
  clear hbw5 hzhbw5
  rw [Hs.out]
  go_wp2_with fail
  go_ret
  exact ⟨rfl, by (repeat' (first | (with_reducible exact Below.refl _ _) | (with_reducible assumption) | (with_reducible refine Below.alloc ?_ ?_ _) | (with_reducible refine below_drewN ?_ _) | (with_reducible refine Below.drew ?_) | (with_reducible refine Below.setCell ?_ ?_ _) | go_size))⟩

set_option maxHeartbeats 2000000 in
theorem law_found (n d p q : Int) (f3 : -1048576 ≤ n) (f4 : n ≤ 1048576) (f1 : 1 ≤ d) (f2 : d ≤ 1048576) (g3 : -1048576 ≤ p) (g4 : p ≤ 1048576) (g1 : 1 ≤ q) (g2 : q ≤ 1048576) (Bf : Hid (canonB n d = true)) (Bg : Hid (canonB p q = true)) (Hs : Hid (sg (n * q) (p * d) = -1)) (N D : Int) (hb : GB n d p q N D 0) (hr : GR n d p q N D true) (w : World) :
    Calls Try.prog 10 #[.agg #[.int .i64 n, .int .i64 d], .agg #[.int .i64 p, .int .i64 q]] w fun e w' => e = .returned (.bool true) ∧ Below w.heap.size w w' := by
  go_enter Try.func10, Try.ntmps10
  go_wp2_with fail
  refine (known_any _).mono ?_
  rintro e w1 ⟨rfl, hbw1⟩
  obtain ⟨hchbw1, hfhbw1⟩ := bcell hbw1
  have hzhbw1 := hbw1.size
  try simp at hzhbw1
  have hzhbw10 : w.heap.size < w1.heap.size := by omega
  have hzhbw11 : w.heap.size + 1 < w1.heap.size := by omega
  have hBhbw1 : Below w.heap.size w w1 := Below.trans (by (repeat' (first | (with_reducible exact Below.refl _ _) | (with_reducible assumption) | (with_reducible refine Below.alloc ?_ ?_ _) | (with_reducible refine below_drewN ?_ _) | (with_reducible refine Below.drew ?_) | (with_reducible refine Below.setCell ?_ ?_ _) | go_size))) (hbw1.mono (by go_size))
  have hWhbw1 : w.heap.size ≤ w1.heap.size := hBhbw1.size
  clear hbw1 hzhbw1
  go_wp2_with fail
  refine (rcheck_any n d (by omega) (by omega) (by omega) (by omega) _).mono ?_
  rintro e w2 ⟨rfl, hbw2⟩
  obtain ⟨hchbw2, hfhbw2⟩ := bcell hbw2
  have hzhbw2 := hbw2.size
  try simp at hzhbw2
  have hzhbw20 : w.heap.size < w2.heap.size := by omega
  have hzhbw21 : w.heap.size + 1 < w2.heap.size := by omega
  have hBhbw2 : Below w.heap.size w w2 := Below.trans (by (repeat' (first | (with_reducible exact Below.refl _ _) | (with_reducible assumption) | (with_reducible refine Below.alloc ?_ ?_ _) | (with_reducible refine below_drewN ?_ _) | (with_reducible refine Below.drew ?_) | (with_reducible refine Below.setCell ?_ ?_ _) | go_size))) (hbw2.mono (by go_size))
  have hWhbw2 : w.heap.size ≤ w2.heap.size := hBhbw2.size
  clear hbw2 hzhbw2
  rw [Bf.out]
  go_wp2_with fail
  refine (rcheck_any p q (by omega) (by omega) (by omega) (by omega) _).mono ?_
  rintro e w3 ⟨rfl, hbw3⟩
  obtain ⟨hchbw3, hfhbw3⟩ := bcell hbw3
  have hzhbw3 := hbw3.size
  try simp at hzhbw3
  have hzhbw30 : w.heap.size < w3.heap.size := by omega
  have hzhbw31 : w.heap.size + 1 < w3.heap.size := by omega
  have hBhbw3 : Below w.heap.size w w3 := Below.trans (by (repeat' (first | (with_reducible exact Below.refl _ _) | (with_reducible assumption) | (with_reducible refine Below.alloc ?_ ?_ _) | (with_reducible refine below_drewN ?_ _) | (with_reducible refine Below.drew ?_) | (with_reducible refine Below.setCell ?_ ?_ _) | go_size))) (hbw3.mono (by go_size))
  have hWhbw3 : w.heap.size ≤ w3.heap.size := hBhbw3.size
  clear hbw3 hzhbw3
  rw [Bg.out]
  have k0 : w3.cell? ⟨w.heap.size, 0, none⟩ = some (.int .i64 n) := by simp [*, go_sem]
  have k1 : w3.cell? ⟨w.heap.size, 1, none⟩ = some (.int .i64 d) := by simp [*, go_sem]
  have k2 : w3.cell? ⟨w.heap.size + 1, 0, none⟩ = some (.int .i64 p) := by simp [*, go_sem]
  have k3 : w3.cell? ⟨w.heap.size + 1, 1, none⟩ = some (.int .i64 q) := by simp [*, go_sem]
  clear hchbw1 hfhbw1 hchbw2 hfhbw2 hchbw3 hfhbw3
  go_wp2_with fail
  refine (hb _).mono ?_
  rintro e w4 ⟨rfl, hbw4⟩
  obtain ⟨hchbw4, hfhbw4⟩ := bcell hbw4
  have hzhbw4 := hbw4.size
  try simp at hzhbw4
  have hzhbw40 : w.heap.size < w4.heap.size := by omega
  have hzhbw41 : w.heap.size + 1 < w4.heap.size := by omega
  have hBhbw4 : Below w.heap.size w w4 := Below.trans (by (repeat' (first | (with_reducible exact Below.refl _ _) | (with_reducible assumption) | (with_reducible refine Below.alloc ?_ ?_ _) | (with_reducible refine below_drewN ?_ _) | (with_reducible refine Below.drew ?_) | (with_reducible refine Below.setCell ?_ ?_ _) | go_size))) (hbw4.mono (by go_size))
  have hWhbw4 : w.heap.size ≤ w4.heap.size := hBhbw4.size
  clear hbw4 hzhbw4
  go_wp2_with fail
  refine (rcompare_any n d p q f3 f4 f1 f2 g3 g4 g1 g2 _).mono ?_
  rintro e w5 ⟨rfl, hbw5⟩
  obtain ⟨hchbw5, hfhbw5⟩ := bcell hbw5
  have hzhbw5 := hbw5.size
  try simp at hzhbw5
  have hzhbw50 : w.heap.size < w5.heap.size := by omega
  have hzhbw51 : w.heap.size + 1 < w5.heap.size := by omega
  have hzhbw52 : w4.heap.size < w5.heap.size := by omega
  have hBhbw5 : Below w.heap.size w w5 := Below.trans (by (repeat' (first | (with_reducible exact Below.refl _ _) | (with_reducible assumption) | (with_reducible refine Below.alloc ?_ ?_ _) | (with_reducible refine below_drewN ?_ _) | (with_reducible refine Below.drew ?_) | (with_reducible refine Below.setCell ?_ ?_ _) | go_size))) (hbw5.mono (by go_size))
  have hWhbw5 : w.heap.size ≤ w5.heap.size := hBhbw5.size
  clear hbw5 hzhbw5
  rw [Hs.out]
  go_wp2_with fail
  refine (hr _).mono ?_
  rintro e w6 ⟨rfl, hbw6⟩
  obtain ⟨hchbw6, hfhbw6⟩ := bcell hbw6
  have hzhbw6 := hbw6.size
  try simp at hzhbw6
  have hzhbw60 : w.heap.size < w6.heap.size := by omega
  have hzhbw61 : w.heap.size + 1 < w6.heap.size := by omega
  have hzhbw62 : w4.heap.size < w6.heap.size := by omega
  have hBhbw6 : Below w.heap.size w w6 := Below.trans (by (repeat' (first | (with_reducible exact Below.refl _ _) | (with_reducible assumption) | (with_reducible refine Below.alloc ?_ ?_ _) | (with_reducible refine below_drewN ?_ _) | (with_reducible refine Below.drew ?_) | (with_reducible refine Below.setCell ?_ ?_ _) | go_size))) (hbw6.mono (by go_size))
  have hWhbw6 : w.heap.size ≤ w6.heap.size := hBhbw6.size
  clear hbw6 hzhbw6
  go_wp2_with fail
  go_ret
  exact ⟨rfl, by (repeat' (first | (with_reducible exact Below.refl _ _) | (with_reducible assumption) | (with_reducible refine Below.alloc ?_ ?_ _) | (with_reducible refine below_drewN ?_ _) | (with_reducible refine Below.drew ?_) | (with_reducible refine Below.setCell ?_ ?_ _) | go_size))⟩

set_option maxHeartbeats 2000000 in
theorem law_over (n d p q : Int) (f3 : -1048576 ≤ n) (f4 : n ≤ 1048576) (f1 : 1 ≤ d) (f2 : d ≤ 1048576) (g3 : -1048576 ≤ p) (g4 : p ≤ 1048576) (g1 : 1 ≤ q) (g2 : q ≤ 1048576) (Bf : Hid (canonB n d = true)) (Bg : Hid (canonB p q = true)) (Hs : Hid (sg (n * q) (p * d) = -1)) (hb : GB n d p q 0 0 20) (hr : GR n d p q 0 0 false) (w : World) :
    Calls Try.prog 10 #[.agg #[.int .i64 n, .int .i64 d], .agg #[.int .i64 p, .int .i64 q]] w fun e w' => e = .returned (.bool true) ∧ Below w.heap.size w w' := by
  go_enter Try.func10, Try.ntmps10
  go_wp2_with fail
  refine (known_any _).mono ?_
  rintro e w1 ⟨rfl, hbw1⟩
  obtain ⟨hchbw1, hfhbw1⟩ := bcell hbw1
  have hzhbw1 := hbw1.size
  try simp at hzhbw1
  have hzhbw10 : w.heap.size < w1.heap.size := by omega
  have hzhbw11 : w.heap.size + 1 < w1.heap.size := by omega
  have hBhbw1 : Below w.heap.size w w1 := Below.trans (by (repeat' (first | (with_reducible exact Below.refl _ _) | (with_reducible assumption) | (with_reducible refine Below.alloc ?_ ?_ _) | (with_reducible refine below_drewN ?_ _) | (with_reducible refine Below.drew ?_) | (with_reducible refine Below.setCell ?_ ?_ _) | go_size))) (hbw1.mono (by go_size))
  have hWhbw1 : w.heap.size ≤ w1.heap.size := hBhbw1.size
  clear hbw1 hzhbw1
  go_wp2_with fail
  refine (rcheck_any n d (by omega) (by omega) (by omega) (by omega) _).mono ?_
  rintro e w2 ⟨rfl, hbw2⟩
  obtain ⟨hchbw2, hfhbw2⟩ := bcell hbw2
  have hzhbw2 := hbw2.size
  try simp at hzhbw2
  have hzhbw20 : w.heap.size < w2.heap.size := by omega
  have hzhbw21 : w.heap.size + 1 < w2.heap.size := by omega
  have hBhbw2 : Below w.heap.size w w2 := Below.trans (by (repeat' (first | (with_reducible exact Below.refl _ _) | (with_reducible assumption) | (with_reducible refine Below.alloc ?_ ?_ _) | (with_reducible refine below_drewN ?_ _) | (with_reducible refine Below.drew ?_) | (with_reducible refine Below.setCell ?_ ?_ _) | go_size))) (hbw2.mono (by go_size))
  have hWhbw2 : w.heap.size ≤ w2.heap.size := hBhbw2.size
  clear hbw2 hzhbw2
  rw [Bf.out]
  go_wp2_with fail
  refine (rcheck_any p q (by omega) (by omega) (by omega) (by omega) _).mono ?_
  rintro e w3 ⟨rfl, hbw3⟩
  obtain ⟨hchbw3, hfhbw3⟩ := bcell hbw3
  have hzhbw3 := hbw3.size
  try simp at hzhbw3
  have hzhbw30 : w.heap.size < w3.heap.size := by omega
  have hzhbw31 : w.heap.size + 1 < w3.heap.size := by omega
  have hBhbw3 : Below w.heap.size w w3 := Below.trans (by (repeat' (first | (with_reducible exact Below.refl _ _) | (with_reducible assumption) | (with_reducible refine Below.alloc ?_ ?_ _) | (with_reducible refine below_drewN ?_ _) | (with_reducible refine Below.drew ?_) | (with_reducible refine Below.setCell ?_ ?_ _) | go_size))) (hbw3.mono (by go_size))
  have hWhbw3 : w.heap.size ≤ w3.heap.size := hBhbw3.size
  clear hbw3 hzhbw3
  rw [Bg.out]
  have k0 : w3.cell? ⟨w.heap.size, 0, none⟩ = some (.int .i64 n) := by simp [*, go_sem]
  have k1 : w3.cell? ⟨w.heap.size, 1, none⟩ = some (.int .i64 d) := by simp [*, go_sem]
  have k2 : w3.cell? ⟨w.heap.size + 1, 0, none⟩ = some (.int .i64 p) := by simp [*, go_sem]
  have k3 : w3.cell? ⟨w.heap.size + 1, 1, none⟩ = some (.int .i64 q) := by simp [*, go_sem]
  clear hchbw1 hfhbw1 hchbw2 hfhbw2 hchbw3 hfhbw3
  go_wp2_with fail
  refine (hb _).mono ?_
  rintro e w4 ⟨rfl, hbw4⟩
  obtain ⟨hchbw4, hfhbw4⟩ := bcell hbw4
  have hzhbw4 := hbw4.size
  try simp at hzhbw4
  have hzhbw40 : w.heap.size < w4.heap.size := by omega
  have hzhbw41 : w.heap.size + 1 < w4.heap.size := by omega
  have hBhbw4 : Below w.heap.size w w4 := Below.trans (by (repeat' (first | (with_reducible exact Below.refl _ _) | (with_reducible assumption) | (with_reducible refine Below.alloc ?_ ?_ _) | (with_reducible refine below_drewN ?_ _) | (with_reducible refine Below.drew ?_) | (with_reducible refine Below.setCell ?_ ?_ _) | go_size))) (hbw4.mono (by go_size))
  have hWhbw4 : w.heap.size ≤ w4.heap.size := hBhbw4.size
  clear hbw4 hzhbw4
  go_wp2_with fail
  refine (rcompare_any n d p q f3 f4 f1 f2 g3 g4 g1 g2 _).mono ?_
  rintro e w5 ⟨rfl, hbw5⟩
  obtain ⟨hchbw5, hfhbw5⟩ := bcell hbw5
  have hzhbw5 := hbw5.size
  try simp at hzhbw5
  have hzhbw50 : w.heap.size < w5.heap.size := by omega
  have hzhbw51 : w.heap.size + 1 < w5.heap.size := by omega
  have hzhbw52 : w4.heap.size < w5.heap.size := by omega
  have hBhbw5 : Below w.heap.size w w5 := Below.trans (by (repeat' (first | (with_reducible exact Below.refl _ _) | (with_reducible assumption) | (with_reducible refine Below.alloc ?_ ?_ _) | (with_reducible refine below_drewN ?_ _) | (with_reducible refine Below.drew ?_) | (with_reducible refine Below.setCell ?_ ?_ _) | go_size))) (hbw5.mono (by go_size))
  have hWhbw5 : w.heap.size ≤ w5.heap.size := hBhbw5.size
  clear hbw5 hzhbw5
  rw [Hs.out]
  go_wp2_with fail
  refine (hr _).mono ?_
  rintro e w6 ⟨rfl, hbw6⟩
  obtain ⟨hchbw6, hfhbw6⟩ := bcell hbw6
  have hzhbw6 := hbw6.size
  try simp at hzhbw6
  have hzhbw60 : w.heap.size < w6.heap.size := by omega
  have hzhbw61 : w.heap.size + 1 < w6.heap.size := by omega
  have hzhbw62 : w4.heap.size < w6.heap.size := by omega
  have hBhbw6 : Below w.heap.size w w6 := Below.trans (by (repeat' (first | (with_reducible exact Below.refl _ _) | (with_reducible assumption) | (with_reducible refine Below.alloc ?_ ?_ _) | (with_reducible refine below_drewN ?_ _) | (with_reducible refine Below.drew ?_) | (with_reducible refine Below.setCell ?_ ?_ _) | go_size))) (hbw6.mono (by go_size))
  have hWhbw6 : w.heap.size ≤ w6.heap.size := hBhbw6.size
  clear hbw6 hzhbw6
  go_wp2_with fail
  go_ret
  exact ⟨rfl, by (repeat' (first | (with_reducible exact Below.refl _ _) | (with_reducible assumption) | (with_reducible refine Below.alloc ?_ ?_ _) | (with_reducible refine below_drewN ?_ _) | (with_reducible refine Below.drew ?_) | (with_reducible refine Below.setCell ?_ ?_ _) | go_size))⟩

set_option maxHeartbeats 4000000 in
theorem law_fine (n d p q : Int) (f3 : -1048576 ≤ n) (f4 : n ≤ 1048576) (f1 : 1 ≤ d) (f2 : d ≤ 1048576) (g3 : -1048576 ≤ p) (g4 : p ≤ 1048576) (g1 : 1 ≤ q) (g2 : q ≤ 1048576) (Bf : Hid (canonB n d = true)) (Bg : Hid (canonB p q = true)) (Hs : Hid (sg (n * q) (p * d) = -1)) (N D : Int) (hb : GB n d p q N D 0) (hr : GR n d p q 0 0 false) (BN : Hid (canonB N D = true)) (n1 : -1048576 ≤ N) (n2 : N ≤ 1048576) (d1 : 200 < D) (d2 : D ≤ 1048576)
    (S1 : Hid (sg (n * D) (N * d) = -1)) (S2 : Hid (sg (N * q) (p * D) = -1)) (w : World) :
    Calls Try.prog 10 #[.agg #[.int .i64 n, .int .i64 d], .agg #[.int .i64 p, .int .i64 q]] w fun e w' => e = .returned (.bool true) ∧ Below w.heap.size w w' := by
  go_enter Try.func10, Try.ntmps10
  go_wp2_with fail
  refine (known_any _).mono ?_
  rintro e w1 ⟨rfl, hbw1⟩
  obtain ⟨hchbw1, hfhbw1⟩ := bcell hbw1
  have hzhbw1 := hbw1.size
  try simp at hzhbw1
  have hzhbw10 : w.heap.size < w1.heap.size := by omega
  have hzhbw11 : w.heap.size + 1 < w1.heap.size := by omega
  have hBhbw1 : Below w.heap.size w w1 := Below.trans (by (repeat' (first | (with_reducible exact Below.refl _ _) | (with_reducible assumption) | (with_reducible refine Below.alloc ?_ ?_ _) | (with_reducible refine below_drewN ?_ _) | (with_reducible refine Below.drew ?_) | (with_reducible refine Below.setCell ?_ ?_ _) | go_size))) (hbw1.mono (by go_size))
  have hWhbw1 : w.heap.size ≤ w1.heap.size := hBhbw1.size
  clear hbw1 hzhbw1
  go_wp2_with fail
  refine (rcheck_any n d (by omega) (by omega) (by omega) (by omega) _).mono ?_
  rintro e w2 ⟨rfl, hbw2⟩
  obtain ⟨hchbw2, hfhbw2⟩ := bcell hbw2
  have hzhbw2 := hbw2.size
  try simp at hzhbw2
  have hzhbw20 : w.heap.size < w2.heap.size := by omega
  have hzhbw21 : w.heap.size + 1 < w2.heap.size := by omega
  have hBhbw2 : Below w.heap.size w w2 := Below.trans (by (repeat' (first | (with_reducible exact Below.refl _ _) | (with_reducible assumption) | (with_reducible refine Below.alloc ?_ ?_ _) | (with_reducible refine below_drewN ?_ _) | (with_reducible refine Below.drew ?_) | (with_reducible refine Below.setCell ?_ ?_ _) | go_size))) (hbw2.mono (by go_size))
  have hWhbw2 : w.heap.size ≤ w2.heap.size := hBhbw2.size
  clear hbw2 hzhbw2
  rw [Bf.out]
  go_wp2_with fail
  refine (rcheck_any p q (by omega) (by omega) (by omega) (by omega) _).mono ?_
  rintro e w3 ⟨rfl, hbw3⟩
  obtain ⟨hchbw3, hfhbw3⟩ := bcell hbw3
  have hzhbw3 := hbw3.size
  try simp at hzhbw3
  have hzhbw30 : w.heap.size < w3.heap.size := by omega
  have hzhbw31 : w.heap.size + 1 < w3.heap.size := by omega
  have hBhbw3 : Below w.heap.size w w3 := Below.trans (by (repeat' (first | (with_reducible exact Below.refl _ _) | (with_reducible assumption) | (with_reducible refine Below.alloc ?_ ?_ _) | (with_reducible refine below_drewN ?_ _) | (with_reducible refine Below.drew ?_) | (with_reducible refine Below.setCell ?_ ?_ _) | go_size))) (hbw3.mono (by go_size))
  have hWhbw3 : w.heap.size ≤ w3.heap.size := hBhbw3.size
  clear hbw3 hzhbw3
  rw [Bg.out]
  have k0 : w3.cell? ⟨w.heap.size, 0, none⟩ = some (.int .i64 n) := by simp [*, go_sem]
  have k1 : w3.cell? ⟨w.heap.size, 1, none⟩ = some (.int .i64 d) := by simp [*, go_sem]
  have k2 : w3.cell? ⟨w.heap.size + 1, 0, none⟩ = some (.int .i64 p) := by simp [*, go_sem]
  have k3 : w3.cell? ⟨w.heap.size + 1, 1, none⟩ = some (.int .i64 q) := by simp [*, go_sem]
  clear hchbw1 hfhbw1 hchbw2 hfhbw2 hchbw3 hfhbw3
  go_wp2_with fail
  refine (hb _).mono ?_
  rintro e w4 ⟨rfl, hbw4⟩
  obtain ⟨hchbw4, hfhbw4⟩ := bcell hbw4
  have hzhbw4 := hbw4.size
  try simp at hzhbw4
  have hzhbw40 : w.heap.size < w4.heap.size := by omega
  have hzhbw41 : w.heap.size + 1 < w4.heap.size := by omega
  have hBhbw4 : Below w.heap.size w w4 := Below.trans (by (repeat' (first | (with_reducible exact Below.refl _ _) | (with_reducible assumption) | (with_reducible refine Below.alloc ?_ ?_ _) | (with_reducible refine below_drewN ?_ _) | (with_reducible refine Below.drew ?_) | (with_reducible refine Below.setCell ?_ ?_ _) | go_size))) (hbw4.mono (by go_size))
  have hWhbw4 : w.heap.size ≤ w4.heap.size := hBhbw4.size
  clear hbw4 hzhbw4
  go_wp2_with fail
  refine (rcompare_any n d p q f3 f4 f1 f2 g3 g4 g1 g2 _).mono ?_
  rintro e w5 ⟨rfl, hbw5⟩
  obtain ⟨hchbw5, hfhbw5⟩ := bcell hbw5
  have hzhbw5 := hbw5.size
  try simp at hzhbw5
  have hzhbw50 : w.heap.size < w5.heap.size := by omega
  have hzhbw51 : w.heap.size + 1 < w5.heap.size := by omega
  have hzhbw52 : w4.heap.size < w5.heap.size := by omega
  have hBhbw5 : Below w.heap.size w w5 := Below.trans (by (repeat' (first | (with_reducible exact Below.refl _ _) | (with_reducible assumption) | (with_reducible refine Below.alloc ?_ ?_ _) | (with_reducible refine below_drewN ?_ _) | (with_reducible refine Below.drew ?_) | (with_reducible refine Below.setCell ?_ ?_ _) | go_size))) (hbw5.mono (by go_size))
  have hWhbw5 : w.heap.size ≤ w5.heap.size := hBhbw5.size
  clear hbw5 hzhbw5
  rw [Hs.out]
  go_wp2_with fail
  refine (hr _).mono ?_
  rintro e w6 ⟨rfl, hbw6⟩
  obtain ⟨hchbw6, hfhbw6⟩ := bcell hbw6
  have hzhbw6 := hbw6.size
  try simp at hzhbw6
  have hzhbw60 : w.heap.size < w6.heap.size := by omega
  have hzhbw61 : w.heap.size + 1 < w6.heap.size := by omega
  have hzhbw62 : w4.heap.size < w6.heap.size := by omega
  have hBhbw6 : Below w.heap.size w w6 := Below.trans (by (repeat' (first | (with_reducible exact Below.refl _ _) | (with_reducible assumption) | (with_reducible refine Below.alloc ?_ ?_ _) | (with_reducible refine below_drewN ?_ _) | (with_reducible refine Below.drew ?_) | (with_reducible refine Below.setCell ?_ ?_ _) | go_size))) (hbw6.mono (by go_size))
  have hWhbw6 : w.heap.size ≤ w6.heap.size := hBhbw6.size
  clear hbw6 hzhbw6
  go_wp2_with fail
  refine (rcheck_any N D (by omega) (by omega) (by omega) (by omega) _).mono ?_
  rintro e w7 ⟨rfl, hbw7⟩
  obtain ⟨hchbw7, hfhbw7⟩ := bcell hbw7
  have hzhbw7 := hbw7.size
  try simp at hzhbw7
  have hzhbw70 : w.heap.size < w7.heap.size := by omega
  have hzhbw71 : w.heap.size + 1 < w7.heap.size := by omega
  have hzhbw72 : w4.heap.size < w7.heap.size := by omega
  have hBhbw7 : Below w.heap.size w w7 := Below.trans (by (repeat' (first | (with_reducible exact Below.refl _ _) | (with_reducible assumption) | (with_reducible refine Below.alloc ?_ ?_ _) | (with_reducible refine below_drewN ?_ _) | (with_reducible refine Below.drew ?_) | (with_reducible refine Below.setCell ?_ ?_ _) | go_size))) (hbw7.mono (by go_size))
  have hWhbw7 : w.heap.size ≤ w7.heap.size := hBhbw7.size
  clear hbw7 hzhbw7
  rw [BN.out]
  go_wp2_with fail
  refine (rcompare_any n d N D f3 f4 f1 f2 n1 n2 (by omega) d2 _).mono ?_
  rintro e w8 ⟨rfl, hbw8⟩
  obtain ⟨hchbw8, hfhbw8⟩ := bcell hbw8
  have hzhbw8 := hbw8.size
  try simp at hzhbw8
  have hzhbw80 : w.heap.size < w8.heap.size := by omega
  have hzhbw81 : w.heap.size + 1 < w8.heap.size := by omega
  have hzhbw82 : w4.heap.size < w8.heap.size := by omega
  have hBhbw8 : Below w.heap.size w w8 := Below.trans (by (repeat' (first | (with_reducible exact Below.refl _ _) | (with_reducible assumption) | (with_reducible refine Below.alloc ?_ ?_ _) | (with_reducible refine below_drewN ?_ _) | (with_reducible refine Below.drew ?_) | (with_reducible refine Below.setCell ?_ ?_ _) | go_size))) (hbw8.mono (by go_size))
  have hWhbw8 : w.heap.size ≤ w8.heap.size := hBhbw8.size
  clear hbw8 hzhbw8
  rw [S1.out]
  go_wp2_with fail
  refine (rcompare_any N D p q n1 n2 (by omega) d2 g3 g4 g1 g2 _).mono ?_
  rintro e w9 ⟨rfl, hbw9⟩
  obtain ⟨hchbw9, hfhbw9⟩ := bcell hbw9
  have hzhbw9 := hbw9.size
  try simp at hzhbw9
  have hzhbw90 : w.heap.size < w9.heap.size := by omega
  have hzhbw91 : w.heap.size + 1 < w9.heap.size := by omega
  have hzhbw92 : w4.heap.size < w9.heap.size := by omega
  have hBhbw9 : Below w.heap.size w w9 := Below.trans (by (repeat' (first | (with_reducible exact Below.refl _ _) | (with_reducible assumption) | (with_reducible refine Below.alloc ?_ ?_ _) | (with_reducible refine below_drewN ?_ _) | (with_reducible refine Below.drew ?_) | (with_reducible refine Below.setCell ?_ ?_ _) | go_size))) (hbw9.mono (by go_size))
  have hWhbw9 : w.heap.size ≤ w9.heap.size := hBhbw9.size
  clear hbw9 hzhbw9
  rw [S2.out]
  go_wp2_with fail
  go_ret
  exact ⟨rfl, by (repeat' (first | (with_reducible exact Below.refl _ _) | (with_reducible assumption) | (with_reducible refine Below.alloc ?_ ?_ _) | (with_reducible refine below_drewN ?_ _) | (with_reducible refine Below.drew ?_) | (with_reducible refine Below.setCell ?_ ?_ _) | go_size))⟩

set_option maxHeartbeats 2000000 in
theorem law_bad (n d p q : Int) (hn1 : -9223372036854775808 ≤ n) (hn2 : n ≤ 9223372036854775807) (hd1 : -9223372036854775808 ≤ d) (hd2 : d ≤ 9223372036854775807) (hp1 : -9223372036854775808 ≤ p) (hp2 : p ≤ 9223372036854775807) (hq1 : -9223372036854775808 ≤ q) (hq2 : q ≤ 9223372036854775807) (h : ¬ (canon n d ∧ canon p q)) (w : World) :
    Calls Try.prog 10 #[.agg #[.int .i64 n, .int .i64 d], .agg #[.int .i64 p, .int .i64 q]] w fun e w' => e = .returned (.bool true) ∧ Below w.heap.size w w' := by
  by_cases cf : canon n d
  · have cg : ¬ canon p q := fun c => h ⟨cf, c⟩
    have Bf : Hid (canonB n d = true) := Lib.hid (by simpa [canonB] using cf)
    have Bg : Hid (canonB p q = false) := Lib.hid (by simpa [canonB] using cg)
    clear cf cg h
    go_enter Try.func10, Try.ntmps10
    go_wp2_with fail
    refine (known_any _).mono ?_
    rintro e w1 ⟨rfl, hbw1⟩
    obtain ⟨hchbw1, hfhbw1⟩ := bcell hbw1
    have hzhbw1 := hbw1.size
    try simp at hzhbw1
    have hzhbw10 : w.heap.size < w1.heap.size := by omega
    have hzhbw11 : w.heap.size + 1 < w1.heap.size := by omega
    have hBhbw1 : Below w.heap.size w w1 := Below.trans (by (repeat' (first | (with_reducible exact Below.refl _ _) | (with_reducible assumption) | (with_reducible refine Below.alloc ?_ ?_ _) | (with_reducible refine below_drewN ?_ _) | (with_reducible refine Below.drew ?_) | (with_reducible refine Below.setCell ?_ ?_ _) | go_size))) (hbw1.mono (by go_size))
    have hWhbw1 : w.heap.size ≤ w1.heap.size := hBhbw1.size
    clear hbw1 hzhbw1
    go_wp2_with fail
    refine (rcheck_any n d hn1 hn2 hd1 hd2 _).mono ?_
    rintro e w2 ⟨rfl, hbw2⟩
    obtain ⟨hchbw2, hfhbw2⟩ := bcell hbw2
    have hzhbw2 := hbw2.size
    try simp at hzhbw2
    have hzhbw20 : w.heap.size < w2.heap.size := by omega
    have hzhbw21 : w.heap.size + 1 < w2.heap.size := by omega
    have hBhbw2 : Below w.heap.size w w2 := Below.trans (by (repeat' (first | (with_reducible exact Below.refl _ _) | (with_reducible assumption) | (with_reducible refine Below.alloc ?_ ?_ _) | (with_reducible refine below_drewN ?_ _) | (with_reducible refine Below.drew ?_) | (with_reducible refine Below.setCell ?_ ?_ _) | go_size))) (hbw2.mono (by go_size))
    have hWhbw2 : w.heap.size ≤ w2.heap.size := hBhbw2.size
    clear hbw2 hzhbw2
    rw [Bf.out]
    go_wp2_with fail
    refine (rcheck_any p q hp1 hp2 hq1 hq2 _).mono ?_
    rintro e w3 ⟨rfl, hbw3⟩
    obtain ⟨hchbw3, hfhbw3⟩ := bcell hbw3
    have hzhbw3 := hbw3.size
    try simp at hzhbw3
    have hzhbw30 : w.heap.size < w3.heap.size := by omega
    have hzhbw31 : w.heap.size + 1 < w3.heap.size := by omega
    have hBhbw3 : Below w.heap.size w w3 := Below.trans (by (repeat' (first | (with_reducible exact Below.refl _ _) | (with_reducible assumption) | (with_reducible refine Below.alloc ?_ ?_ _) | (with_reducible refine below_drewN ?_ _) | (with_reducible refine Below.drew ?_) | (with_reducible refine Below.setCell ?_ ?_ _) | go_size))) (hbw3.mono (by go_size))
    have hWhbw3 : w.heap.size ≤ w3.heap.size := hBhbw3.size
    clear hbw3 hzhbw3
    rw [Bg.out]
    go_wp2_with fail
    refine (known_any _).mono ?_
    rintro e w4 ⟨rfl, hbw4⟩
    obtain ⟨hchbw4, hfhbw4⟩ := bcell hbw4
    have hzhbw4 := hbw4.size
    try simp at hzhbw4
    have hzhbw40 : w.heap.size < w4.heap.size := by omega
    have hzhbw41 : w.heap.size + 1 < w4.heap.size := by omega
    have hBhbw4 : Below w.heap.size w w4 := Below.trans (by (repeat' (first | (with_reducible exact Below.refl _ _) | (with_reducible assumption) | (with_reducible refine Below.alloc ?_ ?_ _) | (with_reducible refine below_drewN ?_ _) | (with_reducible refine Below.drew ?_) | (with_reducible refine Below.setCell ?_ ?_ _) | go_size))) (hbw4.mono (by go_size))
    have hWhbw4 : w.heap.size ≤ w4.heap.size := hBhbw4.size
    clear hbw4 hzhbw4
    go_wp2_with fail
    go_ret
    exact ⟨rfl, by (repeat' (first | (with_reducible exact Below.refl _ _) | (with_reducible assumption) | (with_reducible refine Below.alloc ?_ ?_ _) | (with_reducible refine below_drewN ?_ _) | (with_reducible refine Below.drew ?_) | (with_reducible refine Below.setCell ?_ ?_ _) | go_size))⟩
  · have Bf : Hid (canonB n d = false) := Lib.hid (by simpa [canonB] using cf)
    clear cf h
    go_enter Try.func10, Try.ntmps10
    go_wp2_with fail
    refine (known_any _).mono ?_
    rintro e w1 ⟨rfl, hbw1⟩
    obtain ⟨hchbw1, hfhbw1⟩ := bcell hbw1
    have hzhbw1 := hbw1.size
    try simp at hzhbw1
    have hzhbw10 : w.heap.size < w1.heap.size := by omega
    have hzhbw11 : w.heap.size + 1 < w1.heap.size := by omega
    have hBhbw1 : Below w.heap.size w w1 := Below.trans (by (repeat' (first | (with_reducible exact Below.refl _ _) | (with_reducible assumption) | (with_reducible refine Below.alloc ?_ ?_ _) | (with_reducible refine below_drewN ?_ _) | (with_reducible refine Below.drew ?_) | (with_reducible refine Below.setCell ?_ ?_ _) | go_size))) (hbw1.mono (by go_size))
    have hWhbw1 : w.heap.size ≤ w1.heap.size := hBhbw1.size
    clear hbw1 hzhbw1
    go_wp2_with fail
    refine (rcheck_any n d hn1 hn2 hd1 hd2 _).mono ?_
    rintro e w2 ⟨rfl, hbw2⟩
    obtain ⟨hchbw2, hfhbw2⟩ := bcell hbw2
    have hzhbw2 := hbw2.size
    try simp at hzhbw2
    have hzhbw20 : w.heap.size < w2.heap.size := by omega
    have hzhbw21 : w.heap.size + 1 < w2.heap.size := by omega
    have hBhbw2 : Below w.heap.size w w2 := Below.trans (by (repeat' (first | (with_reducible exact Below.refl _ _) | (with_reducible assumption) | (with_reducible refine Below.alloc ?_ ?_ _) | (with_reducible refine below_drewN ?_ _) | (with_reducible refine Below.drew ?_) | (with_reducible refine Below.setCell ?_ ?_ _) | go_size))) (hbw2.mono (by go_size))
    have hWhbw2 : w.heap.size ≤ w2.heap.size := hBhbw2.size
    clear hbw2 hzhbw2
    rw [Bf.out]
    go_wp2_with fail
    refine (known_any _).mono ?_
    rintro e w4 ⟨rfl, hbw4⟩
    obtain ⟨hchbw4, hfhbw4⟩ := bcell hbw4
    have hzhbw4 := hbw4.size
    try simp at hzhbw4
    have hzhbw40 : w.heap.size < w4.heap.size := by omega
    have hzhbw41 : w.heap.size + 1 < w4.heap.size := by omega
    have hBhbw4 : Below w.heap.size w w4 := Below.trans (by (repeat' (first | (with_reducible exact Below.refl _ _) | (with_reducible assumption) | (with_reducible refine Below.alloc ?_ ?_ _) | (with_reducible refine below_drewN ?_ _) | (with_reducible refine Below.drew ?_) | (with_reducible refine Below.setCell ?_ ?_ _) | go_size))) (hbw4.mono (by go_size))
    have hWhbw4 : w.heap.size ≤ w4.heap.size := hBhbw4.size
    clear hbw4 hzhbw4
    go_wp2_with fail
    go_ret
    exact ⟨rfl, by (repeat' (first | (with_reducible exact Below.refl _ _) | (with_reducible assumption) | (with_reducible refine Below.alloc ?_ ?_ _) | (with_reducible refine below_drewN ?_ _) | (with_reducible refine Below.drew ?_) | (with_reducible refine Below.setCell ?_ ?_ _) | go_size))⟩
end Go.Proofs.Ytmhheepnojbgoaa.lawBetween
