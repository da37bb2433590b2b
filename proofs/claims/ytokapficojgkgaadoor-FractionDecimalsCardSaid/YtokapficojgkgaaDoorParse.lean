
/- What the program's Parse returns, given what its reader of quotients returns; and the law, given that both readers return the same. -/
import Derived.Test.YtokapficojgkgaaDoorRScan
import Derived.Test.YtokapficojgkgaaDoorKnown
namespace Go.Proofs.YtokapficojgkgaaDoor
open Go.ChangeShapes Go.WideShapes Go.ChangeAt Go.RowKit Pl
set_option linter.unusedVariables false

/-- What the reader of quotients returns for a string, in every world. -/
def Quot (u : ByteArray) (a b : Int) (ok : Bool) : Prop := ∀ w : World, Calls Tryd.prog 20 #[.string u] w fun e w' => e = .returned (.tuple #[.int .i64 a, .int .i64 b, .bool ok]) ∧ Below w.heap.size w w'
/-- What both Parse functions return for a string, in every world. -/
def Gives (f : Nat) (s : ByteArray) (N D E : Int) : Prop := ∀ w : World, Calls Tryd.prog f #[.string s] w fun e w' => e = .returned (.tuple #[.agg #[.int .i64 N, .int .i64 D], .int .i64 E]) ∧ Below w.heap.size w w'

theorem head_get (s : ByteArray) (h : 0 < s.size) : s.data.toList.head? = some s[0] := by
  have := drop_at s 0 h
  rw [List.drop_zero] at this
  rw [this]; rfl

set_option maxHeartbeats 1000000 in
theorem parse_neg_bad (s u : ByteArray) (hs : s.size ≤ 16) (h0 : 1 ≤ s.size) (hh : Hid ((s.data.toList.head? == some 45) = true)) (hu : Hid (s.extract 1 s.size = u)) (a b : Int) (hq : Quot u a b false) : Gives 8 s 0 0 14 := by
  intro w
  go_enter Tryd.func8, Tryd.ntmps8
  go_wp2_with fail
  refine (cut_yes s 45 h0 hh.out (by omega) _).mono ?_
  rintro e w1 ⟨rfl, rfl⟩
  rw [hu.out]
  go_wp2_with fail
  refine (hq _).mono ?_
  rintro e w2 ⟨rfl, hbw2⟩
  obtain ⟨hchbw2, hfhbw2⟩ := bcell hbw2
  have hzhbw2 := hbw2.size
  try simp at hzhbw2
  have hzhbw20 : w.heap.size < w2.heap.size := by omega
  have hBhbw2 : Below w.heap.size w w2 := Below.trans (by (repeat' (first | (with_reducible exact Below.refl _ _) | (with_reducible assumption) | (with_reducible refine Below.alloc ?_ ?_ _) | (with_reducible refine below_drewN ?_ _) | (with_reducible refine Below.drew ?_) | (with_reducible refine Below.setCell ?_ ?_ _) | go_size))) (hbw2.mono (by go_size))
  have hWhbw2 : w.heap.size ≤ w2.heap.size := hBhbw2.size
  clear hbw2 hzhbw2
  go_wp2
  refine bodyPost_ret (v := .tuple #[.agg #[.int .i64 0, .int .i64 0], .int .i64 14]) (by simp [results, Tryd.results8, go_sem, *]) rfl ⟨rfl, by (repeat' (first | (with_reducible exact Below.refl _ _) | (with_reducible assumption) | (with_reducible refine Below.alloc ?_ ?_ _) | (with_reducible refine below_drewN ?_ _) | (with_reducible refine Below.drew ?_) | (with_reducible refine Below.setCell ?_ ?_ _) | go_size))⟩

set_option maxHeartbeats 1000000 in
theorem parse_neg_ok (s u : ByteArray) (hs : s.size ≤ 16) (h0 : 1 ≤ s.size) (hh : Hid ((s.data.toList.head? == some 45) = true)) (hu : Hid (s.extract 1 s.size = u)) (a b : Int) (hq : Quot u a b true) (a1 : 0 ≤ a) (a2 : a ≤ 20000000000000000) (b1 : 0 < b) (b2 : b ≤ 2000000000000000000) :
    Gives 8 s (mkN (-a) b) (mkD (-a) b) (mkE (-a) b) := by
  intro w
  go_enter Tryd.func8, Tryd.ntmps8
  go_wp2_with fail
  refine (cut_yes s 45 h0 hh.out (by omega) _).mono ?_
  rintro e w1 ⟨rfl, rfl⟩
  rw [hu.out]
  go_wp2_with fail
  refine (hq _).mono ?_
  rintro e w2 ⟨rfl, hbw2⟩
  obtain ⟨hchbw2, hfhbw2⟩ := bcell hbw2
  have hzhbw2 := hbw2.size
  try simp at hzhbw2
  have hzhbw20 : w.heap.size < w2.heap.size := by omega
  have hBhbw2 : Below w.heap.size w w2 := Below.trans (by (repeat' (first | (with_reducible exact Below.refl _ _) | (with_reducible assumption) | (with_reducible refine Below.alloc ?_ ?_ _) | (with_reducible refine below_drewN ?_ _) | (with_reducible refine Below.drew ?_) | (with_reducible refine Below.setCell ?_ ?_ _) | go_size))) (hbw2.mono (by go_size))
  have hWhbw2 : w.heap.size ≤ w2.heap.size := hBhbw2.size
  clear hbw2 hzhbw2
  go_wp2_with fail
  refine (make_any (-a) b (by omega) (by omega) (by omega) (by omega) (by omega) _).mono ?_
  rintro e w3 ⟨rfl, hbw3⟩
  obtain ⟨hchbw3, hfhbw3⟩ := bcell hbw3
  have hzhbw3 := hbw3.size
  try simp at hzhbw3
  have hzhbw30 : w.heap.size < w3.heap.size := by omega
  have hBhbw3 : Below w.heap.size w w3 := Below.trans (by (repeat' (first | (with_reducible exact Below.refl _ _) | (with_reducible assumption) | (with_reducible refine Below.alloc ?_ ?_ _) | (with_reducible refine below_drewN ?_ _) | (with_reducible refine Below.drew ?_) | (with_reducible refine Below.setCell ?_ ?_ _) | go_size))) (hbw3.mono (by go_size))
  have hWhbw3 : w.heap.size ≤ w3.heap.size := hBhbw3.size
  clear hbw3 hzhbw3
  go_wp2
  refine bodyPost_ret (v := .tuple #[.agg #[.int .i64 (mkN (-a) b), .int .i64 (mkD (-a) b)], .int .i64 (mkE (-a) b)]) (by simp [results, Tryd.results8, go_sem, *]) rfl ⟨rfl, by (repeat' (first | (with_reducible exact Below.refl _ _) | (with_reducible assumption) | (with_reducible refine Below.alloc ?_ ?_ _) | (with_reducible refine below_drewN ?_ _) | (with_reducible refine Below.drew ?_) | (with_reducible refine Below.setCell ?_ ?_ _) | go_size))⟩

set_option maxHeartbeats 1000000 in
theorem parse_neg_zero (s u : ByteArray) (hs : s.size ≤ 16) (h0 : 1 ≤ s.size) (hh : Hid ((s.data.toList.head? == some 45) = true)) (hu : Hid (s.extract 1 s.size = u)) (a : Int) (hq : Quot u a 0 true) (a1 : 0 ≤ a) (a2 : a ≤ 20000000000000000) :
    Gives 8 s 0 0 19 := by
  intro w
  go_enter Tryd.func8, Tryd.ntmps8
  go_wp2_with fail
  refine (cut_yes s 45 h0 hh.out (by omega) _).mono ?_
  rintro e w1 ⟨rfl, rfl⟩
  rw [hu.out]
  go_wp2_with fail
  refine (hq _).mono ?_
  rintro e w2 ⟨rfl, hbw2⟩
  obtain ⟨hchbw2, hfhbw2⟩ := bcell hbw2
  have hzhbw2 := hbw2.size
  try simp at hzhbw2
  have hzhbw20 : w.heap.size < w2.heap.size := by omega
  have hBhbw2 : Below w.heap.size w w2 := Below.trans (by (repeat' (first | (with_reducible exact Below.refl _ _) | (with_reducible assumption) | (with_reducible refine Below.alloc ?_ ?_ _) | (with_reducible refine below_drewN ?_ _) | (with_reducible refine Below.drew ?_) | (with_reducible refine Below.setCell ?_ ?_ _) | go_size))) (hbw2.mono (by go_size))
  have hWhbw2 : w.heap.size ≤ w2.heap.size := hBhbw2.size
  clear hbw2 hzhbw2
  go_wp2_with fail
  refine (make_zero (-a) _).mono ?_
  rintro e w3 ⟨rfl, hbw3⟩
  obtain ⟨hchbw3, hfhbw3⟩ := bcell hbw3
  have hzhbw3 := hbw3.size
  try simp at hzhbw3
  have hzhbw30 : w.heap.size < w3.heap.size := by omega
  have hBhbw3 : Below w.heap.size w w3 := Below.trans (by (repeat' (first | (with_reducible exact Below.refl _ _) | (with_reducible assumption) | (with_reducible refine Below.alloc ?_ ?_ _) | (with_reducible refine below_drewN ?_ _) | (with_reducible refine Below.drew ?_) | (with_reducible refine Below.setCell ?_ ?_ _) | go_size))) (hbw3.mono (by go_size))
  have hWhbw3 : w.heap.size ≤ w3.heap.size := hBhbw3.size
  clear hbw3 hzhbw3
  go_wp2
  refine bodyPost_ret (v := .tuple #[.agg #[.int .i64 0, .int .i64 0], .int .i64 19]) (by simp [results, Tryd.results8, go_sem, *]) rfl ⟨rfl, by (repeat' (first | (with_reducible exact Below.refl _ _) | (with_reducible assumption) | (with_reducible refine Below.alloc ?_ ?_ _) | (with_reducible refine below_drewN ?_ _) | (with_reducible refine Below.drew ?_) | (with_reducible refine Below.setCell ?_ ?_ _) | go_size))⟩

set_option maxHeartbeats 1000000 in
theorem parse_pos_bad (s : ByteArray) (hs : s.size ≤ 16) (hh : Hid ((s.data.toList.head? == some 45) = false)) (a b : Int) (hq : Quot s a b false) : Gives 8 s 0 0 14 := by
  intro w
  go_enter Tryd.func8, Tryd.ntmps8
  go_wp2_with fail
  refine (cut_no s 45 hh.out (by omega) _).mono ?_
  rintro e w1 ⟨rfl, rfl⟩
  go_wp2_with fail
  refine (hq _).mono ?_
  rintro e w2 ⟨rfl, hbw2⟩
  obtain ⟨hchbw2, hfhbw2⟩ := bcell hbw2
  have hzhbw2 := hbw2.size
  try simp at hzhbw2
  have hzhbw20 : w.heap.size < w2.heap.size := by omega
  have hBhbw2 : Below w.heap.size w w2 := Below.trans (by (repeat' (first | (with_reducible exact Below.refl _ _) | (with_reducible assumption) | (with_reducible refine Below.alloc ?_ ?_ _) | (with_reducible refine below_drewN ?_ _) | (with_reducible refine Below.drew ?_) | (with_reducible refine Below.setCell ?_ ?_ _) | go_size))) (hbw2.mono (by go_size))
  have hWhbw2 : w.heap.size ≤ w2.heap.size := hBhbw2.size
  clear hbw2 hzhbw2
  go_wp2
  refine bodyPost_ret (v := .tuple #[.agg #[.int .i64 0, .int .i64 0], .int .i64 14]) (by simp [results, Tryd.results8, go_sem, *]) rfl ⟨rfl, by (repeat' (first | (with_reducible exact Below.refl _ _) | (with_reducible assumption) | (with_reducible refine Below.alloc ?_ ?_ _) | (with_reducible refine below_drewN ?_ _) | (with_reducible refine Below.drew ?_) | (with_reducible refine Below.setCell ?_ ?_ _) | go_size))⟩

set_option maxHeartbeats 1000000 in
theorem parse_pos_ok (s : ByteArray) (hs : s.size ≤ 16) (hh : Hid ((s.data.toList.head? == some 45) = false)) (a b : Int) (hq : Quot s a b true) (a1 : 0 ≤ a) (a2 : a ≤ 20000000000000000) (b1 : 0 < b) (b2 : b ≤ 2000000000000000000) :
    Gives 8 s (mkN a b) (mkD a b) (mkE a b) := by
  intro w
  go_enter Tryd.func8, Tryd.ntmps8
  go_wp2_with fail
  refine (cut_no s 45 hh.out (by omega) _).mono ?_
  rintro e w1 ⟨rfl, rfl⟩
  go_wp2_with fail
  refine (hq _).mono ?_
  rintro e w2 ⟨rfl, hbw2⟩
  obtain ⟨hchbw2, hfhbw2⟩ := bcell hbw2
  have hzhbw2 := hbw2.size
  try simp at hzhbw2
  have hzhbw20 : w.heap.size < w2.heap.size := by omega
  have hBhbw2 : Below w.heap.size w w2 := Below.trans (by (repeat' (first | (with_reducible exact Below.refl _ _) | (with_reducible assumption) | (with_reducible refine Below.alloc ?_ ?_ _) | (with_reducible refine below_drewN ?_ _) | (with_reducible refine Below.drew ?_) | (with_reducible refine Below.setCell ?_ ?_ _) | go_size))) (hbw2.mono (by go_size))
  have hWhbw2 : w.heap.size ≤ w2.heap.size := hBhbw2.size
  clear hbw2 hzhbw2
  go_wp2_with fail
  refine (make_any a b (by omega) (by omega) (by omega) (by omega) (by omega) _).mono ?_
  rintro e w3 ⟨rfl, hbw3⟩
  obtain ⟨hchbw3, hfhbw3⟩ := bcell hbw3
  have hzhbw3 := hbw3.size
  try simp at hzhbw3
  have hzhbw30 : w.heap.size < w3.heap.size := by omega
  have hBhbw3 : Below w.heap.size w w3 := Below.trans (by (repeat' (first | (with_reducible exact Below.refl _ _) | (with_reducible assumption) | (with_reducible refine Below.alloc ?_ ?_ _) | (with_reducible refine below_drewN ?_ _) | (with_reducible refine Below.drew ?_) | (with_reducible refine Below.setCell ?_ ?_ _) | go_size))) (hbw3.mono (by go_size))
  have hWhbw3 : w.heap.size ≤ w3.heap.size := hBhbw3.size
  clear hbw3 hzhbw3
  go_wp2
  refine bodyPost_ret (v := .tuple #[.agg #[.int .i64 (mkN a b), .int .i64 (mkD a b)], .int .i64 (mkE a b)]) (by simp [results, Tryd.results8, go_sem, *]) rfl ⟨rfl, by (repeat' (first | (with_reducible exact Below.refl _ _) | (with_reducible assumption) | (with_reducible refine Below.alloc ?_ ?_ _) | (with_reducible refine below_drewN ?_ _) | (with_reducible refine Below.drew ?_) | (with_reducible refine Below.setCell ?_ ?_ _) | go_size))⟩

set_option maxHeartbeats 1000000 in
theorem parse_pos_zero (s : ByteArray) (hs : s.size ≤ 16) (hh : Hid ((s.data.toList.head? == some 45) = false)) (a : Int) (hq : Quot s a 0 true) (a1 : 0 ≤ a) (a2 : a ≤ 20000000000000000) :
    Gives 8 s 0 0 19 := by
  intro w
  go_enter Tryd.func8, Tryd.ntmps8
  go_wp2_with fail
  refine (cut_no s 45 hh.out (by omega) _).mono ?_
  rintro e w1 ⟨rfl, rfl⟩
  go_wp2_with fail
  refine (hq _).mono ?_
  rintro e w2 ⟨rfl, hbw2⟩
  obtain ⟨hchbw2, hfhbw2⟩ := bcell hbw2
  have hzhbw2 := hbw2.size
  try simp at hzhbw2
  have hzhbw20 : w.heap.size < w2.heap.size := by omega
  have hBhbw2 : Below w.heap.size w w2 := Below.trans (by (repeat' (first | (with_reducible exact Below.refl _ _) | (with_reducible assumption) | (with_reducible refine Below.alloc ?_ ?_ _) | (with_reducible refine below_drewN ?_ _) | (with_reducible refine Below.drew ?_) | (with_reducible refine Below.setCell ?_ ?_ _) | go_size))) (hbw2.mono (by go_size))
  have hWhbw2 : w.heap.size ≤ w2.heap.size := hBhbw2.size
  clear hbw2 hzhbw2
  go_wp2_with fail
  refine (make_zero a _).mono ?_
  rintro e w3 ⟨rfl, hbw3⟩
  obtain ⟨hchbw3, hfhbw3⟩ := bcell hbw3
  have hzhbw3 := hbw3.size
  try simp at hzhbw3
  have hzhbw30 : w.heap.size < w3.heap.size := by omega
  have hBhbw3 : Below w.heap.size w w3 := Below.trans (by (repeat' (first | (with_reducible exact Below.refl _ _) | (with_reducible assumption) | (with_reducible refine Below.alloc ?_ ?_ _) | (with_reducible refine below_drewN ?_ _) | (with_reducible refine Below.drew ?_) | (with_reducible refine Below.setCell ?_ ?_ _) | go_size))) (hbw3.mono (by go_size))
  have hWhbw3 : w.heap.size ≤ w3.heap.size := hBhbw3.size
  clear hbw3 hzhbw3
  go_wp2
  refine bodyPost_ret (v := .tuple #[.agg #[.int .i64 0, .int .i64 0], .int .i64 19]) (by simp [results, Tryd.results8, go_sem, *]) rfl ⟨rfl, by (repeat' (first | (with_reducible exact Below.refl _ _) | (with_reducible assumption) | (with_reducible refine Below.alloc ?_ ?_ _) | (with_reducible refine below_drewN ?_ _) | (with_reducible refine Below.drew ?_) | (with_reducible refine Below.setCell ?_ ?_ _) | go_size))⟩

set_option maxHeartbeats 1000000 in
theorem parse_long (s : ByteArray) (hs : (16 : Int) < s.size) : Gives 8 s 0 0 5 := by
  intro w
  go_enter Tryd.func8, Tryd.ntmps8
  go_wp2
  refine bodyPost_ret (v := .tuple #[.agg #[.int .i64 0, .int .i64 0], .int .i64 5]) (by simp [results, Tryd.results8, go_sem, *]) rfl ⟨rfl, by (repeat' (first | (with_reducible exact Below.refl _ _) | (with_reducible assumption) | (with_reducible refine Below.alloc ?_ ?_ _) | (with_reducible refine below_drewN ?_ _) | (with_reducible refine Below.drew ?_) | (with_reducible refine Below.setCell ?_ ?_ _) | go_size))⟩

end Go.Proofs.YtokapficojgkgaaDoor
