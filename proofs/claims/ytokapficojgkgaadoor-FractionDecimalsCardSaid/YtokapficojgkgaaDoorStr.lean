
/- A prefix of one byte cut off; powers of ten; the string of the chapter's example. -/
import Derived.Test.YtokapficojgkgaaDoorScan
import Derived.WalkLawsBesides
import Derived.WalkSpells
import Derived.Lib.Strings
namespace Go.Proofs.YtokapficojgkgaaDoor
open Go.ChangeShapes Go.WideShapes Go.ChangeAt Go.RowKit Pl

theorem ext1 (s : ByteArray) (h0 : 1 ≤ s.size) (p : UInt8) : ((s.extract 0 1).toList == [p]) = (s.data.toList.head? == some p) := by
  have e : (s.extract 0 1).toList = s.data.toList.take 1 := by
    rw [ByteArray.toList_eq, Lib.extract_data]; simp
  rw [e]
  have hl : 1 ≤ s.data.toList.length := by simpa using h0
  cases h : s.data.toList with
  | nil => rw [h] at hl; simp at hl
  | cons c r => simp

theorem cut_no (s : ByteArray) (p : UInt8) (h : (s.data.toList.head? == some p) = false) (hs : s.size ≤ 64) (w : World) :
    Calls Tryd.prog 19 #[.string s, .string ⟨#[p]⟩] w fun e w' => e = .returned (.tuple #[.string s, .bool false]) ∧ w = w' := by
  by_cases h0 : 1 ≤ s.size
  · have hh : ((s.extract 0 1).toList == [p]) = false := by rw [ext1 s h0, h]
    clear h
    go_enter Tryd.func19, Tryd.ntmps19
    go_wp2
    go_ret2
    exact ⟨rfl, rfl⟩
  · clear h
    go_enter Tryd.func19, Tryd.ntmps19
    go_wp2
    go_ret2
    exact ⟨rfl, rfl⟩
theorem cut_yes (s : ByteArray) (p : UInt8) (h0 : 1 ≤ s.size) (h : (s.data.toList.head? == some p) = true) (hs : s.size ≤ 64) (w : World) :
    Calls Tryd.prog 19 #[.string s, .string ⟨#[p]⟩] w fun e w' => e = .returned (.tuple #[.string (s.extract 1 s.size), .bool true]) ∧ w = w' := by
  have hh : ((s.extract 0 1).toList == [p]) = true := by rw [ext1 s h0, h]
  clear h
  go_enter Tryd.func19, Tryd.ntmps19
  go_wp2
  go_ret2
  exact ⟨rfl, rfl⟩

theorem power_any (e : Nat) (h1 : e ≤ 16) (w : World) :
    Calls Tryd.prog 23 #[.int .i64 e] w fun e' w' => e' = .returned (.int .i64 (10 ^ e)) ∧ w = w' := by
  go_enter Tryd.func23, Tryd.ntmps23
  go_wp2
  go_loop [3, 5] (fun v i => ∃ (k : Nat) (p : Int), k ≤ e ∧ v = .int .i64 p ∧ i = .int .i64 k ∧ Hid (p = 10 ^ k)) (fun _ i => e - (intOf i).toNat)
  case atStart => exact ⟨0, 1, by omega, rfl, rfl, Lib.hid (by simp)⟩
  case round =>
    obtain ⟨k, p, hk, rfl, rfl, hp⟩ := hrel
    have hb : p ≤ 10000000000000000 := by rw [hp.out]; exact pow_16 k (by omega)
    have hb0 : 0 < p := by rw [hp.out]; exact Int.pow_pos (by omega)
    by_cases hlt : k < e
    · go_wp2
      go_round
      case rel => exact ⟨k + 1, p * 10, by omega, by go_num, by go_num, Lib.hid (by rw [hp.out, Int.pow_succ])⟩
      case measure => simp [intOf]; omega
    · obtain rfl : k = e := by omega
      go_wp2
      go_ret
      exact ⟨ret_int hp.out, rfl⟩

theorem rpower_any (e : Nat) (h1 : e ≤ 16) (w : World) :
    Calls Tryd.prog 27 #[.int .i64 e] w fun e' w' => e' = .returned (.int .i64 (10 ^ e)) ∧ w = w' := by
  go_enter Tryd.func27, Tryd.ntmps27
  go_wp2
  go_loop [3, 4] (fun v i => ∃ (k : Nat) (p : Int), k ≤ e ∧ v = .int .i64 p ∧ i = .int .i64 k ∧ Hid (p = 10 ^ k)) (fun _ i => e - (intOf i).toNat)
  case atStart => exact ⟨0, 1, by omega, rfl, rfl, Lib.hid (by simp)⟩
  case round =>
    obtain ⟨k, p, hk, rfl, rfl, hp⟩ := hrel
    have hb : p ≤ 10000000000000000 := by rw [hp.out]; exact pow_16 k (by omega)
    have hb0 : 0 < p := by rw [hp.out]; exact Int.pow_pos (by omega)
    by_cases hlt : k < e
    · go_wp2
      go_round
      case rel => exact ⟨k + 1, 10 * p, by omega, by go_num, by go_num, Lib.hid (by rw [hp.out, Int.pow_succ, Int.mul_comm])⟩
      case measure => simp [intOf]; omega
    · obtain rfl : k = e := by omega
      go_wp2
      go_ret
      exact ⟨ret_int hp.out, rfl⟩

set_option maxHeartbeats 1000000 in
theorem quotient_known (w : World) :
    Calls Tryd.prog 20 #[.string ⟨#[57, 57, 46, 57, 37]⟩] w fun e w' => e = .returned (.tuple #[.int .i64 999, .int .i64 1000, .bool true]) ∧ Below w.heap.size w w' := by
  go_enter Tryd.func20, Tryd.ntmps20
  go_wp2_with fail
  refine (scanDigits_any _ (by simp [ByteArray.size]) _).mono ?_
  rintro e w1 ⟨rfl, hb1⟩
  rw [show scanL 0 0 (ByteArray.mk #[57, 57, 46, 57, 37]).data.toList = (99, 2) from by decide]
  go_wp2_with fail
  refine (cut_no _ 47 (by decide) (by decide) _).mono ?_
  rintro e w2 ⟨rfl, rfl⟩
  go_wp2_with fail
  refine (cut_yes _ 46 (by decide) (by decide) (by decide) _).mono ?_
  rintro e w2 ⟨rfl, rfl⟩
  go_wp2_with fail
  refine (scanDigits_any _ (by decide) _).mono ?_
  rintro e w3 ⟨rfl, hb3⟩
  go_wp2_with fail
  rw [show scanL 0 0 [57, 37] = (9, 1) from by decide]
  refine (power_any 1 (by omega) _).mono ?_
  rintro e w4 ⟨rfl, rfl⟩
  have ht : (((((ByteArray.mk #[57, 57, 46, 57, 37]).extract 2 5).extract 1 3).extract 1 2).toList == [37]) = true := by rw [ByteArray.toList_eq]; decide
  go_wp2_with fail
  go_ret3
  exact ⟨rfl, hb1.trans (hb3.mono hb1.size)⟩

set_option maxHeartbeats 1000000 in
theorem parse_known (w : World) :
    Calls Tryd.prog 8 #[.string ⟨#[57, 57, 46, 57, 37]⟩] w fun e w' => e = .returned (.tuple #[.agg #[.int .i64 999, .int .i64 1000], .int .i64 0]) ∧ Below w.heap.size w w' := by
  go_enter Tryd.func8, Tryd.ntmps8
  go_wp2_with fail
  refine (cut_no _ _ (by decide) (by decide) _).mono ?_
  rintro e w' ⟨rfl, rfl⟩
  go_wp2_with fail
  refine (quotient_known _).mono ?_
  rintro e w1 ⟨rfl, hb1⟩
  obtain ⟨hchb1, hfhb1⟩ := bcell hb1
  have hzhb1 := hb1.size
  try simp at hzhb1
  have hzhb10 : w.heap.size < w1.heap.size := by omega
  have hBhb1 : Below w.heap.size w w1 := Below.trans (by (repeat' (first | (with_reducible exact Below.refl _ _) | (with_reducible assumption) | (with_reducible refine Below.alloc ?_ ?_ _) | (with_reducible refine below_drewN ?_ _) | (with_reducible refine Below.drew ?_) | (with_reducible refine Below.setCell ?_ ?_ _) | go_size))) (hb1.mono (by go_size))
  have hWhb1 : w.heap.size ≤ w1.heap.size := hBhb1.size
  clear hb1 hzhb1
  go_wp2_with fail
  refine (make_any 999 1000 (by omega) (by omega) (by omega) (by omega) (by omega) _).mono ?_
  rintro e w2 ⟨rfl, hb2⟩
  rw [show mkN 999 1000 = 999 from by decide, show mkD 999 1000 = 1000 from by decide, show mkE 999 1000 = 0 from by decide]
  obtain ⟨hchb2, hfhb2⟩ := bcell hb2
  have hzhb2 := hb2.size
  try simp at hzhb2
  have hzhb20 : w.heap.size < w2.heap.size := by omega
  have hBhb2 : Below w.heap.size w w2 := Below.trans (by (repeat' (first | (with_reducible exact Below.refl _ _) | (with_reducible assumption) | (with_reducible refine Below.alloc ?_ ?_ _) | (with_reducible refine below_drewN ?_ _) | (with_reducible refine Below.drew ?_) | (with_reducible refine Below.setCell ?_ ?_ _) | go_size))) (hb2.mono (by go_size))
  have hWhb2 : w.heap.size ≤ w2.heap.size := hBhb2.size
  clear hb2 hzhb2
  go_wp2
  refine bodyPost_ret (v := .tuple #[.agg #[.int .i64 999, .int .i64 1000], .int .i64 0]) (by simp [results, Tryd.results8, go_sem, *]) rfl ⟨rfl, by (repeat' (first | (with_reducible exact Below.refl _ _) | (with_reducible assumption) | (with_reducible refine Below.alloc ?_ ?_ _) | (with_reducible refine below_drewN ?_ _) | (with_reducible refine Below.drew ?_) | (with_reducible refine Below.setCell ?_ ?_ _) | go_size))⟩
end Go.Proofs.YtokapficojgkgaaDoor
