/- Index, Bounds; the law's index, low, high. -/
import Derived.Test.YtolgcphmmghlbaaHb
namespace Go.Proofs.Ytolgcphmmghlbaa
open Go.ChangeShapes Go.WideShapes Go.ChangeAt Go.RowKit

theorem index_bad (v : Int) (h : v < 0 ∨ 1099511627776 < v) (w : World) :
    Calls Try.prog 13 #[.int .i64 v] w fun e w' => e = .returned (.tuple #[.int .i64 0, .int .i64 2]) ∧ w = w' := by
  by_cases h1 : v < 0
  · have d1 : decide (v < 0) = true := by simpa using h1
    go_enter Try.func13, Try.ntmps13
    go_wp2_with fail
    exact bodyPost_ret (results_tmp2 rfl _ _ _) rfl ⟨rfl, rfl⟩
  · have d1 : decide (v < 0) = false := by simpa using h1
    have d2 : decide (1099511627776 < v) = true := by simp; omega
    go_enter Try.func13, Try.ntmps13
    go_wp2_with fail
    exact bodyPost_ret (results_tmp2 rfl _ _ _) rfl ⟨rfl, rfl⟩
theorem ret_two {a b c d : Value} (h1 : a = c) (h2 : b = d) : Ending.returned (.tuple #[a, b]) = .returned (.tuple #[c, d]) := by rw [h1, h2]
theorem int_eq {a b : Int} (h : a = b) : (Value.int .i64 a) = .int .i64 b := by rw [h]
theorem index_ok (v : Nat) (h : v ≤ 1099511627776) (w : World) :
    Calls Try.prog 13 #[.int .i64 (v : Int)] w fun e w' => e = .returned (.tuple #[.int .i64 ((ix v : Nat) : Int), .int .i64 0]) ∧ w = w' := by
  have hI : (v : Int) ≤ 1099511627776 := by omega
  by_cases h1 : v < 16
  · have HX := Lib.hid (ix_small v h1)
    have hlt : (v : Int) < 16 := by omega
    go_enter Try.func13, Try.ntmps13
    go_wp2_with fail
    exact bodyPost_ret (results_tmp2 rfl _ _ _) rfl ⟨by rw [HX.out]; rfl, rfl⟩
  · have hge : ¬ (v : Int) < 16 := by omega
    obtain ⟨hk1, _, _⟩ := kk_spec v (by omega) (by omega)
    have hkl := kk_le v (by omega) h
    have hm := mant v (by omega) (by omega)
    have hL : Lib.bitLen v = kk v + 4 := by
      have := len_ge v (by omega) (by omega)
      unfold kk; rw [if_neg h1]; omega
    have HI : Hid (ix v = 8 * kk v + v / 2 ^ kk v) := Lib.hid rfl
    obtain ⟨k, hk⟩ : ∃ k, k = kk v := ⟨_, rfl⟩
    rw [← hk] at hk1 hkl hm hL HI
    have HLen := Lib.hid (fun W => Try.bits_Len (v : Int) W (by omega) (by omega))
    rw [Int.toNat_natCast, hL] at HLen
    obtain ⟨a, ha⟩ : ∃ a : Nat, a = k + 4 := ⟨_, rfl⟩
    obtain ⟨b, hb⟩ : ∃ b : Nat, b = k + 3 := ⟨_, rfl⟩
    rw [← ha] at HLen
    have e1 : (a : Int) - 1 = (b : Int) := by omega
    have e2 : (b : Int) - 3 = (k : Int) := by omega
    have ha41 : (a : Int) ≤ 41 := by omega
    have ha5 : (5 : Int) ≤ (a : Int) := by omega
    have hb4 : (4 : Int) ≤ (b : Int) := by omega
    have hb40 : (b : Int) ≤ 40 := by omega
    have hk37 : (k : Int) ≤ 37 := by omega
    obtain ⟨q, hq⟩ : ∃ q : Nat, q = v / 2 ^ k := ⟨_, rfl⟩
    have hqI : (v : Int) / 2 ^ k = (q : Int) := by rw [hq]; simp
    rw [← hq] at hm HI
    have hq16 : (q : Int) < 16 := by omega
    clear hk hL ha hb hq
    go_enter Try.func13, Try.ntmps13
    go_wp2_with fail
    refine (HLen.out _).mono ?_
    rintro e w1 ⟨rfl, hw⟩
    subst hw
    go_wp2_with fail
    refine bodyPost_ret (results_tmp2 rfl _ _ _) rfl ⟨?_, rfl⟩
    show Ending.returned (.tuple #[.int .i64 (8 * (k : Int) + (q : Int)), .int .i64 0]) = _
    exact ret_two (int_eq (by rw [HI.out]; simp)) rfl
theorem isIndex_any (n : Int) (w : World) : Calls Try.prog 38 #[.int .i64 n] w fun e w' => e = .returned (.bool (decide (0 ≤ n) && decide (n < 305))) ∧ w = w' := by
  by_cases h1 : 0 ≤ n
  · have d1 : decide (0 ≤ n) = true := by simpa using h1
    go_enter Try.func38, Try.ntmps38
    go_wp2_with fail
    go_ret
    exact ⟨by first | rfl | simp [*], rfl⟩
  · have d1 : decide (0 ≤ n) = false := by simpa using h1
    go_enter Try.func38, Try.ntmps38
    go_wp2_with fail
    go_ret
    exact ⟨by first | rfl | simp [*], rfl⟩
theorem bounds_bad (n : Int) (h : n < 0 ∨ 305 ≤ n) (w : World) :
    Calls Try.prog 14 #[.int .i64 n] w fun e w' => e = .returned (.tuple #[.int .i64 0, .int .i64 0, .int .i64 2]) ∧ Below w.heap.size w w' := by
  have HC := Lib.hid (fun W => isIndex_any n W)
  rw [show (decide (0 ≤ n) && decide (n < 305)) = false by simp; omega] at HC
  clear h
  go_enter Try.func14, Try.ntmps14
  go_wp2_with fail
  refine (HC.out _).mono ?_
  rintro e w1 ⟨rfl, rfl⟩
  go_wp2_with fail
  go_ret3
  exact ⟨rfl, Below.refl _ _⟩
theorem ret_three {a b c d e f : Value} (h1 : a = d) (h2 : b = e) (h3 : c = f) : Ending.returned (.tuple #[a, b, c]) = .returned (.tuple #[d, e, f]) := by rw [h1, h2, h3]
/- What Bounds computes, under names. -/
def shL (m k : Nat) : Nat := m * 2 ^ k
def Sh (m k : Nat) : Prop := m ≤ 16 ∧ k ≤ 37
theorem sh_at (m k : Nat) (h : Sh m k) : IntKind.i64.wrap ((m : Int) * 2 ^ k) = ((shL m k : Nat) : Int) := by
  obtain ⟨h1, h2⟩ := h
  have e : (m : Int) * 2 ^ k = ((shL m k : Nat) : Int) := by unfold shL; simp
  have h3 : shL m k ≤ 16 * 2 ^ 37 := Nat.mul_le_mul h1 (Nat.pow_le_pow_right (by omega) h2)
  rw [e]; simp only [IntKind.wrap_i64]; omega
theorem sh1_at (k : Nat) (h : k ≤ 37) : IntKind.i64.wrap (2 ^ k) = ((shL 1 k : Nat) : Int) := by
  have := sh_at 1 k ⟨by omega, h⟩
  simpa using this
theorem shL_le (m k : Nat) (h : Sh m k) : shL m k ≤ 2199023255552 := by
  have h3 : shL m k ≤ 16 * 2 ^ 37 := Nat.mul_le_mul h.1 (Nat.pow_le_pow_right (by omega) h.2)
  omega
section
attribute [local go_sem] sh_at sh1_at
set_option maxHeartbeats 1000000 in
theorem bounds_ok (n : Nat) (h : n < 305) (w : World) :
    Calls Try.prog 14 #[.int .i64 (n : Int)] w fun e w' => e = .returned (.tuple #[.int .i64 ((loN n : Nat) : Int), .int .i64 ((hiN n : Nat) : Int), .int .i64 0]) ∧ Below w.heap.size w w' := by
  have HC := Lib.hid (fun W => isIndex_any (n : Int) W)
  rw [show (decide ((0 : Int) ≤ (n : Int)) && decide ((n : Int) < 305)) = true by simp; omega] at HC
  by_cases h1 : n < 16
  · have hlt : (n : Int) < 16 := by omega
    have H1 : Hid (loN n = n) := Lib.hid (by unfold loN; rw [if_pos h1])
    have H2 : Hid (hiN n = n) := Lib.hid (by unfold hiN; rw [if_pos h1])
    clear h h1
    go_enter Try.func14, Try.ntmps14
    go_wp2_with fail
    refine (HC.out _).mono ?_
    rintro e w1 ⟨rfl, rfl⟩
    go_wp2_with fail
    go_ret3
    exact ⟨by rw [H1.out, H2.out]; rfl, Below.refl _ _⟩
  · have hge : ¬ (n : Int) < 16 := by omega
    have H1 : Hid (loN n = shL (8 + n % 8) (n / 8 - 1)) := Lib.hid (by unfold loN; rw [if_neg h1]; rfl)
    have H2 : Hid (hiN n = min (shL (8 + n % 8) (n / 8 - 1) + shL 1 (n / 8 - 1) - 1) 1099511627776) := Lib.hid (by
      unfold hiN shL; rw [if_neg h1, Nat.add_mul])
    obtain ⟨a, ha⟩ : ∃ a : Nat, a = n / 8 := ⟨_, rfl⟩
    obtain ⟨r, hr⟩ : ∃ r : Nat, r = n % 8 := ⟨_, rfl⟩
    obtain ⟨k, hk⟩ : ∃ k : Nat, k = n / 8 - 1 := ⟨_, rfl⟩
    obtain ⟨m, hm⟩ : ∃ m : Nat, m = 8 + n % 8 := ⟨_, rfl⟩
    rw [← hk, ← hm] at H1 H2
    have e1 : (n : Int) / 8 = (a : Int) := by omega
    have e2 : (a : Int) - 1 = (k : Int) := by omega
    have e3 : (n : Int) % 8 = (r : Int) := by omega
    have e4 : 8 + (r : Int) = (m : Int) := by omega
    have hr7 : (r : Int) ≤ 7 := by omega
    have ha38 : (a : Int) ≤ 38 := by omega
    have ha2 : (2 : Int) ≤ (a : Int) := by omega
    have hk37 : (k : Int) ≤ 37 := by omega
    have hkN : k ≤ 37 := by omega
    have hs : Sh m k := ⟨by omega, hkN⟩
    have hb1 := shL_le m k hs
    have hb2 := shL_le 1 k ⟨by omega, hkN⟩
    have hp1 : 1 ≤ shL 1 k := by unfold shL; have : 0 < 2 ^ k := Nat.pow_pos (by omega); omega
    clear ha hr hk hm h h1
    obtain ⟨x, hx⟩ : ∃ x : Nat, x = shL m k := ⟨_, rfl⟩
    obtain ⟨y, hy⟩ : ∃ y : Nat, y = shL 1 k := ⟨_, rfl⟩
    have f1 : IntKind.i64.wrap ((x : Int) + (y : Int)) = (x : Int) + (y : Int) := by simp only [IntKind.wrap_i64]; omega
    have f2 : IntKind.i64.wrap ((x : Int) + (y : Int) - 1) = (x : Int) + (y : Int) - 1 := by simp only [IntKind.wrap_i64]; omega
    rw [hx, hy] at f1 f2
    have Hxy := Lib.hid (show shL m k ≤ 2199023255552 ∧ shL 1 k ≤ 2199023255552 ∧ 1 ≤ shL 1 k from ⟨hb1, hb2, hp1⟩)
    clear hx hy hb1 hb2 hp1
    go_enter Try.func14, Try.ntmps14
    go_wp2_with fail
    refine (HC.out _).mono ?_
    rintro e w1 ⟨rfl, rfl⟩
    go_wp2_with fail
    go_quiet (fail)
    clear f1 f2
    go_wp2_with fail
    go_ret3
    refine ⟨?_, below_drewN (Below.refl _ _) _⟩
    show Ending.returned (.tuple #[.int .i64 ((shL m k : Nat) : Int), .int .i64 (min (((shL m k : Nat) : Int) + ((shL 1 k : Nat) : Int) - 1) 1099511627776), .int .i64 0]) = _
    exact ret_three (int_eq (by rw [H1.out])) (int_eq (by have := Hxy.out; rw [H2.out]; omega)) rfl
set_option maxHeartbeats 1000000 in
theorem low_any (n : Nat) (h : n < 305) (w : World) :
    Calls Try.prog 16 #[.int .i64 (n : Int)] w fun e w' => e = .returned (.int .i64 ((loN n : Nat) : Int)) ∧ w = w' := by
  by_cases h1 : n < 16
  · have hlt : (n : Int) < 16 := by omega
    have H1 : Hid (loN n = n) := Lib.hid (by unfold loN; rw [if_pos h1])
    clear h h1
    go_enter Try.func16, Try.ntmps16
    go_wp2_with fail
    go_ret
    exact ⟨by rw [H1.out]; rfl, rfl⟩
  · have hge : ¬ (n : Int) < 16 := by omega
    have H1 : Hid (loN n = shL (8 + n % 8) (n / 8 - 1)) := Lib.hid (by unfold loN; rw [if_neg h1]; rfl)
    obtain ⟨a, ha⟩ : ∃ a : Nat, a = n / 8 := ⟨_, rfl⟩
    obtain ⟨k, hk⟩ : ∃ k : Nat, k = n / 8 - 1 := ⟨_, rfl⟩
    obtain ⟨m, hm⟩ : ∃ m : Nat, m = 8 + n % 8 := ⟨_, rfl⟩
    rw [← hk, ← hm] at H1
    have e1 : (n : Int) / 8 = (a : Int) := by omega
    have e2 : (a : Int) - 1 = (k : Int) := by omega
    have e4 : (n : Int) - 8 * (k : Int) = (m : Int) := by omega
    have ha38 : (a : Int) ≤ 38 := by omega
    have ha2 : (2 : Int) ≤ (a : Int) := by omega
    have hk37 : (k : Int) ≤ 37 := by omega
    have hkN : k ≤ 37 := by omega
    have hs : Sh m k := ⟨by omega, hkN⟩
    clear ha hk hm h h1
    go_enter Try.func16, Try.ntmps16
    go_wp2_with fail
    go_ret
    refine ⟨?_, rfl⟩
    show Ending.returned (.int .i64 ((shL m k : Nat) : Int)) = _
    rw [H1.out]
set_option maxHeartbeats 1000000 in
theorem high_any (n : Nat) (h : n < 305) (w : World) :
    Calls Try.prog 17 #[.int .i64 (n : Int)] w fun e w' => e = .returned (.int .i64 ((hiN n : Nat) : Int)) ∧ w = w' := by
  by_cases h1 : n < 16
  · have hlt : (n : Int) < 16 := by omega
    have H1 : Hid (hiN n = n) := Lib.hid (by unfold hiN; rw [if_pos h1])
    clear h h1
    go_enter Try.func17, Try.ntmps17
    go_wp2_with fail
    go_ret
    exact ⟨by rw [H1.out]; rfl, rfl⟩
  · have hge : ¬ (n : Int) < 16 := by omega
    have H1 : Hid (hiN n = min (shL (8 + n % 8 + 1) (n / 8 - 1) - 1) 1099511627776) := Lib.hid (by unfold hiN; rw [if_neg h1]; rfl)
    obtain ⟨a, ha⟩ : ∃ a : Nat, a = n / 8 := ⟨_, rfl⟩
    obtain ⟨k, hk⟩ : ∃ k : Nat, k = n / 8 - 1 := ⟨_, rfl⟩
    obtain ⟨m0, hm0⟩ : ∃ m0 : Nat, m0 = 8 + n % 8 := ⟨_, rfl⟩
    obtain ⟨m, hm⟩ : ∃ m : Nat, m = 8 + n % 8 + 1 := ⟨_, rfl⟩
    rw [← hk, ← hm] at H1
    have e1 : (n : Int) / 8 = (a : Int) := by omega
    have e2 : (a : Int) - 1 = (k : Int) := by omega
    have e4 : (n : Int) - 8 * (k : Int) = (m0 : Int) := by omega
    have e5 : (m0 : Int) + 1 = (m : Int) := by omega
    have hm15 : (m0 : Int) ≤ 15 := by omega
    have ha38 : (a : Int) ≤ 38 := by omega
    have ha2 : (2 : Int) ≤ (a : Int) := by omega
    have hk37 : (k : Int) ≤ 37 := by omega
    have hkN : k ≤ 37 := by omega
    have hs : Sh m k := ⟨by omega, hkN⟩
    have hb1 := shL_le m k hs
    have hp1 : 1 ≤ shL m k := by
      unfold shL
      have : 0 < 2 ^ k := Nat.pow_pos (by omega)
      exact Nat.mul_pos (by omega) this
    have hb1I : ((shL m k : Nat) : Int) ≤ 2199023255552 := by omega
    have hp1I : (1 : Int) ≤ ((shL m k : Nat) : Int) := by omega
    clear ha hk hm h h1 hm0 hb1 hp1
    go_enter Try.func17, Try.ntmps17
    go_wp2_with fail
    go_ret
    refine ⟨?_, rfl⟩
    show Ending.returned (.int .i64 (min (((shL m k : Nat) : Int) - 1) 1099511627776)) = _
    rw [H1.out]
    exact ret_int (by omega)
set_option maxHeartbeats 1000000 in
theorem lindex_any (v : Nat) (h : v ≤ 1099511627776) (w : World) :
    Calls Try.prog 15 #[.int .i64 (v : Int)] w fun e w' => e = .returned (.int .i64 ((ix v : Nat) : Int)) ∧ w = w' := by
  have hI : (v : Int) ≤ 1099511627776 := by omega
  have HI : Hid (ix v = 8 * kk v + v / 2 ^ kk v) := Lib.hid rfl
  have hk37 : kk v ≤ 37 := by
    by_cases h1 : v < 16
    · unfold kk; rw [if_pos h1]; omega
    · exact kk_le v (by omega) h
  have HQ : Hid (∀ j, j < kk v → 16 ≤ v / 2 ^ j) := Lib.hid (fun j hj => by
    by_cases h1 : v < 16
    · unfold kk at hj; rw [if_pos h1] at hj; omega
    · obtain ⟨_, a, _⟩ := kk_spec v (by omega) (by omega)
      refine (Nat.le_div_iff_mul_le (Nat.pow_pos (by omega))).2 ?_
      have : 2 ^ (j + 4) ≤ 2 ^ (kk v + 3) := Nat.pow_le_pow_right (by omega) (by omega)
      rw [Nat.pow_add] at this
      omega)
  have hq16 : v / 2 ^ kk v < 16 := by
    by_cases h1 : v < 16
    · unfold kk; rw [if_pos h1]; omega
    · exact (mant v (by omega) (by omega)).2
  obtain ⟨K, hK⟩ : ∃ K, K = kk v := ⟨_, rfl⟩
  rw [← hK] at HI hk37 HQ hq16
  clear hK
  go_enter Try.func15, Try.ntmps15
  go_wp2_with fail
  go_loop [3] (fun kv => ∃ j : Nat, j ≤ K ∧ kv = .int .i64 (j : Int)) (fun kv => K - (intOf kv).toNat)
  case atStart => exact ⟨0, Nat.zero_le _, rfl⟩
  case round =>
    obtain ⟨j, hj, rfl⟩ := hrel
    obtain ⟨q, hq⟩ : ∃ q : Nat, q = v / 2 ^ j := ⟨_, rfl⟩
    have hqI : (v : Int) / 2 ^ j = (q : Int) := by rw [hq]; simp
    have hj37 : (j : Int) ≤ 37 := by omega
    by_cases hlt : j < K
    · have hge : (16 : Int) ≤ (q : Int) := by have := HQ.out j hlt; omega
      clear hq
      go_wp2_with fail
      clear hqI
      go_round
      case rel => exact ⟨j + 1, by omega, by go_num⟩
      case measure => simp [intOf] <;> omega
    · obtain rfl : j = K := by omega
      rw [← hq] at HI hq16
      have hl16 : (q : Int) < 16 := by omega
      have hge : ¬ (16 : Int) ≤ (q : Int) := by omega
      clear hq
      go_wp2_with fail
      go_ret
      refine ⟨?_, rfl⟩
      show Ending.returned (.int .i64 (8 * (j : Int) + (q : Int))) = _
      rw [HI.out]
      exact ret_int (by simp)
end
end Go.Proofs.Ytolgcphmmghlbaa
