/- The law's quotient. -/
import Derived.Test.YtajainkaomkbjaaCe
namespace Go.Proofs.Ytajainkaomkbjaa
open Go.ChangeShapes Go.WideShapes Go.ChangeAt Go.RowKit Go.Joins Bt

theorem dbl_hi {x b : Nat} (hb : 0 < b) (h : b ≤ 2 * (x % b)) : (2 * x) / b = 2 * (x / b) + 1 ∧ (2 * x) % b = 2 * (x % b) - b := by
  have hx := Nat.div_add_mod x b
  have hr := Nat.mod_lt x hb
  have e : 2 * x = b * (2 * (x / b) + 1) + (2 * (x % b) - b) := by
    rw [Nat.mul_add, Nat.mul_one, Nat.mul_left_comm]
    omega
  have hl : 2 * (x % b) - b < b := by omega
  rw [e]
  exact ⟨by rw [Nat.mul_add_div hb, Nat.div_eq_of_lt hl, Nat.add_zero], by rw [Nat.mul_add_mod, Nat.mod_eq_of_lt hl]⟩
theorem dbl_lo {x b : Nat} (hb : 0 < b) (h : 2 * (x % b) < b) : (2 * x) / b = 2 * (x / b) ∧ (2 * x) % b = 2 * (x % b) := by
  have hx := Nat.div_add_mod x b
  have e : 2 * x = b * (2 * (x / b)) + 2 * (x % b) := by
    rw [Nat.mul_left_comm]
    omega
  rw [e]
  exact ⟨by rw [Nat.mul_add_div hb, Nat.div_eq_of_lt h, Nat.add_zero], by rw [Nat.mul_add_mod, Nat.mod_eq_of_lt h]⟩
/-- What the quotient is: rounded down, or -1 beyond the limit. -/
def quoR (a b lim : Nat) : Int := if lim < a * 2 ^ 62 / b then -1 else ((a * 2 ^ 62 / b : Nat) : Int)
theorem quo_big {a b lim i : Nat} (hi : i ≤ 62) (h : lim < a * 2 ^ i / b) : quoR a b lim = -1 := by
  unfold quoR
  rw [if_pos]
  refine Nat.lt_of_lt_of_le h (Nat.div_le_div_right (Nat.mul_le_mul_left _ (Nat.pow_le_pow_right (by decide) hi)))
set_option maxRecDepth 100000 in
set_option maxHeartbeats 2000000 in
theorem quotient_any (a b lim : Nat) (ha : a < 1024) (hb : 0 < b) (hb2 : b ≤ 4611686018427387904) (hlim : lim ≤ 1099511627776) (w : World) :
    Calls Try.prog 54 #[.int .i64 (a : Int), .int .i64 (b : Int), .int .i64 (lim : Int)] w fun e w' => e = .returned (.int .i64 (quoR a b lim)) ∧ Below w.heap.size w w' := by
  have HBg := Lib.hid (fun i (hi : i ≤ 62) h => quo_big (a := a) (b := b) (lim := lim) hi h)
  have HEnd : Hid (∀ q, q = a * 2 ^ 62 / b → ¬ lim < q → quoR a b lim = (q : Int)) := Lib.hid (fun q e h => by unfold quoR; rw [← e, if_neg h])
  have hne : ((b : Int) == 0) = false := by rw [beq_eq_false_iff_ne]; omega
  have hb0 : (0 : Int) < (b : Int) := by omega
  have ha0 : (0 : Int) ≤ (a : Int) := by omega
  obtain ⟨q0, hq0⟩ : ∃ q0, q0 = a / b := ⟨_, rfl⟩
  obtain ⟨r0, hr0⟩ : ∃ r0, r0 = a % b := ⟨_, rfl⟩
  have e1 : (a : Int).tmod (b : Int) = (r0 : Int) := by rw [Int.tmod_eq_emod_of_nonneg (by omega), hr0]; rfl
  have e2 : (a : Int).tdiv (b : Int) = (q0 : Int) := by rw [Int.tdiv_eq_ediv_of_nonneg (by omega), hq0]; rfl
  have e3 : (a : Int) % (b : Int) = (r0 : Int) := by rw [hr0]; rfl
  have e4 : (a : Int) / (b : Int) = (q0 : Int) := by rw [hq0]; rfl
  have hq1 : q0 ≤ 1024 := by rw [hq0]; exact Nat.le_trans (Nat.div_le_self _ _) (by omega)
  have w0 : IntKind.i64.wrap (q0 : Int) = (q0 : Int) := by simp only [IntKind.wrap_i64]; omega
  have HQ0 := Lib.hid hq0
  have HR0 := Lib.hid hr0
  have HD : Hid (∀ W nq, Below w.heap.size w W → Below w.heap.size w (W.drewN nq)) := Lib.hid (fun W nq h => below_drewN h nq)
  clear hq0 hr0 hq1
  go_enter Try.func54, Try.ntmps54
  go_wp2_with fail
  go_quiet (fail)
  go_wp2_with fail
  go_loop [7, 8, 9] (fun qv rv iv => ∃ i q r : Nat, i ≤ 62 ∧ qv = .int .i64 (q : Int) ∧ rv = .int .i64 (r : Int) ∧ iv = .int .i64 (i : Int) ∧ q ≤ 2199023255553 ∧ r < b ∧ Hid (q = a * 2 ^ i / b ∧ r = a * 2 ^ i % b)) (fun _ _ iv => 62 - (intOf iv).toNat)
  case atStart => exact ⟨0, q0, r0, by omega, rfl, rfl, rfl, by rw [HQ0.out]; exact Nat.le_trans (Nat.div_le_self _ _) (by omega), by rw [HR0.out]; exact Nat.mod_lt _ hb, Lib.hid ⟨by rw [Nat.pow_zero, Nat.mul_one]; exact HQ0.out, by rw [Nat.pow_zero, Nat.mul_one]; exact HR0.out⟩⟩
  case round =>
    obtain ⟨i, q, r, hi, rfl, rfl, rfl, hq, hr, HX⟩ := hrel
    by_cases hlt : i < 62
    · have hiI : (i : Int) < 62 := by omega
      have hi0 : (0 : Int) ≤ (i : Int) := by omega
      have hwi : IntKind.i64.wrap ((i : Int) + 1) = (i : Int) + 1 := by simp only [IntKind.wrap_i64]; omega
      by_cases hbig : lim < q
      · have d1 : decide ((lim : Int) < (q : Int)) = true := by simp; omega
        have p1 : (lim : Int) < (q : Int) := by omega
        have HR := Lib.hid (HBg.out i hi (by rw [← HX.out.1]; exact hbig))
        clear hq hr hbig
        go_wp2_with fail
        go_ret
        exact ⟨by rw [HR.out]; rfl, HD.out _ _ (Below.refl _ _)⟩
      · have d1 : decide ((lim : Int) < (q : Int)) = false := by simp; omega
        have p1 : ¬ (lim : Int) < (q : Int) := by omega
        have HE : Hid (a * 2 ^ (i + 1) = 2 * (a * 2 ^ i)) := Lib.hid (by rw [Nat.pow_succ, ← Nat.mul_assoc, Nat.mul_comm])
        have w1 : IntKind.i64.wrap (2 * (q : Int)) = 2 * (q : Int) := by simp only [IntKind.wrap_i64]; omega
        have hrI : (r : Int) ≤ 4611686018427387903 := by omega
        have hr0I : (0 : Int) ≤ (r : Int) := by omega
        have w2 : IntKind.i64.wrap (2 * (r : Int)) = 2 * (r : Int) := by simp only [IntKind.wrap_i64]; omega
        by_cases hge : b ≤ 2 * r
        · have d2 : decide ((b : Int) ≤ 2 * (r : Int)) = true := by simp; omega
          have p2 : (b : Int) ≤ 2 * (r : Int) := by omega
          have w3 : IntKind.i64.wrap (2 * (q : Int) + 1) = 2 * (q : Int) + 1 := by simp only [IntKind.wrap_i64]; omega
          have w4 : IntKind.i64.wrap (2 * (r : Int) - (b : Int)) = 2 * (r : Int) - (b : Int) := by simp only [IntKind.wrap_i64]; omega
          have HN : Hid (2 * q + 1 = a * 2 ^ (i + 1) / b ∧ 2 * r - b = a * 2 ^ (i + 1) % b) := Lib.hid (by
            have h := dbl_hi (x := a * 2 ^ i) hb (by rw [← HX.out.2]; exact hge)
            rw [HE.out, h.1, h.2, ← HX.out.1, ← HX.out.2]
            exact ⟨rfl, rfl⟩)
          have HB2 : Hid (2 * q + 1 ≤ 2199023255553 ∧ 2 * r - b < b) := Lib.hid ⟨by omega, by omega⟩
          have HC : Hid ((2 * (r : Int) - (b : Int)) = ((2 * r - b : Nat) : Int)) := Lib.hid (by omega)
          go_wp2_with fail
          go_round
          case rel => exact ⟨i + 1, 2 * q + 1, 2 * r - b, by omega, by go_num, by rw [HC.out], by go_num, HB2.out.1, HB2.out.2, HN⟩
          case measure => simp [intOf] <;> omega
        · have d2 : decide ((b : Int) ≤ 2 * (r : Int)) = false := by simp; omega
          have p2 : ¬ (b : Int) ≤ 2 * (r : Int) := by omega
          have HN : Hid (2 * q = a * 2 ^ (i + 1) / b ∧ 2 * r = a * 2 ^ (i + 1) % b) := Lib.hid (by
            have h := dbl_lo (x := a * 2 ^ i) hb (by rw [← HX.out.2]; omega)
            rw [HE.out, h.1, h.2, ← HX.out.1, ← HX.out.2]
            exact ⟨rfl, rfl⟩)
          have HB2 : Hid (2 * q ≤ 2199023255553 ∧ 2 * r < b) := Lib.hid ⟨by omega, by omega⟩
          go_wp2_with fail
          go_round
          case rel => exact ⟨i + 1, 2 * q, 2 * r, by omega, by go_num, by go_num, by go_num, HB2.out.1, HB2.out.2, HN⟩
          case measure => simp [intOf] <;> omega
    · obtain rfl : i = 62 := by omega
      by_cases hbig : lim < q
      · have d1 : decide ((lim : Int) < (q : Int)) = true := by simp; omega
        have p1 : (lim : Int) < (q : Int) := by omega
        have HR := Lib.hid (HBg.out 62 (Nat.le_refl _) (by rw [← HX.out.1]; exact hbig))
        clear hq hr hbig
        go_wp2_with fail
        go_ret
        exact ⟨by rw [HR.out]; rfl, HD.out _ _ (Below.refl _ _)⟩
      · have d1 : decide ((lim : Int) < (q : Int)) = false := by simp; omega
        have p1 : ¬ (lim : Int) < (q : Int) := by omega
        have HR := Lib.hid (HEnd.out q HX.out.1 hbig)
        clear hq hr hbig
        go_wp2_with fail
        go_ret
        exact ⟨by rw [HR.out]; rfl, HD.out _ _ (Below.refl _ _)⟩
end Go.Proofs.Ytajainkaomkbjaa
