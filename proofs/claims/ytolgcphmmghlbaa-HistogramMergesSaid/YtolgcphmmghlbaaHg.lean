/- Check and MulCeil of fractions: what layer 2's texts say of them (made by wip/bin/pick.py) -/
import Derived.Test.YtolgcphmmghlbaaHf
import Derived.BigQuiet
import Derived.Deep.QuietTactic
import Derived.Handy
import Derived.IntWalk
import Derived.Lib.Hide
import Derived.OpenShut
import Derived.ProofKit
import Derived.WalkKit
import Derived.WalkSmall
namespace Go.Proofs.Ytolgcphmmghlbaa.Pl
def gI (x y : Int) : Nat := Nat.gcd x.natAbs y.natAbs
def mkE (x y : Int) : Int := if y = 0 then 19 else if 1048576 < x.natAbs / gI x y ∨ 1048576 < y.natAbs / gI x y then 20 else 0
def mkN (x y : Int) : Int := if mkE x y = 0 then (if (x < 0 ↔ y < 0) then ((x.natAbs / gI x y : Nat) : Int) else -((x.natAbs / gI x y : Nat) : Int)) else 0
def mkD (x y : Int) : Int := if mkE x y = 0 then ((y.natAbs / gI x y : Nat) : Int) else 0
def canon (n d : Int) : Prop := 1 ≤ d ∧ d ≤ 1048576 ∧ -1048576 ≤ n ∧ n ≤ 1048576 ∧ Nat.gcd n.natAbs d.natAbs = 1
instance (n d : Int) : Decidable (canon n d) := by unfold canon; infer_instance
def canonB (n d : Int) : Bool := decide (canon n d)
theorem gI_pos {x y : Int} (hy : y ≠ 0) : 0 < gI x y := Nat.gcd_pos_of_pos_right _ (by omega)
theorem mk_bad {x y : Int} (h : mkE x y ≠ 0) : mkN x y = 0 ∧ mkD x y = 0 := by
  unfold mkN mkD; rw [if_neg h, if_neg h]; exact ⟨rfl, rfl⟩
theorem mk_parts {x y : Int} (hy : y ≠ 0) (he : mkE x y = 0) :
    ∃ a b : Nat, 0 < gI x y ∧ x.natAbs = gI x y * a ∧ y.natAbs = gI x y * b ∧ Nat.gcd a b = 1 ∧ a ≤ 1048576 ∧ b ≤ 1048576 ∧ 1 ≤ b ∧ mkD x y = b ∧ mkN x y = (if (x < 0 ↔ y < 0) then (a : Int) else -(a : Int)) := by
  have hg := gI_pos (x := x) hy
  have h1 : gI x y ∣ x.natAbs := Nat.gcd_dvd_left _ _
  have h2 : gI x y ∣ y.natAbs := Nat.gcd_dvd_right _ _
  have hb : ¬ (1048576 < x.natAbs / gI x y ∨ 1048576 < y.natAbs / gI x y) := by
    intro hh; unfold mkE at he; rw [if_neg hy, if_pos hh] at he; omega
  refine ⟨x.natAbs / gI x y, y.natAbs / gI x y, hg, (Nat.mul_div_cancel' h1).symm, (Nat.mul_div_cancel' h2).symm, ?_, by omega, by omega, ?_, by unfold mkD; rw [if_pos he], by unfold mkN; rw [if_pos he]⟩
  · have := Nat.coprime_div_gcd_div_gcd (m := x.natAbs) (n := y.natAbs) hg
    exact this
  · have : 0 < y.natAbs / gI x y := Nat.div_pos (Nat.le_of_dvd (by omega) h2) hg
    omega
theorem mk_ok {x y : Int} (hy : y ≠ 0) (he : mkE x y = 0) : canon (mkN x y) (mkD x y) ∧ mkN x y * y = x * mkD x y := by
  obtain ⟨a, b, hg, hx, hyy, hc, ha, hb, hb1, hd, hn⟩ := mk_parts hy he
  generalize gI x y = g at *
  rw [hd, hn]
  have ex : x = (g : Int) * a ∨ x = -((g : Int) * a) := by
    have : (x.natAbs : Int) = (g : Int) * a := by rw [hx]; simp
    omega
  have ey : y = (g : Int) * b ∨ y = -((g : Int) * b) := by
    have : (y.natAbs : Int) = (g : Int) * b := by rw [hyy]; simp
    omega
  have gb : 0 < (g : Int) * b := Int.mul_pos (by omega) (by omega)
  have ga : 0 ≤ (g : Int) * a := Int.mul_nonneg (by omega) (by omega)
  constructor
  · refine ⟨by omega, by omega, by split <;> omega, by split <;> omega, ?_⟩
    have : (if (x < 0 ↔ y < 0) then (a : Int) else -(a : Int)).natAbs = a := by split <;> omega
    rw [this]; exact hc
  · have key : (a : Int) * ((g : Int) * b) = ((g : Int) * a) * b := by rw [Int.mul_comm (g : Int) a, Int.mul_assoc]
    by_cases hx0 : x < 0
    · have ex' : x = -((g : Int) * a) := by omega
      by_cases hy0 : y < 0
      · have ey' : y = -((g : Int) * b) := by omega
        rw [if_pos (by simp [hx0, hy0]), ex', ey', Int.mul_neg, Int.neg_mul, key]
      · have ey' : y = (g : Int) * b := by omega
        rw [if_neg (by simp [hx0, hy0]), ex', ey', Int.neg_mul, Int.neg_mul, key]
    · have ex' : x = (g : Int) * a := by omega
      by_cases hy0 : y < 0
      · have ey' : y = -((g : Int) * b) := by omega
        rw [if_neg (by simp [hx0, hy0]), ex', ey', Int.neg_mul_neg, key]
      · have ey' : y = (g : Int) * b := by omega
        rw [if_pos (by simp [hx0, hy0]), ex', ey', key]
theorem natAbs_eq_of {a b : Int} (h : a = b) : a.natAbs = b.natAbs := by rw [h]
theorem mk_cross {x y n d : Int} (hy : y ≠ 0) (h : canon n d) (hc : x * d = n * y) : mkN x y = n ∧ mkD x y = d ∧ mkE x y = 0 := by
  obtain ⟨h1, h2, h3, h4, h5⟩ := h
  have e := natAbs_eq_of hc
  rw [Int.natAbs_mul, Int.natAbs_mul] at e
  have dd : d.natAbs ∣ y.natAbs := by
    have : d.natAbs ∣ n.natAbs * y.natAbs := ⟨x.natAbs, by rw [← e, Nat.mul_comm]⟩
    exact Nat.Coprime.dvd_of_dvd_mul_left (by rw [Nat.coprime_comm]; exact h5) this
  obtain ⟨k, hk⟩ := dd
  have hk0 : 0 < k := by
    rcases Nat.eq_zero_or_pos k with h0 | h0
    · subst h0; simp at hk; omega
    · exact h0
  have hx : x.natAbs = n.natAbs * k := by
    rw [hk] at e
    have : d.natAbs * x.natAbs = d.natAbs * (n.natAbs * k) := by
      rw [Nat.mul_comm, e, Nat.mul_left_comm]
    exact Nat.eq_of_mul_eq_mul_left (by omega) this
  have hg : gI x y = k := by
    unfold gI; rw [hx, hk, Nat.gcd_mul_right, h5, Nat.one_mul]
  have q1 : x.natAbs / gI x y = n.natAbs := by rw [hg, hx, Nat.mul_div_cancel _ hk0]
  have q2 : y.natAbs / gI x y = d.natAbs := by rw [hg, hk, Nat.mul_div_cancel _ hk0]
  have he : mkE x y = 0 := by
    unfold mkE; rw [if_neg hy, q1, q2, if_neg (by omega)]
  refine ⟨?_, ?_, he⟩
  · unfold mkN; rw [if_pos he, q1]
    -- signs
    by_cases hy0 : y < 0
    · by_cases hx0 : x < 0
      · have : 0 < n := by
          have : x * d < 0 := Int.mul_neg_of_neg_of_pos hx0 (by omega)
          rw [hc] at this
          rcases Int.lt_trichotomy n 0 with hn | hn | hn
          · have := Int.mul_pos_of_neg_of_neg hn hy0; omega
          · subst hn; simp at this
          · exact hn
        rw [if_pos (by simp [hx0, hy0])]; omega
      · have : n ≤ 0 := by
          have : 0 ≤ x * d := Int.mul_nonneg (by omega) (by omega)
          rw [hc] at this
          rcases Int.lt_trichotomy n 0 with hn | hn | hn
          · omega
          · omega
          · have := Int.mul_neg_of_pos_of_neg hn hy0; omega
        rw [if_neg (by simp [hx0, hy0])]; omega
    · have hy1 : 0 < y := by omega
      by_cases hx0 : x < 0
      · have : n < 0 := by
          have : x * d < 0 := Int.mul_neg_of_neg_of_pos hx0 (by omega)
          rw [hc] at this
          rcases Int.lt_trichotomy n 0 with hn | hn | hn
          · exact hn
          · subst hn; simp at this
          · have := Int.mul_pos hn hy1; omega
        rw [if_neg (by simp [hx0, hy0])]; omega
      · have : 0 ≤ n := by
          have : 0 ≤ x * d := Int.mul_nonneg (by omega) (by omega)
          rw [hc] at this
          rcases Int.lt_trichotomy n 0 with hn | hn | hn
          · have := Int.mul_neg_of_neg_of_pos hn hy1; omega
          · omega
          · omega
        rw [if_pos (by simp [hx0, hy0])]; omega
  · unfold mkD; rw [if_pos he, q2]; omega
theorem mk_canon {n d : Int} (h : canon n d) : mkN n d = n ∧ mkD n d = d ∧ mkE n d = 0 :=
  mk_cross (by have := h.1; omega) h rfl
theorem check_iff (n d : Int) : (mkE n d = 0 ∧ mkN n d = n ∧ mkD n d = d) ↔ canon n d := by
  constructor
  · rintro ⟨h1, h2, h3⟩
    by_cases hd : d = 0
    · subst hd; simp [mkE] at h1
    · have := (mk_ok hd h1).1
      rwa [h2, h3] at this
  · intro h; obtain ⟨a, b, c⟩ := mk_canon h; exact ⟨c, a, b⟩
theorem gcd_step (a b : Nat) (_h : a ≠ 0) : Nat.gcd (b % a) a = Nat.gcd a b := (Nat.gcd_rec a b).symm
/-- Go's quotient, corrected, is the floor. -/
theorem floor_q (x d : Int) (hd : 1 ≤ d) : (if x.tdiv d * d > x then x.tdiv d - 1 else x.tdiv d) = x / d := by
  have h1 := Int.mul_ediv_add_emod x d
  have h2 := Int.emod_nonneg x (show d ≠ 0 by omega)
  have h3 := Int.emod_lt_of_pos x (show 0 < d by omega)
  have h4 := Int.mul_tdiv_add_tmod x d
  rw [Int.tdiv_eq_ediv]
  have hs : Int.sign d = 1 := Int.sign_eq_one_of_pos (by omega)
  rw [hs]
  have hm : d * (x / d) = x / d * d := Int.mul_comm _ _
  by_cases hc : 0 ≤ x ∨ d ∣ x
  · rw [if_pos hc, Int.add_zero, if_neg (by omega)]
  · rw [if_neg hc]
    have hne : x % d ≠ 0 := by
      intro h0; exact hc (Or.inr (Int.dvd_of_emod_eq_zero h0))
    have : (x / d + 1) * d = x / d * d + d := by rw [Int.add_mul, Int.one_mul]
    rw [if_pos (by omega)]; omega
/-- How the canonical form comes about. -/
theorem mk_how (x y : Int) (hy : y ≠ 0) (h1 : x.natAbs ≤ 18446744073709551615) (h2 : y.natAbs ≤ 18446744073709551615) : ∃ g a b : Nat, x.natAbs.gcd y.natAbs = g ∧ (0 < (g : Int) ∧ (g : Int) ≤ 18446744073709551615) ∧ (x.natAbs : Int) / g = a ∧ (y.natAbs : Int) / g = b ∧ ((a : Int) ≤ 18446744073709551615 ∧ (b : Int) ≤ 18446744073709551615) ∧
    (1048576 < a ∨ 1048576 < b → mkE x y = 20 ∧ mkN x y = 0 ∧ mkD x y = 0) ∧
    (a ≤ 1048576 → b ≤ 1048576 → mkE x y = 0 ∧ mkD x y = b ∧ ((x < 0 ↔ y < 0) → mkN x y = a) ∧ (¬ (x < 0 ↔ y < 0) → mkN x y = -a)) := by
  have hg := gI_pos (x := x) hy
  refine ⟨gI x y, x.natAbs / gI x y, y.natAbs / gI x y, rfl, ⟨by omega, ?_⟩, by simp, by simp, ⟨by have := Nat.div_le_self x.natAbs (gI x y); omega, by have := Nat.div_le_self y.natAbs (gI x y); omega⟩, ?_, ?_⟩
  · have := Nat.le_of_dvd (by omega) (Nat.gcd_dvd_right x.natAbs y.natAbs)
    unfold gI; omega
  · intro h
    have he : mkE x y = 20 := by unfold mkE; rw [if_neg hy, if_pos h]
    exact ⟨he, mk_bad (by omega)⟩
  · intro h3 h4
    have he : mkE x y = 0 := by unfold mkE; rw [if_neg hy, if_neg (by omega)]
    refine ⟨he, by unfold mkD; rw [if_pos he], fun h => by unfold mkN; rw [if_pos he, if_pos h], fun h => by unfold mkN; rw [if_pos he, if_neg h]⟩
end Go.Proofs.Ytolgcphmmghlbaa.Pl
namespace Go.Proofs.Ytolgcphmmghlbaa
open Go.ChangeShapes Go.WideShapes Go.ChangeAt Go.RowKit Pl
theorem mag_wrap (n : Int) (h1 : -9223372036854775808 ≤ n) (hn : n < 0) : IntKind.u64.wrap (-IntKind.u64.wrap n) = ((n.natAbs : Nat) : Int) := by
  simp only [IntKind.wrap_u64]; omega
theorem magnitude_any (n : Int) (h1 : -9223372036854775808 ≤ n) (h2 : n ≤ 9223372036854775807) (w : World) :
    Calls Try.prog 51 #[.int .i64 n] w fun e w' => e = .returned (.int .u64 n.natAbs) ∧ w = w' := by
  by_cases hn : n < 0
  · go_enter Try.func51, Try.ntmps51
    go_wp2
    go_ret
    exact ⟨ret_int (mag_wrap n h1 hn), rfl⟩
  · go_enter Try.func51, Try.ntmps51
    go_wp2
    go_ret
    exact ⟨ret_int (by omega), rfl⟩
theorem rmagnitude_any (n : Int) (h1 : -9223372036854775808 ≤ n) (h2 : n ≤ 9223372036854775807) (w : World) :
    Calls Try.prog 46 #[.int .i64 n] w fun e w' => e = .returned (.int .u64 n.natAbs) ∧ w = w' := by
  have hw : IntKind.u64.wrap (0 - IntKind.u64.wrap n) = IntKind.u64.wrap (-IntKind.u64.wrap n) := by rw [Int.zero_sub]
  by_cases hn : n < 0
  · go_enter Try.func46, Try.ntmps46
    go_wp2
    go_ret
    exact ⟨ret_int (mag_wrap n h1 hn), rfl⟩
  · go_enter Try.func46, Try.ntmps46
    go_wp2
    go_ret
    exact ⟨ret_int (by omega), rfl⟩
theorem tdiv_bd (x d : Int) (hd : 1 ≤ d) (h1 : -1152921504606846976 ≤ x) (h2 : x ≤ 1152921504606846976) (h3 : d ≤ 1048576) :
    -1152921504606846976 ≤ x.tdiv d ∧ x.tdiv d ≤ 1152921504606846976 ∧ -1152921504607895552 ≤ x.tdiv d * d ∧ x.tdiv d * d ≤ 1152921504607895552 := by
  have e : (x.tdiv d).natAbs = x.natAbs / d.natAbs := Int.natAbs_tdiv ..
  have := Nat.div_le_self x.natAbs d.natAbs
  have hq := floor_q x d hd
  have g1 := Int.mul_ediv_add_emod x d
  have g2 := Int.emod_nonneg x (show d ≠ 0 by omega)
  have g3 := Int.emod_lt_of_pos x (show 0 < d by omega)
  have hm : d * (x / d) = x / d * d := Int.mul_comm _ _
  have : (x / d + 1) * d = x / d * d + d := by rw [Int.add_mul, Int.one_mul]
  refine ⟨by omega, by omega, ?_⟩
  by_cases hc : x.tdiv d * d > x
  · rw [if_pos hc] at hq
    have : x.tdiv d = x / d + 1 := by omega
    rw [this]; omega
  · rw [if_neg hc] at hq
    rw [hq]; omega
theorem prod_bd {a b A B : Int} (h1 : -A ≤ a) (h2 : a ≤ A) (h3 : -B ≤ b) (h4 : b ≤ B) : -(A * B) ≤ a * b ∧ a * b ≤ A * B := by
  have hA : 0 ≤ A := by omega
  have hB : 0 ≤ B := by omega
  have e : (a * b).natAbs ≤ A.natAbs * B.natAbs := by
    rw [Int.natAbs_mul]; exact Nat.mul_le_mul (by omega) (by omega)
  have e2 : ((A.natAbs * B.natAbs : Nat) : Int) = A * B := by
    rw [Int.natCast_mul, Int.natAbs_of_nonneg hA, Int.natAbs_of_nonneg hB]
  omega
theorem divisor_any (a b : Nat) (ha : (a : Int) ≤ 18446744073709551615) (hb : (b : Int) ≤ 18446744073709551615) (w : World) :
    Calls Try.prog 52 #[.int .u64 a, .int .u64 b] w fun e w' => e = .returned (.int .u64 (Nat.gcd a b : Nat)) ∧ w = w' := by
  go_enter Try.func52, Try.ntmps52
  go_wp2
  go_loop [0, 1] (fun x y => ∃ p q : Nat, (p : Int) ≤ 18446744073709551615 ∧ (q : Int) ≤ 18446744073709551615 ∧ x = .int .u64 p ∧ y = .int .u64 q ∧ Hid (Nat.gcd p q = Nat.gcd a b)) (fun x _ => (intOf x).toNat)
  case atStart => exact ⟨a, b, ha, hb, rfl, rfl, Lib.hid rfl⟩
  case round =>
    obtain ⟨p, q, hp, hq, rfl, rfl, hg⟩ := hrel
    by_cases h0 : p = 0
    · have h1 : ((p : Int) != 0) = false := by simp [h0]
      have h0 := Lib.hid h0
      go_wp2
      go_ret
      exact ⟨ret_int (by rw [← hg.out, h0.out, Nat.gcd_zero_left]), rfl⟩
    · have h1 : ((p : Int) != 0) = true := by simp [h0]
      have h2 : 0 < (p : Int) := by omega
      have hl : q % p < p := Nat.mod_lt _ (by omega)
      go_wp2
      exact ⟨⟨q % p, p, by omega, hp, by simp, rfl, Lib.hid (by rw [← hg.out]; exact gcd_step p q h0)⟩, by simp [intOf]; omega⟩
theorem rdivisor_any (a b : Nat) (ha : (a : Int) ≤ 18446744073709551615) (hb : (b : Int) ≤ 18446744073709551615) (w : World) :
    Calls Try.prog 45 #[.int .u64 a, .int .u64 b] w fun e w' => e = .returned (.int .u64 (Nat.gcd a b : Nat)) ∧ ∃ n, w' = w.drewN n := by
  go_enter Try.func45, Try.ntmps45
  go_wp2
  go_loopw [0, 1] (fun x y wr => ∃ p q n : Nat, (p : Int) ≤ 18446744073709551615 ∧ (q : Int) ≤ 18446744073709551615 ∧ x = .int .u64 p ∧ y = .int .u64 q ∧ Hid (Nat.gcd p q = Nat.gcd a b) ∧ wr = w.drewN n) (fun _ y _ => (intOf y).toNat)
  case atStart => exact ⟨a, b, 0, ha, hb, rfl, rfl, Lib.hid rfl, rfl⟩
  case round =>
    obtain ⟨p, q, n, hp, hq, rfl, rfl, hg, rfl⟩ := hrel
    by_cases h0 : q = 0
    · have h1 : ((q : Int) != 0) = false := by simp [h0]
      have h0 := Lib.hid h0
      go_wp2
      go_ret
      exact ⟨ret_int (by rw [← hg.out, h0.out, Nat.gcd_zero_right]), n, rfl⟩
    · have h1 : ((q : Int) != 0) = true := by simp [h0]
      have h2 : 0 < (q : Int) := by omega
      have hl : p % q < q := Nat.mod_lt _ (by omega)
      go_wp2
      go_quiet (fail)
      go_wp2
      exact ⟨⟨q, p % q, n + nq, hq, by omega, rfl, by simp, Lib.hid (by rw [← hg.out, Nat.gcd_comm, Nat.gcd_comm p q]; exact gcd_step q p h0), by rw [World.drewN_drewN]⟩, by simp [intOf]; omega⟩
theorem floorOf_any (n a d : Int) (h1 : -1099511627776 ≤ n) (h2 : n ≤ 1099511627776) (h3 : -1048576 ≤ a) (h4 : a ≤ 1048576) (h5 : 1 ≤ d) (h6 : d ≤ 1048576) (w : World) :
    Calls Try.prog 50 #[.int .i64 n, .agg #[.int .i64 a, .int .i64 d]] w fun e w' => e = .returned (.int .i64 (n * a / d)) ∧ Below w.heap.size w w' := by
  obtain ⟨p1, p2⟩ := prod_bd h1 h2 h3 h4
  obtain ⟨t1, t2, t3, t4⟩ := tdiv_bd (n * a) d h5 p1 p2 h6
  have hf := floor_q (n * a) d h5
  by_cases hc : n * a < (n * a).tdiv d * d
  · have hr := Lib.hid (if_pos hc ▸ hf)
    clear hf
    go_enter Try.func50, Try.ntmps50
    go_wp2
    go_ret
    exact ⟨ret_int hr.out, (Below.refl _ _).alloc (Nat.le_refl _) _⟩
  · have hr := Lib.hid (if_neg hc ▸ hf)
    clear hf
    go_enter Try.func50, Try.ntmps50
    go_wp2
    go_ret
    exact ⟨ret_int hr.out, (Below.refl _ _).alloc (Nat.le_refl _) _⟩
end Go.Proofs.Ytolgcphmmghlbaa
namespace Go.Proofs.Ytolgcphmmghlbaa
open Go.ChangeShapes Go.WideShapes Go.ChangeAt Go.RowKit Pl
theorem make_zero (x : Int) (w : World) :
    Calls Try.prog 49 #[.int .i64 x, .int .i64 0] w fun e w' => e = .returned (.tuple #[.agg #[.int .i64 0, .int .i64 0], .int .i64 19]) ∧ Below w.heap.size w w' := by
  go_enter Try.func49, Try.ntmps49
  go_wp2
  refine bodyPost_ret (v := .tuple #[.agg #[.int .i64 0, .int .i64 0], .int .i64 19]) (by simp [results, Try.results49, go_sem]) rfl ⟨rfl, ?_⟩
  (repeat' (first | (with_reducible exact Below.refl _ _) | (with_reducible assumption) | (with_reducible refine Below.alloc ?_ ?_ _) | (with_reducible refine below_drewN ?_ _) | (with_reducible refine Below.drew ?_) | (with_reducible refine Below.setCell ?_ ?_ _) | go_size))
set_option maxHeartbeats 1000000 in
theorem make_any (x y : Int) (h1 : -9223372036854775808 ≤ x) (h2 : x ≤ 9223372036854775807) (h3 : -9223372036854775808 ≤ y) (h4 : y ≤ 9223372036854775807) (h0 : y ≠ 0) (w : World) :
    Calls Try.prog 49 #[.int .i64 x, .int .i64 y] w fun e w' => e = .returned (.tuple #[.agg #[.int .i64 (mkN x y), .int .i64 (mkD x y)], .int .i64 (mkE x y)]) ∧ Below w.heap.size w w' := by
  have t0 : (y == 0) = false := by simp [h0]
  obtain ⟨g, a, b, hg, ⟨g1, g2⟩, ha, hb, ⟨a2, b2⟩, hbig, hok⟩ := mk_how x y h0 (by omega) (by omega)
  have Hg := Lib.hid hg
  have Ha := Lib.hid ha
  have Hb := Lib.hid hb
  have Hbig := Lib.hid hbig
  have Hok := Lib.hid hok
  clear hg ha hb hbig hok
  generalize mkN x y = N at *
  generalize mkD x y = D at *
  generalize mkE x y = E at *
  go_enter Try.func49, Try.ntmps49
  go_wp2_with fail
  refine (magnitude_any x h1 h2 _).mono ?_
  rintro e w' ⟨rfl, rfl⟩
  go_wp2_with fail
  refine (magnitude_any y h3 h4 _).mono ?_
  rintro e w' ⟨rfl, rfl⟩
  go_wp2_with fail
  refine (divisor_any x.natAbs y.natAbs (by omega) (by omega) _).mono ?_
  rintro e w' ⟨rfl, rfl⟩
  rw [Hg.out]
  go_wp2_with fail
  go_quiet (fail)
  rw [Ha.out, Hb.out]
  by_cases hc : 1048576 < (a : Int)
  · obtain ⟨rfl, rfl, rfl⟩ := Hbig.out (by omega)
    go_wp2
    refine bodyPost_ret (v := .tuple #[.agg #[.int .i64 0, .int .i64 0], .int .i64 20]) (by simp [results, Try.results49, go_sem]) rfl ⟨rfl, ?_⟩
    (repeat' (first | (with_reducible exact Below.refl _ _) | (with_reducible assumption) | (with_reducible refine Below.alloc ?_ ?_ _) | (with_reducible refine below_drewN ?_ _) | (with_reducible refine Below.drew ?_) | (with_reducible refine Below.setCell ?_ ?_ _) | go_size))
  · by_cases hc2 : 1048576 < (b : Int)
    · obtain ⟨rfl, rfl, rfl⟩ := Hbig.out (by omega)
      go_wp2
      refine bodyPost_ret (v := .tuple #[.agg #[.int .i64 0, .int .i64 0], .int .i64 20]) (by simp [results, Try.results49, go_sem]) rfl ⟨rfl, ?_⟩
      (repeat' (first | (with_reducible exact Below.refl _ _) | (with_reducible assumption) | (with_reducible refine Below.alloc ?_ ?_ _) | (with_reducible refine below_drewN ?_ _) | (with_reducible refine Below.drew ?_) | (with_reducible refine Below.setCell ?_ ?_ _) | go_size))
    · obtain ⟨k1, k2, k3, k4⟩ := Hok.out (by omega) (by omega)
      by_cases hx : x < 0 <;> by_cases hy : y < 0
      · have := k3 (by simp [hx, hy])
        subst k1 k2 this
        clear k3 k4
        go_wp2
        refine bodyPost_ret (v := .tuple #[.agg #[.int .i64 ((a : Int)), .int .i64 (b : Int)], .int .i64 0]) (by simp [results, Try.results49, go_sem]) rfl ⟨rfl, ?_⟩
        (repeat' (first | (with_reducible exact Below.refl _ _) | (with_reducible assumption) | (with_reducible refine Below.alloc ?_ ?_ _) | (with_reducible refine below_drewN ?_ _) | (with_reducible refine Below.drew ?_) | (with_reducible refine Below.setCell ?_ ?_ _) | go_size))
      · have := k4 (by simp [hx, hy])
        subst k1 k2 this
        clear k3 k4
        go_wp2
        refine bodyPost_ret (v := .tuple #[.agg #[.int .i64 (-(a : Int)), .int .i64 (b : Int)], .int .i64 0]) (by simp [results, Try.results49, go_sem]) rfl ⟨rfl, ?_⟩
        (repeat' (first | (with_reducible exact Below.refl _ _) | (with_reducible assumption) | (with_reducible refine Below.alloc ?_ ?_ _) | (with_reducible refine below_drewN ?_ _) | (with_reducible refine Below.drew ?_) | (with_reducible refine Below.setCell ?_ ?_ _) | go_size))
      · have := k4 (by simp [hx, hy])
        subst k1 k2 this
        clear k3 k4
        go_wp2
        refine bodyPost_ret (v := .tuple #[.agg #[.int .i64 (-(a : Int)), .int .i64 (b : Int)], .int .i64 0]) (by simp [results, Try.results49, go_sem]) rfl ⟨rfl, ?_⟩
        (repeat' (first | (with_reducible exact Below.refl _ _) | (with_reducible assumption) | (with_reducible refine Below.alloc ?_ ?_ _) | (with_reducible refine below_drewN ?_ _) | (with_reducible refine Below.drew ?_) | (with_reducible refine Below.setCell ?_ ?_ _) | go_size))
      · have := k3 (by simp [hx, hy])
        subst k1 k2 this
        clear k3 k4
        go_wp2
        refine bodyPost_ret (v := .tuple #[.agg #[.int .i64 ((a : Int)), .int .i64 (b : Int)], .int .i64 0]) (by simp [results, Try.results49, go_sem]) rfl ⟨rfl, ?_⟩
        (repeat' (first | (with_reducible exact Below.refl _ _) | (with_reducible assumption) | (with_reducible refine Below.alloc ?_ ?_ _) | (with_reducible refine below_drewN ?_ _) | (with_reducible refine Below.drew ?_) | (with_reducible refine Below.setCell ?_ ?_ _) | go_size))
end Go.Proofs.Ytolgcphmmghlbaa
namespace Go.Proofs.Ytolgcphmmghlbaa
open Go.ChangeShapes Go.WideShapes Go.ChangeAt Go.RowKit Pl
theorem bcell {W w1 : World} (hb : Below W.heap.size W w1) : (∀ b o, b < W.heap.size → w1.cell? ⟨b, o, none⟩ = W.cell? ⟨b, o, none⟩) ∧ (∀ b o, b < W.heap.size → w1.frozen? ⟨b, o, none⟩ = W.frozen? ⟨b, o, none⟩) :=
  ⟨fun b o h => hb.cell (p := ⟨b, o, none⟩) h, fun b o h => hb.frozen (p := ⟨b, o, none⟩) h⟩
theorem canon_false {n d : Int} (h : ¬ (1 ≤ d ∧ d ≤ 1048576 ∧ -1048576 ≤ n ∧ n ≤ 1048576)) : canonB n d = false := by
  unfold canonB; rw [decide_eq_false_iff_not]; rintro ⟨a, b, c, e, -⟩; exact h ⟨a, b, c, e⟩
theorem canon_gcd {n d : Int} (h : 1 ≤ d ∧ d ≤ 1048576 ∧ -1048576 ≤ n ∧ n ≤ 1048576) : canonB n d = (((Nat.gcd n.natAbs d.natAbs : Nat) : Int) == 1) := by
  obtain ⟨a, b, c, e⟩ := h
  rw [Bool.eq_iff_iff]; unfold canonB canon; simp [a, b, c, e]; omega
set_option maxHeartbeats 1000000 in
theorem rcheck_any (n d : Int) (h1 : -9223372036854775808 ≤ n) (h2 : n ≤ 9223372036854775807) (h3 : -9223372036854775808 ≤ d) (h4 : d ≤ 9223372036854775807) (w : World) :
    Calls Try.prog 36 #[.agg #[.int .i64 n, .int .i64 d]] w fun e w' => e = .returned (.bool (canonB n d)) ∧ Below w.heap.size w w' := by
  by_cases c1 : 1 ≤ d
  · by_cases c2 : d ≤ 1048576
    · by_cases c3 : -1048576 ≤ n
      · by_cases c4 : n ≤ 1048576
        · rw [canon_gcd ⟨c1, c2, c3, c4⟩]
          go_enter Try.func36, Try.ntmps36
          go_wp2_with fail
          go_quiet ((first | (go_at_call 46; exact Calls.quiet_of_same ((rmagnitude_any _ (by omega) (by omega) _).mono fun _ _ h => ⟨h.1, h.2.symm⟩)) | (go_at_call 45; exact Calls.quiet_of (rdivisor_any _ _ (by omega) (by omega) _))))
          go_wp2
          go_ret
          exact ⟨rfl, by (repeat' (first | (with_reducible exact Below.refl _ _) | (with_reducible assumption) | (with_reducible refine Below.alloc ?_ ?_ _) | (with_reducible refine below_drewN ?_ _) | (with_reducible refine Below.drew ?_) | (with_reducible refine Below.setCell ?_ ?_ _) | go_size))⟩
        · rw [canon_false (by omega)]
          have b4 : decide (n ≤ 1048576) = false := by simpa using c4
          go_enter Try.func36, Try.ntmps36
          go_wp2_with fail
          go_quiet (fail)
          go_wp2
          go_ret
          exact ⟨rfl, by (repeat' (first | (with_reducible exact Below.refl _ _) | (with_reducible assumption) | (with_reducible refine Below.alloc ?_ ?_ _) | (with_reducible refine below_drewN ?_ _) | (with_reducible refine Below.drew ?_) | (with_reducible refine Below.setCell ?_ ?_ _) | go_size))⟩
      · rw [canon_false (by omega)]
        have b4 : decide (-1048576 ≤ n) = false := by simpa using c3
        go_enter Try.func36, Try.ntmps36
        go_wp2_with fail
        go_quiet (fail)
        go_wp2
        go_ret
        exact ⟨rfl, by (repeat' (first | (with_reducible exact Below.refl _ _) | (with_reducible assumption) | (with_reducible refine Below.alloc ?_ ?_ _) | (with_reducible refine below_drewN ?_ _) | (with_reducible refine Below.drew ?_) | (with_reducible refine Below.setCell ?_ ?_ _) | go_size))⟩
    · rw [canon_false (by omega)]
      have b4 : decide (d ≤ 1048576) = false := by simpa using c2
      go_enter Try.func36, Try.ntmps36
      go_wp2_with fail
      go_quiet (fail)
      go_wp2
      go_ret
      exact ⟨rfl, by (repeat' (first | (with_reducible exact Below.refl _ _) | (with_reducible assumption) | (with_reducible refine Below.alloc ?_ ?_ _) | (with_reducible refine below_drewN ?_ _) | (with_reducible refine Below.drew ?_) | (with_reducible refine Below.setCell ?_ ?_ _) | go_size))⟩
  · rw [canon_false (by omega)]
    have b4 : decide (1 ≤ d) = false := by simpa using c1
    go_enter Try.func36, Try.ntmps36
    go_wp2_with fail
    go_quiet (fail)
    go_wp2
    go_ret
    exact ⟨rfl, by (repeat' (first | (with_reducible exact Below.refl _ _) | (with_reducible assumption) | (with_reducible refine Below.alloc ?_ ?_ _) | (with_reducible refine below_drewN ?_ _) | (with_reducible refine Below.drew ?_) | (with_reducible refine Below.setCell ?_ ?_ _) | go_size))⟩
theorem check_any (n d : Int) (h1 : -9223372036854775808 ≤ n) (h2 : n ≤ 9223372036854775807) (h3 : -9223372036854775808 ≤ d) (h4 : d ≤ 9223372036854775807) (w : World) :
    Calls Try.prog 42 #[.agg #[.int .i64 n, .int .i64 d]] w fun e w' => e = .returned (.int .i64 (if canonB n d then 0 else 3)) ∧ Below w.heap.size w w' := by
  by_cases hd : d = 0
  · subst hd
    rw [canon_false (by omega), if_neg (by simp)]
    go_enter Try.func42, Try.ntmps42
    go_wp2_with fail
    refine (make_zero n _).mono ?_
    rintro e w' ⟨rfl, hb⟩
    obtain ⟨hc, hf⟩ := bcell hb
    have hz : w.heap.size < w'.heap.size := by have := hb.size; simp at this; omega
    go_wp2
    go_ret
    exact ⟨rfl, ((Below.refl _ _).alloc (Nat.le_refl _) _).trans ((hb.mono (by simp)).alloc (by simp at *; omega) _)⟩
  · by_cases hcn : canon n d
    · obtain ⟨e1, e2, e3⟩ := mk_canon hcn
      have hB : canonB n d = true := by simpa [canonB] using hcn
      rw [hB, if_pos rfl]
      have E1 := Lib.hid e1
      have E2 := Lib.hid e2
      have E3 := Lib.hid e3
      clear e1 e2 e3 hB hcn
      go_enter Try.func42, Try.ntmps42
      go_wp2_with fail
      refine (make_any n d h1 h2 h3 h4 hd _).mono ?_
      rintro e w' ⟨rfl, hb⟩
      rw [E1.out, E2.out, E3.out]
      obtain ⟨hc, hf⟩ := bcell hb
      have hz : w.heap.size < w'.heap.size := by have := hb.size; simp at this; omega
      go_wp2
      go_ret
      exact ⟨rfl, ((Below.refl _ _).alloc (Nat.le_refl _) _).trans ((hb.mono (by simp)).alloc (by simp at *; omega) _)⟩
    · have hB : canonB n d = false := by simpa [canonB] using hcn
      rw [hB, if_neg (by simp)]
      have hx := (not_congr (check_iff n d)).2 hcn
      have Hx := Lib.hid hx
      clear hx hB hcn
      go_enter Try.func42, Try.ntmps42
      go_wp2_with fail
      refine (make_any n d h1 h2 h3 h4 hd _).mono ?_
      rintro e w' ⟨rfl, hb⟩
      obtain ⟨hc, hf⟩ := bcell hb
      have hz : w.heap.size < w'.heap.size := by have := hb.size; simp at this; omega
      have Hx2 := Hx
      generalize mkN n d = N at *
      generalize mkD n d = D at *
      generalize mkE n d = E at *
      by_cases hE : E = 0
      · have bE : (E != 0) = false := by simp [hE]
        subst hE
        by_cases hN : N = n
        · subst hN
          have hD : (D == d) = false := by have := Hx.out; simp at this; simpa using this
          have hD2 : ¬ D = d := by simpa using hD
          go_wp2
          go_ret
          exact ⟨rfl, ((Below.refl _ _).alloc (Nat.le_refl _) _).trans ((hb.mono (by simp)).alloc (by simp at *; omega) _)⟩
        · have hD : (N == n) = false := by simpa using hN
          go_wp2
          go_ret
          exact ⟨rfl, ((Below.refl _ _).alloc (Nat.le_refl _) _).trans ((hb.mono (by simp)).alloc (by simp at *; omega) _)⟩
      · have bE : (E != 0) = true := by simp [hE]
        go_wp2
        go_ret
        exact ⟨rfl, ((Below.refl _ _).alloc (Nat.le_refl _) _).trans ((hb.mono (by simp)).alloc (by simp at *; omega) _)⟩
end Go.Proofs.Ytolgcphmmghlbaa
namespace Go.Proofs.Ytolgcphmmghlbaa
open Go.ChangeShapes Go.WideShapes Go.ChangeAt Go.RowKit Pl
theorem div_bd (x d : Int) (hd : 1 ≤ d) (h1 : -1152921504606846976 ≤ x) (h2 : x ≤ 1152921504606846976) : -1152921504606846976 ≤ x / d ∧ x / d ≤ 1152921504606846976 := by
  have g1 := Int.mul_ediv_add_emod x d
  have g2 := Int.emod_nonneg x (show d ≠ 0 by omega)
  have g3 := Int.emod_lt_of_pos x (show 0 < d by omega)
  constructor
  · have := Int.ediv_le_ediv (show 0 < d by omega) h1
    refine Int.le_trans ?_ this
    refine (Int.le_ediv_iff_mul_le (by omega)).2 ?_
    omega
  · have := Int.ediv_le_ediv (show 0 < d by omega) h2
    refine Int.le_trans this ?_
    exact Int.ediv_le_self _ (by omega)
theorem mulCeil_any (n a d : Int) (h1 : -1099511627776 ≤ n) (h2 : n ≤ 1099511627776) (h3 : -1048576 ≤ a) (h4 : a ≤ 1048576) (h5 : 1 ≤ d) (h6 : d ≤ 1048576) (w : World) :
    Calls Try.prog 43 #[.int .i64 n, .agg #[.int .i64 a, .int .i64 d]] w fun e w' => e = .returned (.tuple #[.int .i64 (-(-n * a / d)), .int .i64 0]) ∧ Below w.heap.size w w' := by
  obtain ⟨p1, p2⟩ := prod_bd (a := -n) (A := 1099511627776) (by omega) (by omega) h3 h4
  obtain ⟨u1, u2⟩ := div_bd (-n * a) d h5 (by omega) (by omega)
  go_enter Try.func43, Try.ntmps43
  go_wp2_with fail
  refine (floorOf_any (-n) a d (by omega) (by omega) h3 h4 h5 h6 _).mono ?_
  rintro e w' ⟨rfl, hb⟩
  obtain ⟨hchb, hfhb⟩ := bcell hb
  have hzhb := hb.size
  try simp at hzhb
  have hzhb0 : w.heap.size < w'.heap.size := by omega
  have hBhb : Below w.heap.size w w' := Below.trans (by (repeat' (first | (with_reducible exact Below.refl _ _) | (with_reducible assumption) | (with_reducible refine Below.alloc ?_ ?_ _) | (with_reducible refine below_drewN ?_ _) | (with_reducible refine Below.drew ?_) | (with_reducible refine Below.setCell ?_ ?_ _) | go_size))) (hb.mono (by go_size))
  have hWhb : w.heap.size ≤ w'.heap.size := hBhb.size
  clear hb hzhb
  go_wp2
  go_ret2
  exact ⟨rfl, by (repeat' (first | (with_reducible exact Below.refl _ _) | (with_reducible assumption) | (with_reducible refine Below.alloc ?_ ?_ _) | (with_reducible refine below_drewN ?_ _) | (with_reducible refine Below.drew ?_) | (with_reducible refine Below.setCell ?_ ?_ _) | go_size))⟩
end Go.Proofs.Ytolgcphmmghlbaa
