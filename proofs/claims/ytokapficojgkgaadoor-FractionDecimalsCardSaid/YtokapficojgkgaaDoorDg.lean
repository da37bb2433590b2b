
/- Decimal digits, plain: what a scan of them gives; how many there are. -/
import Derived.Test.YtokapficojgkgaaDoorScan
import Derived.Lib.ItoaNum
namespace Go.Proofs.YtokapficojgkgaaDoor
open Go.ChangeShapes Go.WideShapes Go.ChangeAt Go.RowKit Pl

theorem dec_small {u : Nat} (h : u < 10) : Lib.decDigits u = [UInt8.ofNat (48 + u)] := by rw [Lib.decDigits, dif_pos h]
theorem dec_big {u : Nat} (h : ¬ u < 10) : Lib.decDigits u = Lib.decDigits (u / 10) ++ [UInt8.ofNat (48 + u % 10)] := by rw [Lib.decDigits, dif_neg h]
theorem digit_nat {d : Nat} (h : d < 10) : (UInt8.ofNat (48 + d)).toNat = 48 + d := by
  rw [UInt8.toNat_ofNat']; omega
theorem dec_len (u : Nat) : (Lib.decDigits u).length = Lib.nDigits u := by
  rw [Lib.decDigits_eq, List.length_map, List.length_range]
theorem nd_le {u k : Nat} (h : u < 10 ^ (k + 1)) : Lib.nDigits u ≤ k + 1 := by
  induction k generalizing u with
  | zero => rw [Lib.nDigits_small (by simpa using h)]; exact Nat.le_refl _
  | succ k ih =>
    by_cases h1 : u < 10
    · rw [Lib.nDigits_small h1]; omega
    · rw [Lib.nDigits_big h1]
      have := ih (u := u / 10) (by rw [Nat.pow_succ] at h; omega)
      omega
theorem scan_digit {d : Nat} (h : d < 10) (n : Int) (k : Nat) (r : List UInt8) : scanL n k (UInt8.ofNat (48 + d) :: r) = scanL (10 * n + (d : Int)) (k + 1) r := by
  show (if 48 ≤ (UInt8.ofNat (48 + d)).toNat ∧ (UInt8.ofNat (48 + d)).toNat ≤ 57 then _ else _) = _
  rw [digit_nat h, if_pos (by omega)]
  congr 1
  omega
/-- Scanning the digits of a number, and what stands behind. -/
theorem scan_dec (u : Nat) (n : Int) (k : Nat) (r : List UInt8) : scanL n k (Lib.decDigits u ++ r) = scanL (n * (10 : Int) ^ Lib.nDigits u + (u : Int)) (k + Lib.nDigits u) r := by
  induction u using Nat.strongRecOn generalizing n k r with
  | _ u ih =>
    by_cases h : u < 10
    · rw [dec_small h, Lib.nDigits_small h]
      show scanL n k (UInt8.ofNat (48 + u) :: r) = _
      rw [scan_digit h]
      congr 1
      omega
    · rw [dec_big h, Lib.nDigits_big h, List.append_assoc, ih (u / 10) (by omega)]
      show scanL _ _ (UInt8.ofNat (48 + u % 10) :: r) = _
      rw [scan_digit (by omega)]
      congr 1
      rw [Int.pow_succ, ← Int.mul_assoc]
      omega
theorem scan_zero (u : Nat) (r : List UInt8) : scanL 0 0 (Lib.decDigits u ++ r) = scanL (u : Int) (Lib.nDigits u) r := by
  rw [scan_dec, Int.zero_mul, Int.zero_add, Nat.zero_add]
theorem dec_head (u : Nat) : ∃ d r, d < 10 ∧ Lib.decDigits u = UInt8.ofNat (48 + d) :: r := by
  induction u using Nat.strongRecOn with
  | _ u ih =>
    by_cases h : u < 10
    · exact ⟨u, [], h, dec_small h⟩
    · obtain ⟨d, r, h1, h2⟩ := ih (u / 10) (by omega)
      exact ⟨d, r ++ [UInt8.ofNat (48 + u % 10)], h1, by rw [dec_big h, h2]; rfl⟩
theorem digit_ne {d : Nat} (h : d < 10) (c : UInt8) (hc : c.toNat < 48) : UInt8.ofNat (48 + d) ≠ c := by
  intro e
  have := congrArg UInt8.toNat e
  rw [digit_nat h] at this
  omega
/-- The digits that are still to come, while they are taken from the end. -/
theorem dec_step {c : Nat} (u : Nat) (s : List UInt8) (h : Lib.decDigits c ++ s = Lib.decDigits u) : (c / 10 = 0 ∧ UInt8.ofNat (48 + c % 10) :: s = Lib.decDigits u) ∨ (0 < c / 10 ∧ Lib.decDigits (c / 10) ++ (UInt8.ofNat (48 + c % 10) :: s) = Lib.decDigits u) := by
  by_cases h1 : c < 10
  · left
    rw [dec_small h1] at h
    exact ⟨by omega, by rw [Nat.mod_eq_of_lt h1]; exact h⟩
  · right
    rw [dec_big h1, List.append_assoc] at h
    exact ⟨by omega, h⟩
end Go.Proofs.YtokapficojgkgaaDoor
