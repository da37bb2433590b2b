
/- Decimal digits with a point, plain: padding with zeros, and parting at the point. -/
import Derived.Test.YtokapficojgkgaaDoorDg
namespace Go.Proofs.YtokapficojgkgaaDoor
open Go.ChangeShapes Go.WideShapes Go.ChangeAt Go.RowKit Pl

/-- The last digits of a number, so many. -/
def pd : Nat → Nat → List UInt8
  | 0, _ => []
  | k + 1, u => pd k (u / 10) ++ [UInt8.ofNat (48 + u % 10)]
theorem pd_len (k u : Nat) : (pd k u).length = k := by
  induction k generalizing u with
  | zero => rfl
  | succ k ih => show (pd k (u / 10) ++ [_]).length = _; rw [List.length_append, ih]; rfl
theorem pd_zero (k : Nat) : pd k 0 = List.replicate k 48 := by
  induction k with
  | zero => rfl
  | succ k ih =>
    show pd k (0 / 10) ++ [UInt8.ofNat (48 + 0 % 10)] = _
    rw [Nat.zero_div, ih, List.replicate_succ']
    rfl
theorem pd_mod (k u : Nat) : pd k (u % 10 ^ k) = pd k u := by
  induction k generalizing u with
  | zero => rfl
  | succ k ih =>
    show pd k (u % 10 ^ (k + 1) / 10) ++ [UInt8.ofNat (48 + u % 10 ^ (k + 1) % 10)] = pd k (u / 10) ++ [UInt8.ofNat (48 + u % 10)]
    have e1 : u % 10 ^ (k + 1) / 10 = u / 10 % 10 ^ k := by
      rw [Nat.pow_succ, Nat.mul_comm (10 ^ k) 10, Nat.mod_mul_right_div_self]
    have e2 : u % 10 ^ (k + 1) % 10 = u % 10 := by
      rw [Nat.pow_succ, Nat.mul_comm]
      exact Nat.mod_mul_right_mod _ _ _
    rw [e1, e2, ih]
/-- A number's digits behind so many zeros that there are more than k. -/
def pad (k u : Nat) : List UInt8 := List.replicate (k + 1 - Lib.nDigits u) 48 ++ Lib.decDigits u
theorem pad_eq (k u : Nat) : pad k u = Lib.decDigits (u / 10 ^ k) ++ pd k u := by
  induction k generalizing u with
  | zero =>
    have := Lib.nDigits_pos u
    unfold pad
    rw [show 0 + 1 - Lib.nDigits u = 0 by omega, Nat.pow_zero, Nat.div_one]
    show Lib.decDigits u = Lib.decDigits u ++ []
    rw [List.append_nil]
  | succ k ih =>
    have hdiv : u / 10 ^ (k + 1) = u / 10 / 10 ^ k := by rw [Nat.div_div_eq_div_mul, Nat.pow_succ, Nat.mul_comm]
    by_cases h : u < 10
    · unfold pad
      rw [Lib.nDigits_small h, dec_small h, hdiv]
      have e0 : u / 10 = 0 := by omega
      show _ = Lib.decDigits (u / 10 / 10 ^ k) ++ (pd k (u / 10) ++ [UInt8.ofNat (48 + u % 10)])
      rw [e0, Nat.zero_div, dec_small (by omega), pd_zero, Nat.mod_eq_of_lt h, show k + 1 + 1 - 1 = k + 1 by omega, List.replicate_succ]
      rfl
    · have := ih (u / 10)
      unfold pad at this ⊢
      rw [Lib.nDigits_big h, dec_big h, hdiv, show k + 1 + 1 - (Lib.nDigits (u / 10) + 1) = k + 1 - Lib.nDigits (u / 10) by omega, ← List.append_assoc, this]
      show _ = Lib.decDigits (u / 10 / 10 ^ k) ++ (pd k (u / 10) ++ [UInt8.ofNat (48 + u % 10)])
      rw [List.append_assoc]
theorem pad_len (k u : Nat) : (pad k u).length = Lib.nDigits (u / 10 ^ k) + k := by
  rw [pad_eq, List.length_append, pd_len, dec_len]
/-- The string: a sign, the digits ahead of the point, the point, and k digits. -/
def dcL (neg : Bool) (k u : Nat) : List UInt8 := (if neg then [45] else []) ++ (Lib.decDigits (u / 10 ^ k) ++ (if k = 0 then [] else 46 :: pd k u))
def dcB (neg : Bool) (k u : Nat) : ByteArray := ⟨(dcL neg k u).toArray⟩
end Go.Proofs.YtokapficojgkgaaDoor
