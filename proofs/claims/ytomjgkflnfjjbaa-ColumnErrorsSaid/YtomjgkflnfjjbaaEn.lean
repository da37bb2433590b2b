/- Plain facts: the form of a number. -/
import Derived.Lib.BitFns
import Derived.Lib.ItoaNum
import Derived.KernelRfl
namespace Go.Proofs.Ytomjgkflnfjjbaa.En

/-- How many bytes a magnitude takes. -/
def sz (m : Nat) : Nat := (Lib.bitLen m + 7) / 8
def mask (n : Int) : UInt8 := if n < 0 then 255 else 0
def first (n : Int) : UInt8 := UInt8.ofNat (if n < 0 then 128 - sz n.natAbs else 128 + sz n.natAbs)
/-- Byte number j of the magnitude, from the lowest one on, as it is written. -/
def dig (n : Int) (j : Nat) : UInt8 := UInt8.ofNat (n.natAbs / 2 ^ (8 * j) % 256) ^^^ mask n
/-- The bytes of the magnitude behind which t are still to come. -/
def digs (n : Int) (t : Nat) : List UInt8 := (List.range (sz n.natAbs - t)).map fun i => dig n (sz n.natAbs - 1 - i)
def num (n : Int) : List UInt8 := first n :: digs n 0

theorem bitLen_le (m : Nat) (h : m < 18446744073709551616) : Lib.bitLen m ≤ 64 := by
  rcases Nat.eq_zero_or_pos m with rfl | h0
  · unfold Lib.bitLen; rw [Lib.bitLenAux_zero]; omega
  · obtain ⟨h1, h2, h3⟩ := Lib.bitLenAux_bounds 64 m h (by omega)
    rcases Nat.lt_or_ge 64 (Lib.bitLen m) with h4 | h4
    · exfalso
      have : 2 ^ 64 ≤ 2 ^ (Lib.bitLen m - 1) := Nat.pow_le_pow_right (by omega) (by omega)
      have h2' : 2 ^ (Lib.bitLen m - 1) ≤ m := h2
      omega
    · exact h4
theorem sz_le (m : Nat) (h : m < 18446744073709551616) : sz m ≤ 8 := by
  have := bitLen_le m h
  unfold sz; omega
theorem digs_all (n : Int) : digs n (sz n.natAbs) = [] := by unfold digs; rw [Nat.sub_self]; rfl
theorem digs_step (n : Int) (j : Nat) (h : j < sz n.natAbs) : digs n (j + 1) ++ [dig n j] = digs n j := by
  unfold digs
  have e : sz n.natAbs - j = (sz n.natAbs - (j + 1)) + 1 := by omega
  rw [e, List.range_succ, List.map_append]
  simp only [List.map_cons, List.map_nil]
  congr 3
  omega
theorem digs_len (n : Int) (t : Nat) : (digs n t).length = sz n.natAbs - t := by simp [digs]
theorem num_len (n : Int) : (num n).length = 1 + sz n.natAbs := by simp [num, digs_len]; omega
end Go.Proofs.Ytomjgkflnfjjbaa.En
