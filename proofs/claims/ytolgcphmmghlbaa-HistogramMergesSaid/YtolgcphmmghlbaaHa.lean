/- Buckets, plain: the index of a value, the bounds of a bucket. -/
import Derived.Lib.BitFns
import Derived.Lib.ItoaNum
import Derived.KernelRfl
namespace Go.Proofs.Ytolgcphmmghlbaa
/-- How many bits of a value are lost. -/
def kk (v : Nat) : Nat := if v < 16 then 0 else Lib.bitLen v - 4
/-- The index of a value. -/
def ix (v : Nat) : Nat := 8 * kk v + v / 2 ^ kk v
/-- The least value of a bucket. -/
def loN (n : Nat) : Nat := if n < 16 then n else (8 + n % 8) * 2 ^ (n / 8 - 1)
/-- The greatest one. -/
def hiN (n : Nat) : Nat := if n < 16 then n else min ((8 + n % 8 + 1) * 2 ^ (n / 8 - 1) - 1) 1099511627776
theorem len_spec (v : Nat) (h0 : v ≠ 0) (h : v < 18446744073709551616) : 2 ^ (Lib.bitLen v - 1) ≤ v ∧ v < 2 ^ Lib.bitLen v := by
  obtain ⟨_, h2, h3⟩ := Lib.bitLenAux_bounds 64 v h h0
  exact ⟨h2, h3⟩
theorem pow_lt {a b : Nat} (h : 2 ^ a < 2 ^ b) : a < b := (Nat.pow_lt_pow_iff_right (by omega)).1 h
theorem len_ge (v : Nat) (h1 : 16 ≤ v) (h : v < 18446744073709551616) : 5 ≤ Lib.bitLen v := by
  have := (len_spec v (by omega) h).2
  have h2 : 2 ^ 4 < 2 ^ Lib.bitLen v := by omega
  have := pow_lt h2
  omega
theorem kk_spec (v : Nat) (h1 : 16 ≤ v) (h : v < 18446744073709551616) : 1 ≤ kk v ∧ 2 ^ (kk v + 3) ≤ v ∧ v < 2 ^ (kk v + 4) := by
  have h5 := len_ge v h1 h
  obtain ⟨a, b⟩ := len_spec v (by omega) h
  unfold kk
  rw [if_neg (by omega), show Lib.bitLen v - 4 + 3 = Lib.bitLen v - 1 by omega, show Lib.bitLen v - 4 + 4 = Lib.bitLen v by omega]
  exact ⟨by omega, a, b⟩
theorem kk_uniq (v j : Nat) (h1 : 16 ≤ v) (h : v < 18446744073709551616) (a : 2 ^ (j + 3) ≤ v) (b : v < 2 ^ (j + 4)) : kk v = j := by
  obtain ⟨_, c, d⟩ := kk_spec v h1 h
  have e1 := pow_lt (Nat.lt_of_le_of_lt a d)
  have e2 := pow_lt (Nat.lt_of_le_of_lt c b)
  omega
theorem kk_le (v : Nat) (h1 : 16 ≤ v) (h : v ≤ 1099511627776) : kk v ≤ 37 := by
  obtain ⟨_, c, _⟩ := kk_spec v h1 (by omega)
  have : 2 ^ (kk v + 3) < 2 ^ 41 := by omega
  have := pow_lt this
  omega
theorem mant (v : Nat) (h1 : 16 ≤ v) (h : v < 18446744073709551616) : 8 ≤ v / 2 ^ kk v ∧ v / 2 ^ kk v < 16 := by
  obtain ⟨_, c, d⟩ := kk_spec v h1 h
  have hp : 0 < 2 ^ kk v := Nat.pow_pos (by omega)
  rw [Nat.pow_add] at c d
  exact ⟨(Nat.le_div_iff_mul_le hp).2 (by omega), (Nat.div_lt_iff_lt_mul hp).2 (by omega)⟩
theorem ix_small (v : Nat) (h : v < 16) : ix v = v := by
  unfold ix kk; rw [if_pos h]; omega
theorem ix_ge (v : Nat) (h1 : 16 ≤ v) (h : v < 18446744073709551616) : 16 ≤ ix v ∧ ix v / 8 - 1 = kk v ∧ 8 + ix v % 8 = v / 2 ^ kk v := by
  obtain ⟨a, b⟩ := mant v h1 h
  have := (kk_spec v h1 h).1
  unfold ix
  omega
theorem ix_lt (v : Nat) (h : v ≤ 1099511627776) : ix v < 305 := by
  by_cases h1 : v < 16
  · rw [ix_small v h1]; omega
  · have hk := kk_le v (by omega) h
    obtain ⟨a, b⟩ := mant v (by omega) (by omega)
    by_cases h37 : kk v = 37
    · have : v / 2 ^ kk v ≤ 8 := by rw [h37]; omega
      unfold ix; omega
    · unfold ix; omega
theorem ix_in (v : Nat) (h : v ≤ 1099511627776) : loN (ix v) ≤ v ∧ v ≤ hiN (ix v) := by
  by_cases h1 : v < 16
  · rw [ix_small v h1]; unfold loN hiN; rw [if_pos h1, if_pos h1]; omega
  · obtain ⟨a, b, c⟩ := ix_ge v (by omega) (by omega)
    unfold loN hiN
    rw [if_neg (by omega), if_neg (by omega), b, c]
    have hp : 0 < 2 ^ kk v := Nat.pow_pos (by omega)
    have e1 := Nat.div_mul_le_self v (2 ^ kk v)
    have e2 := Nat.lt_div_mul_add (a := v) hp
    rw [Nat.add_mul, Nat.one_mul]
    omega
theorem narrow (n : Nat) (h : 16 ≤ n) : 8 * (hiN n - loN n + 1) ≤ loN n := by
  unfold loN hiN
  rw [if_neg (by omega), if_neg (by omega)]
  have hp : 0 < 2 ^ (n / 8 - 1) := Nat.pow_pos (by omega)
  have e : 8 * 2 ^ (n / 8 - 1) ≤ (8 + n % 8) * 2 ^ (n / 8 - 1) := Nat.mul_le_mul_right _ (by omega)
  rw [Nat.add_mul (8 + n % 8) 1, Nat.one_mul]
  omega
theorem lo_le_hi (n : Nat) (h : n < 305) : loN n ≤ hiN n ∧ hiN n ≤ 1099511627776 := by
  have : ∀ m : Fin 305, loN m.val ≤ hiN m.val ∧ hiN m.val ≤ 1099511627776 := by decide +kernel
  exact this ⟨n, h⟩
theorem ix_next (v : Nat) (h0 : 0 < v) (h : v ≤ 1099511627776) : ix (v - 1) = ix v ∨ (ix (v - 1) + 1 = ix v ∧ v = loN (ix v)) := by
  by_cases h1 : v < 16
  · rw [ix_small v h1, ix_small (v - 1) (by omega)]
    right; refine ⟨by omega, ?_⟩
    unfold loN; rw [if_pos h1]
  · by_cases h16 : v = 16
    · subst h16; right; decide +kernel
    · obtain ⟨hk, c, d⟩ := kk_spec v (by omega) (by omega)
      obtain ⟨a, b, e⟩ := ix_ge v (by omega) (by omega)
      have hp : 0 < 2 ^ kk v := Nat.pow_pos (by omega)
      by_cases hb : 2 ^ (kk v + 3) ≤ v - 1
      · have hk2 := kk_uniq (v - 1) (kk v) (by omega) (by omega) hb (by omega)
        have e1 := Nat.div_mul_le_self v (2 ^ kk v)
        have e2 := Nat.lt_div_mul_add (a := v) hp
        by_cases hd : v / 2 ^ kk v * 2 ^ kk v = v
        · right
          have e3 : (v - 1) / 2 ^ kk v = v / 2 ^ kk v - 1 := by
            have hm := (mant v (by omega) (by omega)).1
            have e4 : (v / 2 ^ kk v - 1) * 2 ^ kk v + 2 ^ kk v = v / 2 ^ kk v * 2 ^ kk v := by
              rw [← Nat.succ_mul]; congr 1; omega
            refine Nat.div_eq_of_lt_le (by omega) ?_
            rw [Nat.succ_mul]; omega
          have hm := (mant v (by omega) (by omega)).1
          refine ⟨?_, ?_⟩
          · unfold ix; rw [hk2, e3]; omega
          · unfold loN; rw [if_neg (by omega), b, e, hd]
        · left
          have e3 : (v - 1) / 2 ^ kk v = v / 2 ^ kk v := Nat.div_eq_of_lt_le (by omega) (by rw [Nat.succ_mul]; omega)
          unfold ix; rw [hk2, e3]
      · have hv : v = 2 ^ (kk v + 3) := by omega
        have hk2 : 2 ≤ kk v := by
          rcases (by omega : kk v = 1 ∨ 2 ≤ kk v) with h2 | h2
          · rw [h2] at hv; omega
          · exact h2
        obtain ⟨j, hj⟩ : ∃ j, kk v = j + 1 := ⟨kk v - 1, by omega⟩
        rw [hj] at hv
        have hpj : 0 < 2 ^ j := Nat.pow_pos (by omega)
        have p1 : 2 ^ (j + 1 + 3) = 16 * 2 ^ j := by rw [show j + 1 + 3 = j + 4 by omega, Nat.pow_add]; omega
        have p2 : 2 ^ (j + 3) = 8 * 2 ^ j := by rw [Nat.pow_add]; omega
        have p3 : 2 ^ (j + 4) = 16 * 2 ^ j := by rw [Nat.pow_add]; omega
        have hk3 := kk_uniq (v - 1) j (by omega) (by omega) (by omega) (by omega)
        have e3 : (v - 1) / 2 ^ j = 15 := Nat.div_eq_of_lt_le (by omega) (by omega)
        have e4 : v / 2 ^ kk v = 8 := by rw [hj]; exact Nat.div_eq_of_lt_le (by rw [Nat.pow_succ]; omega) (by rw [Nat.pow_succ]; omega)
        right
        refine ⟨?_, ?_⟩
        · unfold ix; rw [hk3, e3, e4, hj]; omega
        · unfold loN; rw [if_neg (by omega), b, e, e4, hj, Nat.pow_succ]; omega
end Go.Proofs.Ytolgcphmmghlbaa
