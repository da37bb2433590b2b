/- Plain facts: a digit of a quotient, as the school method finds it (math/bits.Div64). -/
import Derived.Lib.Mul64
namespace Go.Proofs.Ytajainkaomkbjaa.Dv

/-- What the loop over a digit keeps: the guess q is not too small, and r is what is left over the higher half. -/
structure Gu (B y1 y0 u d : Nat) (q r : Nat) : Prop where
  low : (u * B + d) / (y1 * B + y0) ≤ q
  rest : q * y1 + r = u
/-- What is known of the divisor and the dividend. -/
structure Di (B y1 y0 u d : Nat) : Prop where
  big : B ≤ 2 * y1
  y1lt : y1 < B
  y0lt : y0 < B
  ult : u < y1 * B + y0
  dlt : d < B
  pos : 1 < B
variable {B y1 y0 u d q r : Nat}
theorem Di.y1pos (h : Di B y1 y0 u d) : 0 < y1 := by have := h.big; have := h.pos; omega
theorem Di.ypos (h : Di B y1 y0 u d) : 0 < y1 * B + y0 := by have := Nat.mul_pos h.y1pos (show 0 < B by have := h.pos; omega); omega
theorem Di.small (h : Di B y1 y0 u d) : (u * B + d) / (y1 * B + y0) < B := by
  rw [Nat.div_lt_iff_lt_mul h.ypos]
  have h1 : (u + 1) * B ≤ (y1 * B + y0) * B := Nat.mul_le_mul_right _ h.ult
  rw [Nat.add_mul, Nat.one_mul] at h1
  have := h.dlt
  rw [Nat.mul_comm B]
  omega
theorem Gu.start (h : Di B y1 y0 u d) : Gu B y1 y0 u d (u / y1) (u % y1) := by
  refine ⟨?_, by rw [Nat.mul_comm]; exact Nat.div_add_mod u y1⟩
  refine Nat.le_of_not_lt fun hc => ?_
  have h1 : (u / y1 + 1) * (y1 * B + y0) ≤ u * B + d := by
    have := Nat.div_mul_le_self (u * B + d) (y1 * B + y0)
    exact Nat.le_trans (Nat.mul_le_mul_right _ hc) this
  have h2 : (u / y1 + 1) * y1 * B ≤ u * B + d := by
    refine Nat.le_trans ?_ h1
    rw [Nat.mul_assoc]
    exact Nat.mul_le_mul_left _ (Nat.le_add_right _ _)
  have h3 : (u / y1 + 1) * y1 * B < (u + 1) * B := by rw [Nat.add_mul u, Nat.one_mul]; have := h.dlt; omega
  have h4 : (u / y1 + 1) * y1 < u + 1 := Nat.lt_of_mul_lt_mul_right h3
  have h5 := Nat.div_add_mod u y1
  have h6 := Nat.mod_lt u h.y1pos
  rw [Nat.add_mul, Nat.one_mul, Nat.mul_comm] at h4
  omega
theorem Gu.first (h : Di B y1 y0 u d) : u / y1 ≤ B + 1 := by
  refine Nat.le_of_lt_succ ?_
  rw [Nat.div_lt_iff_lt_mul h.y1pos]
  have h1 := h.ult
  have h2 := h.y0lt
  have h3 := h.big
  have e : (B + 1).succ * y1 = y1 * B + 2 * y1 := by rw [Nat.succ_eq_add_one, Nat.add_assoc, Nat.add_mul, Nat.mul_comm B]
  omega
/-- Whether the guess is too great. -/
theorem Gu.test (h : Di B y1 y0 u d) (g : Gu B y1 y0 u d q r) : (B ≤ q ∨ B * r + d < q * y0) ↔ (u * B + d) / (y1 * B + y0) < q := by
  have e : q * (y1 * B + y0) = q * y1 * B + q * y0 := by rw [Nat.mul_add, Nat.mul_assoc]
  have e2 : u * B = q * y1 * B + r * B := by rw [← g.rest, Nat.add_mul]
  have e3 := Nat.mul_comm B r
  constructor
  · rintro (hb | ht)
    · exact Nat.lt_of_lt_of_le h.small hb
    · rw [Nat.div_lt_iff_lt_mul h.ypos, e, e2]
      omega
  · intro hl
    rw [Nat.div_lt_iff_lt_mul h.ypos, e, e2] at hl
    exact .inr (by omega)
theorem Gu.down (h : Di B y1 y0 u d) (g : Gu B y1 y0 u d q r) (ht : B ≤ q ∨ B * r + d < q * y0) : 0 < q ∧ Gu B y1 y0 u d (q - 1) (r + y1) := by
  have hl := (g.test h).1 ht
  have hq : 0 < q := Nat.lt_of_le_of_lt (Nat.zero_le _) hl
  refine ⟨hq, by omega, ?_⟩
  have := g.rest
  obtain ⟨p, rfl⟩ : ∃ p, q = p + 1 := ⟨q - 1, by omega⟩
  rw [Nat.add_mul, Nat.one_mul] at this
  rw [Nat.add_sub_cancel]
  omega
theorem Gu.done (h : Di B y1 y0 u d) (g : Gu B y1 y0 u d q r) (ht : ¬ (B ≤ q ∨ B * r + d < q * y0)) : q = (u * B + d) / (y1 * B + y0) := by
  have := mt (g.test h).2 ht
  have := g.low
  omega
theorem Gu.stop (h : Di B y1 y0 u d) (g : Gu B y1 y0 u d q r) (hq : q ≤ B) (hr : B ≤ r) : q = (u * B + d) / (y1 * B + y0) := by
  have hn : ¬ (u * B + d) / (y1 * B + y0) < q := by
    rw [Nat.div_lt_iff_lt_mul h.ypos]
    have e : q * (y1 * B + y0) = q * y1 * B + q * y0 := by rw [Nat.mul_add, Nat.mul_assoc]
    have e2 : u * B = q * y1 * B + r * B := by rw [← g.rest, Nat.add_mul]
    have h1 : q * y0 ≤ B * y0 := Nat.mul_le_mul_right _ hq
    have h2 : B * y0 ≤ B * B := Nat.mul_le_mul_left _ (Nat.le_of_lt h.y0lt)
    have h3 : B * B ≤ r * B := Nat.mul_le_mul_right _ hr
    omega
  have := g.low
  omega
/-- The numbers that the test multiplies do not leave their words. -/
theorem Gu.fits (h : Di B y1 y0 u d) (g : Gu B y1 y0 u d q r) (hq : q ≤ B + 1) (hr : r < B) : q * y0 < B * B ∧ B * r + d < B * B ∧ q * y1 ≤ u := by
  have hy := h.y0lt
  refine ⟨?_, ?_, by have := g.rest; omega⟩
  · have h1 : q * y0 ≤ (B + 1) * y0 := Nat.mul_le_mul_right _ hq
    have h2 : (B + 1) * y0 ≤ (B + 1) * (B - 1) := Nat.mul_le_mul_left _ (by omega)
    obtain ⟨c, rfl⟩ : ∃ c, B = c + 1 := ⟨B - 1, by have := h.pos; omega⟩
    rw [Nat.add_sub_cancel] at h2
    have e1 : (c + 1 + 1) * c = c * c + 2 * c := by rw [Nat.add_assoc, Nat.add_mul]
    have e2 : (c + 1) * (c + 1) = c * c + 2 * c + 1 := by rw [Nat.add_mul, Nat.mul_add]; omega
    omega
  · have h1 : B * (r + 1) ≤ B * B := Nat.mul_le_mul_left _ hr
    rw [Nat.mul_add, Nat.mul_one] at h1
    have := h.dlt
    omega
/-- What is left over behind a digit. -/
theorem rest_lt (h : Di B y1 y0 u d) (e : q = (u * B + d) / (y1 * B + y0)) : q * (y1 * B + y0) ≤ u * B + d ∧ u * B + d - q * (y1 * B + y0) = (u * B + d) % (y1 * B + y0) ∧ u * B + d - q * (y1 * B + y0) < y1 * B + y0 := by
  have h1 := Nat.div_add_mod (u * B + d) (y1 * B + y0)
  have h2 := Nat.mod_lt (u * B + d) h.ypos
  rw [← e, Nat.mul_comm] at h1
  omega
/-- Two digits are the quotient. -/
theorem digits {y u d1 d0 B : Nat} (hy : 0 < y) : ((u * B + d1) / y) * B + (((u * B + d1) % y) * B + d0) / y = ((u * B + d1) * B + d0) / y := by
  have h1 := Nat.div_add_mod (u * B + d1) y
  generalize (u * B + d1) / y = q at h1 ⊢
  generalize (u * B + d1) % y = r at h1 ⊢
  rw [← h1]
  have e : (y * q + r) * B + d0 = y * (q * B) + (r * B + d0) := by rw [Nat.add_mul, Nat.mul_assoc]; omega
  rw [e, Nat.mul_add_div hy]
/-- The dividend and the divisor, shifted so far that the divisor's highest bit is set. -/
theorem norm {hi lo y s : Nat} (hhi : hi < y) (hlo : lo < 18446744073709551616) (hs : s ≤ 64) (h1 : y * 2 ^ s < 18446744073709551616) :
    hi * 2 ^ s < 18446744073709551616 ∧ lo / 2 ^ (64 - s) < 2 ^ s ∧
    (hi * 2 ^ s + lo / 2 ^ (64 - s)) * 18446744073709551616 + lo * 2 ^ s % 18446744073709551616 = (hi * 18446744073709551616 + lo) * 2 ^ s ∧
    hi * 2 ^ s + lo / 2 ^ (64 - s) < y * 2 ^ s := by
  have e64 : (18446744073709551616 : Nat) = 2 ^ (64 - s) * 2 ^ s := by rw [← Nat.pow_add, show 64 - s + s = 64 by omega]
  have hp : 0 < 2 ^ s := Nat.two_pow_pos s
  have hq : 0 < 2 ^ (64 - s) := Nat.two_pow_pos _
  have h2 : hi * 2 ^ s < y * 2 ^ s := Nat.mul_lt_mul_of_pos_right hhi hp
  have h3 : lo / 2 ^ (64 - s) < 2 ^ s := by
    rw [Nat.div_lt_iff_lt_mul hq, Nat.mul_comm, ← e64]; exact hlo
  have h4 : lo * 2 ^ s / 18446744073709551616 = lo / 2 ^ (64 - s) := by
    rw [e64, Nat.mul_div_mul_right _ _ hp]
  have h5 := Nat.div_add_mod (lo * 2 ^ s) 18446744073709551616
  rw [h4] at h5
  have e : (hi * 2 ^ s + lo / 2 ^ (64 - s)) * 18446744073709551616 + lo * 2 ^ s % 18446744073709551616 = (hi * 18446744073709551616 + lo) * 2 ^ s := by
    rw [Nat.add_mul, Nat.add_mul, Nat.mul_right_comm]
    omega
  refine ⟨by omega, h3, e, ?_⟩
  have h6 : (hi + 1) * 2 ^ s ≤ y * 2 ^ s := Nat.mul_le_mul_right _ hhi
  rw [Nat.add_mul, Nat.one_mul] at h6
  omega
theorem quo_norm (n y s : Nat) : n * 2 ^ s / (y * 2 ^ s) = n / y := Nat.mul_div_mul_right _ _ (Nat.two_pow_pos s)
end Go.Proofs.Ytajainkaomkbjaa.Dv
