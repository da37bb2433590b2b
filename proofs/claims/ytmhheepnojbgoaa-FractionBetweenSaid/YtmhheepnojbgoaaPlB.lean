/- The simplest fraction between two others: plain facts. -/
import Derived.Test.YtmhheepnojbgoaaPl
namespace Go.Proofs.Ytmhheepnojbgoaa.Pl

/-- The numerator and the denominator of the simplest fraction between a/b and c/d (d = 0: nothing bounds it), by as many steps as the first number says. -/
def sim : Nat → Int → Int → Int → Int → Int × Int
  | 0, _, _, _, _ => (0, 0)
  | f + 1, a, b, c, d => if (a / b + 1) * d < c then (a / b + 1, 1) else (a / b * (sim f d (c - a / b * d) b (a - a / b * b)).1 + (sim f d (c - a / b * d) b (a - a / b * b)).2, (sim f d (c - a / b * d) b (a - a / b * b)).1)

def okS (a b c d : Int) : Prop := 0 ≤ a ∧ 1 ≤ b ∧ 0 ≤ d ∧ 0 < c ∧ a * d < c * b

theorem step_ok {a b c d : Int} (h : okS a b c d) (hn : ¬ (a / b + 1) * d < c) :
    okS d (c - a / b * d) b (a - a / b * b) ∧ 1 ≤ d ∧ 0 ≤ a / b ∧ a / b * b ≤ a ∧ a - a / b * b ≤ b - 1 ∧ c - a / b * d ≤ d := by
  obtain ⟨ha, hb, hd, hc, hl⟩ := h
  have g1 := Int.mul_ediv_add_emod a b
  have g2 := Int.emod_nonneg a (show b ≠ 0 by omega)
  have g3 := Int.emod_lt_of_pos a (show 0 < b by omega)
  have g4 : b * (a / b) = a / b * b := Int.mul_comm _ _
  have g5 : 0 ≤ a / b := Int.ediv_nonneg ha (by omega)
  generalize a / b = q at *
  have d1 : 1 ≤ d := by
    apply Int.not_lt.1; intro hh
    have : d = 0 := by omega
    subst this; simp at hn; omega
  have e1 : (q + 1) * d = q * d + d := by rw [Int.add_mul, Int.one_mul]
  have key : 0 < (c - q * d) * b := by
    have : q * b * d ≤ a * d := Int.mul_le_mul_of_nonneg_right (by omega) hd
    have e2 : (c - q * d) * b = c * b - q * b * d := by grind
    omega
  have c1 : 1 ≤ c - q * d := by
    apply Int.not_lt.1; intro hh
    have : (c - q * d) * b ≤ 0 := Int.mul_nonpos_of_nonpos_of_nonneg (by omega) (by omega)
    omega
  refine ⟨⟨hd, c1, by omega, by omega, ?_⟩, d1, g5, by omega, by omega, by omega⟩
  have e3 : d * (a - q * b) = a * d - q * b * d := by grind
  have e4 : b * (c - q * d) = c * b - q * b * d := by grind
  omega

set_option maxHeartbeats 4000000 in
theorem sim_spec : ∀ (f : Nat) (a b c d : Int), okS a b c d → b + d ≤ f →
    1 ≤ (sim f a b c d).1 ∧ 1 ≤ (sim f a b c d).2 ∧ a * (sim f a b c d).2 < (sim f a b c d).1 * b ∧ (sim f a b c d).1 * d < c * (sim f a b c d).2 ∧ (sim f a b c d).1 ≤ a + c ∧ (sim f a b c d).2 ≤ b + d ∧
    ∀ x y : Int, 1 ≤ y → a * y < x * b → x * d < c * y → (sim f a b c d).2 ≤ y ∧ (sim f a b c d).1 ≤ x := by
  intro f
  induction f with
  | zero => intro a b c d h hf; obtain ⟨-, hb, hd, -⟩ := h; omega
  | succ f ih =>
    intro a b c d h hf
    have h' := h
    obtain ⟨ha, hb, hd, hc, hl⟩ := h
    have g1 := Int.mul_ediv_add_emod a b
    have g2 := Int.emod_nonneg a (show b ≠ 0 by omega)
    have g3 := Int.emod_lt_of_pos a (show 0 < b by omega)
    have g4 : b * (a / b) = a / b * b := Int.mul_comm _ _
    have g5 : 0 ≤ a / b := Int.ediv_nonneg ha (by omega)
    unfold sim
    by_cases hn : (a / b + 1) * d < c
    · rw [if_pos hn]
      simp only []
      generalize a / b = q at *
      have e1 : (q + 1) * b = q * b + b := by rw [Int.add_mul, Int.one_mul]
      have q1 : q ≤ a := by
        have : q * 1 ≤ q * b := Int.mul_le_mul_of_nonneg_left hb g5
        omega
      refine ⟨by omega, by omega, by omega, by omega, by omega, by omega, ?_⟩
      intro x y hy h1 h2
      refine ⟨hy, ?_⟩
      apply Int.not_lt.1; intro hh
      have p1 : x * b ≤ q * b := Int.mul_le_mul_of_nonneg_right (by omega) (by omega)
      have p2 : a * 1 ≤ a * y := Int.mul_le_mul_of_nonneg_left hy ha
      omega
    · rw [if_neg hn]
      simp only []
      obtain ⟨ho, d1, -, s1, s2, s3⟩ := step_ok h' hn
      generalize a / b = q at *
      obtain ⟨i1, i2, i3, i4, i5, i6, i7⟩ := ih d (c - q * d) b (a - q * b) ho (by omega)
      generalize (sim f d (c - q * d) b (a - q * b)).1 = S at *
      generalize (sim f d (c - q * d) b (a - q * b)).2 = T at *
      have qS : 0 ≤ q * S := Int.mul_nonneg g5 (by omega)
      refine ⟨by omega, i1, ?_, ?_, ?_, by omega, ?_⟩
      · have e1 : (q * S + T) * b = q * b * S + b * T := by grind
        have e2 : S * (a - q * b) = a * S - q * b * S := by grind
        have e3 : b * T = T * b := Int.mul_comm _ _
        omega
      · have e1 : (q * S + T) * d = q * d * S + d * T := by grind
        have e2 : S * (c - q * d) = c * S - q * d * S := by grind
        omega
      · have p1 : q * S ≤ q * (d + b) := Int.mul_le_mul_of_nonneg_left i5 g5
        have e1 : q * (d + b) = q * d + q * b := Int.mul_add _ _ _
        omega
      · intro x y hy h1 h2
        have hx : 1 ≤ x - q * y := by
          apply Int.not_lt.1; intro hh
          have p1 : x * b ≤ q * y * b := Int.mul_le_mul_of_nonneg_right (by omega) (by omega)
          have p2 : q * b * y ≤ a * y := Int.mul_le_mul_of_nonneg_right (by omega) (by omega)
          have e1 : q * y * b = q * b * y := by grind
          omega
        obtain ⟨j1, j2⟩ := i7 y (x - q * y) hx (by
          have e1 : d * (x - q * y) = x * d - q * d * y := by grind
          have e2 : y * (c - q * d) = c * y - q * d * y := by grind
          omega) (by
          have e1 : y * (a - q * b) = a * y - q * b * y := by grind
          have e2 : b * (x - q * y) = x * b - q * b * y := by grind
          omega)
        refine ⟨j2, ?_⟩
        have p1 : q * S ≤ q * y := Int.mul_le_mul_of_nonneg_left j2 g5
        omega

/-- The simplest one is in lowest terms. -/
theorem sim_gcd {a b c d N D : Int} (hN : 1 ≤ N) (hD : 1 ≤ D) (h1 : a * D < N * b) (h2 : N * d < c * D) (h : ∀ x y : Int, 1 ≤ y → a * y < x * b → x * d < c * y → D ≤ y ∧ N ≤ x) : Nat.gcd N.natAbs D.natAbs = 1 := by
  have hg : 0 < Nat.gcd N.natAbs D.natAbs := Nat.gcd_pos_of_pos_left _ (by omega)
  obtain ⟨x, hx⟩ := Nat.gcd_dvd_left N.natAbs D.natAbs
  obtain ⟨y, hy⟩ := Nat.gcd_dvd_right N.natAbs D.natAbs
  generalize Nat.gcd N.natAbs D.natAbs = g at *
  have eN : N = (g : Int) * x := by have : (N.natAbs : Int) = (g : Int) * x := by rw [hx]; simp
                                    omega
  have eD : D = (g : Int) * y := by have : (D.natAbs : Int) = (g : Int) * y := by rw [hy]; simp
                                    omega
  have y1 : 1 ≤ y := by
    rcases Nat.eq_zero_or_pos y with h0 | h0
    · subst h0; simp at eD; omega
    · exact h0
  have g1 : 0 < (g : Int) := by omega
  obtain ⟨k1, k2⟩ := h x y (by omega) (by
    refine Int.lt_of_mul_lt_mul_left (a := (g : Int)) ?_ (by omega)
    have e1 : (g : Int) * (a * y) = a * D := by rw [eD]; grind
    have e2 : (g : Int) * (x * b) = N * b := by rw [eN]; grind
    omega) (by
    refine Int.lt_of_mul_lt_mul_left (a := (g : Int)) ?_ (by omega)
    have e1 : (g : Int) * (x * d) = N * d := by rw [eN]; grind
    have e2 : (g : Int) * (c * y) = c * D := by rw [eD]; grind
    omega)
  apply Classical.byContradiction
  intro hne
  have g2 : 2 ≤ g := by omega
  have : 2 * y ≤ g * y := Nat.mul_le_mul_right y g2
  have : ((g * y : Nat) : Int) = (g : Int) * y := by simp
  omega
end Go.Proofs.Ytmhheepnojbgoaa.Pl
