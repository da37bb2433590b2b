
/- Plain facts about fractions in lowest terms: no program is named here. -/
namespace Go.Proofs.YtokapficojgkgaaDoor.Pl

def gI (x y : Int) : Nat := Nat.gcd x.natAbs y.natAbs
def mkE (x y : Int) : Int := if y = 0 then 19 else if 1048576 < x.natAbs / gI x y ∨ 1048576 < y.natAbs / gI x y then 20 else 0
def mkN (x y : Int) : Int := if mkE x y = 0 then (if (x < 0 ↔ y < 0) then ((x.natAbs / gI x y : Nat) : Int) else -((x.natAbs / gI x y : Nat) : Int)) else 0
def mkD (x y : Int) : Int := if mkE x y = 0 then ((y.natAbs / gI x y : Nat) : Int) else 0
def canon (n d : Int) : Prop := 1 ≤ d ∧ d ≤ 1048576 ∧ -1048576 ≤ n ∧ n ≤ 1048576 ∧ Nat.gcd n.natAbs d.natAbs = 1
instance (n d : Int) : Decidable (canon n d) := by unfold canon; infer_instance
def canonB (n d : Int) : Bool := decide (canon n d)

theorem gI_pos {x y : Int} (hy : y ≠ 0) : 0 < gI x y := Nat.gcd_pos_of_pos_right _ (by omega)

theorem mkE_cases (x y : Int) : mkE x y = 0 ∨ mkE x y = 19 ∨ mkE x y = 20 := by
  unfold mkE; split
  · simp
  · split <;> simp
theorem mkE_ne (x y : Int) (hy : y ≠ 0) : mkE x y = 0 ∨ mkE x y = 20 := by
  unfold mkE; rw [if_neg hy]; split <;> simp
theorem mkE_zero (x : Int) : mkE x 0 = 19 := by simp [mkE]
theorem mk_bad {x y : Int} (h : mkE x y ≠ 0) : mkN x y = 0 ∧ mkD x y = 0 := by
  unfold mkN mkD; rw [if_neg h, if_neg h]; exact ⟨rfl, rfl⟩

theorem mk_parts {x y : Int} (hy : y ≠ 0) (he : mkE x y = 0) :
    ∃ a b : Nat, 0 < gI x y ∧ x.natAbs = gI x y * a ∧ y.natAbs = gI x y * b ∧ Nat.gcd a b = 1 ∧ a ≤ 1048576 ∧ b ≤ 1048576 ∧ 1 ≤ b ∧ mkD x y = b ∧ mkN x y = (if (x < 0 ↔ y < 0) then (a : Int) else -(a : Int)) := by
  have hg := gI_pos (x := x) hy
  have h1 : gI x y ∣ x.natAbs := Nat.gcd_dvd_left _ _
  have h2 : gI x y ∣ y.natAbs := Nat.gcd_dvd_right _ _
  have hb : ¬ (1048576 < x.natAbs / gI x y ∨ 1048576 < y.natAbs / gI x y) := by
    intro hh; unfold mkE at he; rw [if_neg hy, if_pos hh] at he; omega
  refine ⟨x.natAbs / gI x y, y.natAbs / gI x y, hg, (Nat.mul_div_cancel' h1).symm, (Nat.mul_div_cancel' h2).symm, ?_, by omega, by omega, ?_, by unfold mkD; rw [if_pos he], by unfold mkN; rw [if_pos he]⟩
  · have := Nat.coprime_div_gcd_div_gcd (m := x.natAbs) (n := y.natAbs) hg
    exact this
  · have : 0 < y.natAbs / gI x y := Nat.div_pos (Nat.le_of_dvd (by omega) h2) hg
    omega

theorem mk_ok {x y : Int} (hy : y ≠ 0) (he : mkE x y = 0) : canon (mkN x y) (mkD x y) ∧ mkN x y * y = x * mkD x y := by
  obtain ⟨a, b, hg, hx, hyy, hc, ha, hb, hb1, hd, hn⟩ := mk_parts hy he
  generalize gI x y = g at *
  rw [hd, hn]
  have ex : x = (g : Int) * a ∨ x = -((g : Int) * a) := by
    have : (x.natAbs : Int) = (g : Int) * a := by rw [hx]; simp
    omega
  have ey : y = (g : Int) * b ∨ y = -((g : Int) * b) := by
    have : (y.natAbs : Int) = (g : Int) * b := by rw [hyy]; simp
    omega
  have gb : 0 < (g : Int) * b := Int.mul_pos (by omega) (by omega)
  have ga : 0 ≤ (g : Int) * a := Int.mul_nonneg (by omega) (by omega)
  constructor
  · refine ⟨by omega, by omega, by split <;> omega, by split <;> omega, ?_⟩
    have : (if (x < 0 ↔ y < 0) then (a : Int) else -(a : Int)).natAbs = a := by split <;> omega
    rw [this]; exact hc
  · have key : (a : Int) * ((g : Int) * b) = ((g : Int) * a) * b := by rw [Int.mul_comm (g : Int) a, Int.mul_assoc]
    by_cases hx0 : x < 0
    · have ex' : x = -((g : Int) * a) := by omega
      by_cases hy0 : y < 0
      · have ey' : y = -((g : Int) * b) := by omega
        rw [if_pos (by simp [hx0, hy0]), ex', ey', Int.mul_neg, Int.neg_mul, key]
      · have ey' : y = (g : Int) * b := by omega
        rw [if_neg (by simp [hx0, hy0]), ex', ey', Int.neg_mul, Int.neg_mul, key]
    · have ex' : x = (g : Int) * a := by omega
      by_cases hy0 : y < 0
      · have ey' : y = -((g : Int) * b) := by omega
        rw [if_neg (by simp [hx0, hy0]), ex', ey', Int.neg_mul_neg, key]
      · have ey' : y = (g : Int) * b := by omega
        rw [if_pos (by simp [hx0, hy0]), ex', ey', key]

theorem natAbs_eq_of {a b : Int} (h : a = b) : a.natAbs = b.natAbs := by rw [h]

theorem mk_cross {x y n d : Int} (hy : y ≠ 0) (h : canon n d) (hc : x * d = n * y) : mkN x y = n ∧ mkD x y = d ∧ mkE x y = 0 := by
  obtain ⟨h1, h2, h3, h4, h5⟩ := h
  have e := natAbs_eq_of hc
  rw [Int.natAbs_mul, Int.natAbs_mul] at e
  have dd : d.natAbs ∣ y.natAbs := by
    have : d.natAbs ∣ n.natAbs * y.natAbs := ⟨x.natAbs, by rw [← e, Nat.mul_comm]⟩
    exact Nat.Coprime.dvd_of_dvd_mul_left (by rw [Nat.coprime_comm]; exact h5) this
  obtain ⟨k, hk⟩ := dd
  have hk0 : 0 < k := by
    rcases Nat.eq_zero_or_pos k with h0 | h0
    · subst h0; simp at hk; omega
    · exact h0
  have hx : x.natAbs = n.natAbs * k := by
    rw [hk] at e
    have : d.natAbs * x.natAbs = d.natAbs * (n.natAbs * k) := by
      rw [Nat.mul_comm, e, Nat.mul_left_comm]
    exact Nat.eq_of_mul_eq_mul_left (by omega) this
  have hg : gI x y = k := by
    unfold gI; rw [hx, hk, Nat.gcd_mul_right, h5, Nat.one_mul]
  have q1 : x.natAbs / gI x y = n.natAbs := by rw [hg, hx, Nat.mul_div_cancel _ hk0]
  have q2 : y.natAbs / gI x y = d.natAbs := by rw [hg, hk, Nat.mul_div_cancel _ hk0]
  have he : mkE x y = 0 := by
    unfold mkE; rw [if_neg hy, q1, q2, if_neg (by omega)]
  refine ⟨?_, ?_, he⟩
  · unfold mkN; rw [if_pos he, q1]
    -- signs
    by_cases hy0 : y < 0
    · by_cases hx0 : x < 0
      · have : 0 < n := by
          have : x * d < 0 := Int.mul_neg_of_neg_of_pos hx0 (by omega)
          rw [hc] at this
          rcases Int.lt_trichotomy n 0 with hn | hn | hn
          · have := Int.mul_pos_of_neg_of_neg hn hy0; omega
          · subst hn; simp at this
          · exact hn
        rw [if_pos (by simp [hx0, hy0])]; omega
      · have : n ≤ 0 := by
          have : 0 ≤ x * d := Int.mul_nonneg (by omega) (by omega)
          rw [hc] at this
          rcases Int.lt_trichotomy n 0 with hn | hn | hn
          · omega
          · omega
          · have := Int.mul_neg_of_pos_of_neg hn hy0; omega
        rw [if_neg (by simp [hx0, hy0])]; omega
    · have hy1 : 0 < y := by omega
      by_cases hx0 : x < 0
      · have : n < 0 := by
          have : x * d < 0 := Int.mul_neg_of_neg_of_pos hx0 (by omega)
          rw [hc] at this
          rcases Int.lt_trichotomy n 0 with hn | hn | hn
          · exact hn
          · subst hn; simp at this
          · have := Int.mul_pos hn hy1; omega
        rw [if_neg (by simp [hx0, hy0])]; omega
      · have : 0 ≤ n := by
          have : 0 ≤ x * d := Int.mul_nonneg (by omega) (by omega)
          rw [hc] at this
          rcases Int.lt_trichotomy n 0 with hn | hn | hn
          · have := Int.mul_neg_of_neg_of_pos hn hy1; omega
          · omega
          · omega
        rw [if_pos (by simp [hx0, hy0])]; omega
  · unfold mkD; rw [if_pos he, q2]; omega

theorem mk_canon {n d : Int} (h : canon n d) : mkN n d = n ∧ mkD n d = d ∧ mkE n d = 0 :=
  mk_cross (by have := h.1; omega) h rfl

theorem check_iff (n d : Int) : (mkE n d = 0 ∧ mkN n d = n ∧ mkD n d = d) ↔ canon n d := by
  constructor
  · rintro ⟨h1, h2, h3⟩
    by_cases hd : d = 0
    · subst hd; simp [mkE] at h1
    · have := (mk_ok hd h1).1
      rwa [h2, h3] at this
  · intro h; obtain ⟨a, b, c⟩ := mk_canon h; exact ⟨c, a, b⟩

theorem mk_small {x y : Int} (hy : y ≠ 0) (hx : x.natAbs ≤ 1048576) (hyy : y.natAbs ≤ 1048576) : mkE x y = 0 := by
  unfold mkE; rw [if_neg hy, if_neg]
  have h1 := Nat.div_le_self x.natAbs (gI x y)
  have h2 := Nat.div_le_self y.natAbs (gI x y)
  omega

/-- The sum, less the second one, is the first one. -/
theorem sub_back {n d p q : Int} (h : canon n d) (h' : canon p q) (he : mkE (n * q + p * d) (d * q) = 0) :
    mkN (mkN (n * q + p * d) (d * q) * q + -p * mkD (n * q + p * d) (d * q)) (mkD (n * q + p * d) (d * q) * q) = n ∧
    mkD (mkN (n * q + p * d) (d * q) * q + -p * mkD (n * q + p * d) (d * q)) (mkD (n * q + p * d) (d * q) * q) = d ∧
    mkE (mkN (n * q + p * d) (d * q) * q + -p * mkD (n * q + p * d) (d * q)) (mkD (n * q + p * d) (d * q) * q) = 0 := by
  have hq : 0 < q := by have := h'.1; omega
  have hd : 0 < d := by have := h.1; omega
  have hdq : d * q ≠ 0 := by have := Int.mul_pos hd hq; omega
  obtain ⟨hc, hv⟩ := mk_ok hdq he
  generalize mkN (n * q + p * d) (d * q) = s at *
  generalize mkD (n * q + p * d) (d * q) = t at *
  have ht : 0 < t := by have := hc.1; omega
  refine mk_cross (by have := Int.mul_pos ht hq; omega) h ?_
  grind

/-- Both sides of the law of association are one fraction. -/
theorem assoc_add {f fd g gd h hd : Int} (hf : 0 < fd) (hg : 0 < gd) (hh : 0 < hd) (e1 : mkE (f * gd + g * fd) (fd * gd) = 0) (e2 : mkE (g * hd + h * gd) (gd * hd) = 0)
    (e3 : mkE (mkN (f * gd + g * fd) (fd * gd) * hd + h * mkD (f * gd + g * fd) (fd * gd)) (mkD (f * gd + g * fd) (fd * gd) * hd) = 0) :
    mkN (f * mkD (g * hd + h * gd) (gd * hd) + mkN (g * hd + h * gd) (gd * hd) * fd) (fd * mkD (g * hd + h * gd) (gd * hd)) = mkN (mkN (f * gd + g * fd) (fd * gd) * hd + h * mkD (f * gd + g * fd) (fd * gd)) (mkD (f * gd + g * fd) (fd * gd) * hd) ∧
    mkD (f * mkD (g * hd + h * gd) (gd * hd) + mkN (g * hd + h * gd) (gd * hd) * fd) (fd * mkD (g * hd + h * gd) (gd * hd)) = mkD (mkN (f * gd + g * fd) (fd * gd) * hd + h * mkD (f * gd + g * fd) (fd * gd)) (mkD (f * gd + g * fd) (fd * gd) * hd) ∧
    mkE (f * mkD (g * hd + h * gd) (gd * hd) + mkN (g * hd + h * gd) (gd * hd) * fd) (fd * mkD (g * hd + h * gd) (gd * hd)) = 0 := by
  have n1 := Int.mul_pos hf hg
  have n2 := Int.mul_pos hg hh
  obtain ⟨c1, v1⟩ := mk_ok (by omega) e1
  obtain ⟨c2, v2⟩ := mk_ok (by omega) e2
  generalize mkN (f * gd + g * fd) (fd * gd) = a at *
  generalize mkD (f * gd + g * fd) (fd * gd) = ad at *
  generalize mkN (g * hd + h * gd) (gd * hd) = b at *
  generalize mkD (g * hd + h * gd) (gd * hd) = bd at *
  have a0 : 0 < ad := by have := c1.1; omega
  have b0 : 0 < bd := by have := c2.1; omega
  have n3 := Int.mul_pos a0 hh
  obtain ⟨c3, v3⟩ := mk_ok (by omega) e3
  generalize mkN (a * hd + h * ad) (ad * hd) = x at *
  generalize mkD (a * hd + h * ad) (ad * hd) = xd at *
  have n4 := Int.mul_pos hf b0
  refine mk_cross (by omega) c3 ?_
  -- cancel gd * hd * ad
  have n5 : gd * hd * ad ≠ 0 := by have := Int.mul_pos n2 a0; omega
  refine Int.eq_of_mul_eq_mul_left n5 ?_
  grind

theorem assoc_mul {f fd g gd h hd : Int} (hf : 0 < fd) (hg : 0 < gd) (hh : 0 < hd) (e1 : mkE (f * g) (fd * gd) = 0) (e2 : mkE (g * h) (gd * hd) = 0)
    (e3 : mkE (mkN (f * g) (fd * gd) * h) (mkD (f * g) (fd * gd) * hd) = 0) :
    mkN (f * mkN (g * h) (gd * hd)) (fd * mkD (g * h) (gd * hd)) = mkN (mkN (f * g) (fd * gd) * h) (mkD (f * g) (fd * gd) * hd) ∧
    mkD (f * mkN (g * h) (gd * hd)) (fd * mkD (g * h) (gd * hd)) = mkD (mkN (f * g) (fd * gd) * h) (mkD (f * g) (fd * gd) * hd) ∧
    mkE (f * mkN (g * h) (gd * hd)) (fd * mkD (g * h) (gd * hd)) = 0 := by
  have n1 := Int.mul_pos hf hg
  have n2 := Int.mul_pos hg hh
  obtain ⟨c1, v1⟩ := mk_ok (by omega) e1
  obtain ⟨c2, v2⟩ := mk_ok (by omega) e2
  generalize mkN (f * g) (fd * gd) = a at *
  generalize mkD (f * g) (fd * gd) = ad at *
  generalize mkN (g * h) (gd * hd) = b at *
  generalize mkD (g * h) (gd * hd) = bd at *
  have a0 : 0 < ad := by have := c1.1; omega
  have b0 : 0 < bd := by have := c2.1; omega
  have n3 := Int.mul_pos a0 hh
  obtain ⟨c3, v3⟩ := mk_ok (by omega) e3
  generalize mkN (a * h) (ad * hd) = x at *
  generalize mkD (a * h) (ad * hd) = xd at *
  have n4 := Int.mul_pos hf b0
  refine mk_cross (by omega) c3 ?_
  have n5 : gd * hd * ad ≠ 0 := by have := Int.mul_pos n2 a0; omega
  refine Int.eq_of_mul_eq_mul_left n5 ?_
  grind

theorem gcd_step (a b : Nat) (_h : a ≠ 0) : Nat.gcd (b % a) a = Nat.gcd a b := (Nat.gcd_rec a b).symm

/-- Go's quotient, corrected, is the floor. -/
theorem floor_q (x d : Int) (hd : 1 ≤ d) : (if x.tdiv d * d > x then x.tdiv d - 1 else x.tdiv d) = x / d := by
  have h1 := Int.mul_ediv_add_emod x d
  have h2 := Int.emod_nonneg x (show d ≠ 0 by omega)
  have h3 := Int.emod_lt_of_pos x (show 0 < d by omega)
  have h4 := Int.mul_tdiv_add_tmod x d
  rw [Int.tdiv_eq_ediv]
  have hs : Int.sign d = 1 := Int.sign_eq_one_of_pos (by omega)
  rw [hs]
  have hm : d * (x / d) = x / d * d := Int.mul_comm _ _
  by_cases hc : 0 ≤ x ∨ d ∣ x
  · rw [if_pos hc, Int.add_zero, if_neg (by omega)]
  · rw [if_neg hc]
    have hne : x % d ≠ 0 := by
      intro h0; exact hc (Or.inr (Int.dvd_of_emod_eq_zero h0))
    have : (x / d + 1) * d = x / d * d + d := by rw [Int.add_mul, Int.one_mul]
    rw [if_pos (by omega)]; omega

theorem floor_r (x d : Int) (hd : 1 ≤ d) : (if x.tmod d < 0 then x.tdiv d - 1 else x.tdiv d) = x / d := by
  rw [← floor_q x d hd]
  have h4 := Int.mul_tdiv_add_tmod x d
  have hm : d * (x.tdiv d) = x.tdiv d * d := Int.mul_comm _ _
  by_cases h : x.tmod d < 0
  · rw [if_pos h, if_pos (by omega)]
  · rw [if_neg h, if_neg (by omega)]

theorem ceil_le (x d : Int) (hd : 1 ≤ d) : 0 ≤ -(-x / d) - x / d ∧ -(-x / d) - x / d ≤ 1 := by
  have h1 := Int.mul_ediv_add_emod x d
  have h2 := Int.emod_nonneg x (show d ≠ 0 by omega)
  have h3 := Int.emod_lt_of_pos x (show 0 < d by omega)
  have g1 := Int.mul_ediv_add_emod (-x) d
  have g2 := Int.emod_nonneg (-x) (show d ≠ 0 by omega)
  have g3 := Int.emod_lt_of_pos (-x) (show 0 < d by omega)
  generalize x / d = a at *
  generalize -x / d = b at *
  have e : d * (a + b) = d * a + d * b := Int.mul_add _ _ _
  have h5 : d * (a + b) ≤ 0 := by omega
  have h6 : -(2 * d) < d * (a + b) := by omega
  have h7 : a + b ≤ 0 := by
    apply Int.not_lt.1; intro hh
    have := Int.mul_pos (show 0 < d by omega) (show 0 < a + b by omega); omega
  have h8 : -2 < a + b := by
    apply Int.not_le.1; intro hh
    have := Int.mul_le_mul_of_nonneg_left hh (show 0 ≤ d by omega); omega
  omega

/-- How the canonical form comes about. -/
theorem mk_how (x y : Int) (hy : y ≠ 0) (h1 : x.natAbs ≤ 18446744073709551615) (h2 : y.natAbs ≤ 18446744073709551615) : ∃ g a b : Nat, x.natAbs.gcd y.natAbs = g ∧ (0 < (g : Int) ∧ (g : Int) ≤ 18446744073709551615) ∧ (x.natAbs : Int) / g = a ∧ (y.natAbs : Int) / g = b ∧ ((a : Int) ≤ 18446744073709551615 ∧ (b : Int) ≤ 18446744073709551615) ∧
    (1048576 < a ∨ 1048576 < b → mkE x y = 20 ∧ mkN x y = 0 ∧ mkD x y = 0) ∧
    (a ≤ 1048576 → b ≤ 1048576 → mkE x y = 0 ∧ mkD x y = b ∧ ((x < 0 ↔ y < 0) → mkN x y = a) ∧ (¬ (x < 0 ↔ y < 0) → mkN x y = -a)) := by
  have hg := gI_pos (x := x) hy
  refine ⟨gI x y, x.natAbs / gI x y, y.natAbs / gI x y, rfl, ⟨by omega, ?_⟩, by simp, by simp, ⟨by have := Nat.div_le_self x.natAbs (gI x y); omega, by have := Nat.div_le_self y.natAbs (gI x y); omega⟩, ?_, ?_⟩
  · have := Nat.le_of_dvd (by omega) (Nat.gcd_dvd_right x.natAbs y.natAbs)
    unfold gI; omega
  · intro h
    have he : mkE x y = 20 := by unfold mkE; rw [if_neg hy, if_pos h]
    exact ⟨he, mk_bad (by omega)⟩
  · intro h3 h4
    have he : mkE x y = 0 := by unfold mkE; rw [if_neg hy, if_neg (by omega)]
    refine ⟨he, by unfold mkD; rw [if_pos he], fun h => by unfold mkN; rw [if_pos he, if_pos h], fun h => by unfold mkN; rw [if_pos he, if_neg h]⟩
end Go.Proofs.YtokapficojgkgaaDoor.Pl
