/- Plain facts that join the simplest fraction and the first denominator with a numerator in between. -/
import Derived.Test.YtmhheepnojbgoaaPlB
import Derived.Test.YtmhheepnojbgoaaRBet
namespace Go.Proofs.Ytmhheepnojbgoaa
open Pl

theorem lo_iff (n d y x : Int) (hd : 1 ≤ d) : lo n d y ≤ x ↔ y * n < x * d := by
  unfold lo
  rw [← Int.ediv_lt_iff_lt_mul (show 0 < d by omega)]
  omega
theorem hi_iff (p q y x : Int) (hq : 1 ≤ q) : x ≤ hi p q y ↔ x * q < y * p := by
  unfold hi
  have h := Int.ediv_lt_iff_lt_mul (a := -y * p) (b := -x) (c := q) (show 0 < q by omega)
  have e1 : -y * p = -(y * p) := Int.neg_mul _ _
  have e2 : -x * q = -(x * q) := Int.neg_mul _ _
  omega

/-- What the proof of the law needs to know of the simplest fraction X/D. -/
structure Best (n d p q X : Int) (D : Nat) : Prop where
  D1 : 1 ≤ D
  D2 : D ≤ 2097152
  X1 : -2097152 ≤ X
  X2 : X ≤ 2097152
  less : n * D < X * d
  more : X * q < p * D
  gcd : Nat.gcd X.natAbs D = 1
  no : ∀ y : Nat, 1 ≤ y → y < D → hi p q y < lo n d y
  fits : lo n d D ≤ hi p q D
  pick : (lo n d D ≤ 0 ∧ 0 ≤ hi p q D ∧ X = 0) ∨ (lo n d D ≤ 0 ∧ hi p q D < 0 ∧ X = hi p q D) ∨ (0 < lo n d D ∧ X = lo n d D)

theorem best_of {n d p q X : Int} {D : Nat} (hd : 1 ≤ d) (hq : 1 ≤ q) (D1 : 1 ≤ D) (D2 : D ≤ 2097152) (X1 : -2097152 ≤ X) (X2 : X ≤ 2097152) (h1 : n * D < X * d) (h2 : X * q < p * D) (hg : Nat.gcd X.natAbs D = 1)
    (hmin : ∀ x y : Int, 1 ≤ y → n * y < x * d → x * q < p * y → (D : Int) ≤ y)
    (hpick : (lo n d D ≤ 0 ∧ 0 ≤ hi p q D ∧ X = 0) ∨ (lo n d D ≤ 0 ∧ hi p q D < 0 ∧ X = hi p q D) ∨ (0 < lo n d D ∧ X = lo n d D)) : Best n d p q X D := by
  have a1 : (D : Int) * n = n * D := Int.mul_comm _ _
  have a2 : (D : Int) * p = p * D := Int.mul_comm _ _
  have b1 : lo n d D ≤ X := (lo_iff n d D X hd).2 (by omega)
  have b2 : X ≤ hi p q D := (hi_iff p q D X hq).2 (by omega)
  refine ⟨D1, D2, X1, X2, h1, h2, hg, ?_, by omega, hpick⟩
  intro y hy hyD
  apply Int.not_le.1; intro hle
  have c1 := (lo_iff n d y (lo n d y) hd).1 (Int.le_refl _)
  have c2 := (hi_iff p q y (lo n d y) hq).1 hle
  have e1 : (y : Int) * n = n * y := Int.mul_comm _ _
  have e2 : (y : Int) * p = p * y := Int.mul_comm _ _
  have := hmin (lo n d y) y (by omega) (by omega) (by omega)
  omega

theorem best_zero {n d p q : Int} (hd : 1 ≤ d) (hq : 1 ≤ q) (hn : n < 0) (hp : 0 < p) : Best n d p q 0 1 := by
  have l := (lo_iff n d 1 0 hd).2 (by omega)
  have h := (hi_iff p q 1 0 hq).2 (by omega)
  refine best_of hd hq (by omega) (by omega) (by omega) (by omega) (by simp; omega) (by simp; omega) (by decide) ?_ (Or.inl ⟨l, h, rfl⟩)
  intro x y hy _ _; omega

theorem best_pos {n d p q : Int} (ho : okS n d p q) (hq : 1 ≤ q) (hs : d + q ≤ 2097152) (hs2 : n + p ≤ 2097152) : ∃ D : Nat, (sim 2097152 n d p q).2 = D ∧ Best n d p q (sim 2097152 n d p q).1 D := by
  obtain ⟨s1, s2, s3, s4, s5, s6, s7⟩ := sim_spec 2097152 n d p q ho (by omega)
  obtain ⟨hn, hd, -, -, -⟩ := ho
  have sg := sim_gcd s1 s2 s3 s4 s7
  generalize (sim 2097152 n d p q).1 = N at *
  obtain ⟨D, hD⟩ : ∃ D : Nat, (sim 2097152 n d p q).2 = D := ⟨(sim 2097152 n d p q).2.toNat, by omega⟩
  rw [hD] at s2 s3 s4 s6 s7 sg
  refine ⟨D, hD, ?_⟩
  have a1 : (D : Int) * n = n * D := Int.mul_comm _ _
  have a2 : (D : Int) * p = p * D := Int.mul_comm _ _
  have b1 : lo n d D ≤ N := (lo_iff n d D N hd).2 (by omega)
  have b2 : N ≤ hi p q D := (hi_iff p q D N hq).2 (by omega)
  have c1 := (lo_iff n d D (lo n d D) hd).1 (Int.le_refl _)
  have c2 := (hi_iff p q D (lo n d D) hq).1 (by omega)
  have m := (s7 (lo n d D) D s2 (by omega) (by omega)).2
  refine best_of hd hq (by omega) (by omega) (by omega) (by omega) s3 s4 (by simpa using sg) (fun x y hy h1 h2 => (s7 x y hy h1 h2).1) (Or.inr (Or.inr ⟨by omega, by omega⟩))

theorem best_neg {n d p q : Int} (ho : okS (-p) q (-n) d) (hd : 1 ≤ d) (hs : q + d ≤ 2097152) (hs2 : -p + -n ≤ 2097152) : ∃ D : Nat, (sim 2097152 (-p) q (-n) d).2 = D ∧ Best n d p q (-(sim 2097152 (-p) q (-n) d).1) D := by
  obtain ⟨s1, s2, s3, s4, s5, s6, s7⟩ := sim_spec 2097152 (-p) q (-n) d ho (by omega)
  obtain ⟨hp, hq, -, -, -⟩ := ho
  have sg := sim_gcd s1 s2 s3 s4 s7
  generalize (sim 2097152 (-p) q (-n) d).1 = N at *
  obtain ⟨D, hD⟩ : ∃ D : Nat, (sim 2097152 (-p) q (-n) d).2 = D := ⟨(sim 2097152 (-p) q (-n) d).2.toNat, by omega⟩
  rw [hD] at s2 s3 s4 s6 s7 sg
  refine ⟨D, hD, ?_⟩
  have a1 : (D : Int) * n = n * D := Int.mul_comm _ _
  have a2 : (D : Int) * p = p * D := Int.mul_comm _ _
  have e1 : -p * (D : Int) = -(p * D) := Int.neg_mul _ _
  have e2 : -n * (D : Int) = -(n * D) := Int.neg_mul _ _
  have e3 : -N * d = -(N * d) := Int.neg_mul _ _
  have e4 : -N * q = -(N * q) := Int.neg_mul _ _
  have b1 : lo n d D ≤ -N := (lo_iff n d D (-N) hd).2 (by omega)
  have b2 : -N ≤ hi p q D := (hi_iff p q D (-N) hq).2 (by omega)
  have c1 := (hi_iff p q D (hi p q D) hq).1 (Int.le_refl _)
  have c2 := (lo_iff n d D (hi p q D) hd).1 (by omega)
  have e5 : -(hi p q D) * q = -(hi p q D * q) := Int.neg_mul _ _
  have e6 : -(hi p q D) * d = -(hi p q D * d) := Int.neg_mul _ _
  have m := (s7 (-(hi p q D)) D s2 (by omega) (by omega)).2
  refine best_of hd hq (by omega) (by omega) (by omega) (by omega) (by omega) (by omega) (by simpa using sg) ?_ (Or.inr (Or.inl ⟨by omega, by omega, by omega⟩))
  intro x y hy h1 h2
  have f1 : -p * y = -(p * y) := Int.neg_mul _ _
  have f2 : -n * y = -(n * y) := Int.neg_mul _ _
  have f3 : -x * q = -(x * q) := Int.neg_mul _ _
  have f4 : -x * d = -(x * d) := Int.neg_mul _ _
  exact (s7 (-x) y hy (by omega) (by omega)).1

theorem mk_cop {X : Int} {D : Nat} (h1 : 1 ≤ D) (hg : Nat.gcd X.natAbs D = 1) (he : mkE X D = 0) : mkN X D = X ∧ mkD X D = D := by
  obtain ⟨a, b, g0, hx, hy, -, -, -, -, hd, hn⟩ := mk_parts (x := X) (y := (D : Int)) (by omega) he
  have e : gI X (D : Int) = 1 := by unfold gI; simpa using hg
  rw [e] at hx hy
  rw [hd, hn]
  constructor
  · split <;> omega
  · omega
end Go.Proofs.Ytmhheepnojbgoaa
