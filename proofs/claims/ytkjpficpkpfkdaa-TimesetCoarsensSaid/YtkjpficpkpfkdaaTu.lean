/- Plain facts: the program's search by halves; neighbours, elements by rank. -/
import Derived.Test.YtkjpficpkpfkdaaTt
namespace Go.Proofs.Ytkjpficpkpfkdaa.Ts

theorem cE_iff {L : List Iv} (h : Nrm L) (n : Int) (i : Nat) (hi : i < L.length) : L[i].2 ≤ n ↔ i < cE n L := by
  constructor
  · intro hn
    rcases Nat.lt_or_ge i (cE n L) with hc | hc
    · exact hc
    · exfalso
      have hl : cE n L < L.length := by omega
      have a := cE_at hl
      rcases Nat.lt_or_ge (cE n L) i with hd | hd
      · have b := h.lt _ _ hd hi
        have c := h.pos i hi
        omega
      · have e : cE n L = i := by omega
        simp only [e] at a; omega
  · intro hc
    exact (cE_lt i hc).2
theorem cB_lt {n : Int} {L : List Iv} (i : Nat) (h : i < cB n L) : ∃ hi : i < L.length, L[i].1 ≤ n := by
  obtain ⟨hi, a⟩ := cw_lt i h
  exact ⟨hi, of_decide_eq_true a⟩
theorem cB_at {n : Int} {L : List Iv} (h : cB n L < L.length) : n < L[cB n L].1 := by
  have := of_decide_eq_false (cw_at h)
  have e : L[cw (fun x => decide (x.1 ≤ n)) L] = L[cB n L] := rfl
  rw [e] at this
  omega
theorem cB_iff {L : List Iv} (h : Nrm L) (n : Int) (i : Nat) (hi : i < L.length) : L[i].1 ≤ n ↔ i < cB n L := by
  constructor
  · intro hn
    rcases Nat.lt_or_ge i (cB n L) with hc | hc
    · exact hc
    · exfalso
      have hl : cB n L < L.length := by omega
      have a := cB_at hl
      rcases Nat.lt_or_ge (cB n L) i with hd | hd
      · have b := h.lt _ _ hd hi
        have c := h.pos (cB n L) hl
        omega
      · have e : cB n L = i := by omega
        simp only [e] at a; omega
  · intro hc
    exact (cB_lt i hc).2
/-- One step of the search by halves. -/
theorem half {lo hi k : Nat} (h : lo < hi) (hs : hi - lo < 2 ^ (k + 1)) : hi - ((lo + hi) / 2 + 1) < 2 ^ k ∧ (lo + hi) / 2 - lo < 2 ^ k ∧ lo ≤ (lo + hi) / 2 ∧ (lo + hi) / 2 < hi := by
  rw [Nat.pow_succ] at hs
  omega
theorem half_end {lo hi : Nat} (h : lo ≤ hi) (hs : hi - lo < 2 ^ 0) : lo = hi := by
  rw [Nat.pow_zero] at hs
  omega
/-- The reference's walks for neighbours end where the counts say. -/
theorem nxt_at {L : List Iv} {n : Int} {i : Nat} (hi : i < L.length) (h1 : ∀ j (hj : j < L.length), j < i → ¬ n < L[j].2) (h2 : n < L[i].2) : nxt n L = (max n L[i].1, true) := by
  have e : cE n L = i := cw_eq (by omega) (fun j hj hji => decide_eq_true (by have := h1 j hj hji; omega)) (fun _ => decide_eq_false (by omega))
  unfold nxt
  simp only [e]
  rw [dif_pos hi]
theorem nxt_none {L : List Iv} {n : Int} (h : ∀ j (hj : j < L.length), ¬ n < L[j].2) : nxt n L = (0, false) := by
  have e : cE n L = L.length := cw_eq (Nat.le_refl _) (fun j hj _ => decide_eq_true (by have := h j hj; omega)) (fun hi => absurd hi (by omega))
  unfold nxt
  rw [dif_neg (by omega)]
theorem prv_at {L : List Iv} (hL : Nrm L) {n : Int} {i : Nat} (hi : i < L.length) (h1 : ∀ j (hj : j < L.length), i < j → ¬ L[j].1 ≤ n) (h2 : L[i].1 ≤ n) : prv n L = (min n (L[i].2 - 1), true) := by
  have e : cB n L = i + 1 := cw_eq (by omega) (fun j hj hji => decide_eq_true (by
    rcases Nat.lt_or_ge j i with hc | hc
    · have a := hL.lt _ _ hc hi
      have b := hL.pos j hj
      omega
    · have e : j = i := by omega
      subst e; exact h2)) (fun hj => decide_eq_false (by have := h1 (i + 1) hj (by omega); omega))
  unfold prv
  simp only [e, Nat.add_sub_cancel]
  rw [dif_pos ⟨by omega, hi⟩]
theorem prv_none {L : List Iv} {n : Int} (h : ∀ j (hj : j < L.length), ¬ L[j].1 ≤ n) : prv n L = (0, false) := by
  have e : cB n L = 0 := cw_eq (Nat.zero_le _) (fun j _ hj => absurd hj (by omega)) (fun hi => decide_eq_false (by have := h 0 hi; omega))
  unfold prv
  rw [dif_neg (by omega)]
/-- The element with a rank. -/
def nth (k : Int) : List Iv → Int × Bool
  | [] => (0, false)
  | x :: L => if k < x.2 - x.1 then (x.1 + k, true) else nth (k - (x.2 - x.1)) L
theorem len_nonneg {L : List Iv} (h : ∀ x ∈ L, x.1 < x.2) : 0 ≤ len L := by
  induction L with
  | nil => exact Int.le_refl _
  | cons x L ih =>
    have a := h x (List.mem_cons_self ..)
    have b := ih (fun y hy => h y (List.mem_cons_of_mem _ hy))
    rw [len_cons]; omega
theorem nth_spec {L : List Iv} (h : Nrm L) (k : Int) (hk : 0 ≤ k) : (k < len L → ∃ x, nth k L = (x, true) ∧ In x L ∧ rk x L = k) ∧ (len L ≤ k → nth k L = (0, false)) := by
  induction L generalizing k with
  | nil =>
    have e : len [] = 0 := rfl
    exact ⟨fun h => by rw [e] at h; omega, fun _ => rfl⟩
  | cons x L ih =>
    obtain ⟨hL, hx, hf⟩ := h.tail
    rw [len_cons]
    have hn := len_nonneg hL.1
    by_cases hk2 : k < x.2 - x.1
    · have e : nth k (x :: L) = (x.1 + k, true) := by unfold nth; rw [if_pos hk2]
      refine ⟨fun _ => ⟨x.1 + k, e, In.cons.2 (Or.inl ⟨by omega, by omega⟩), ?_⟩, fun hl => by omega⟩
      rw [rk_cons, rk_far _ L (fun y hy => by have := hf y hy; omega)]
      split <;> omega
    · have e : nth k (x :: L) = nth (k - (x.2 - x.1)) L := by
        show (if k < x.2 - x.1 then _ else _) = _
        rw [if_neg hk2]
      obtain ⟨a, b⟩ := ih hL (k - (x.2 - x.1)) (by omega)
      refine ⟨fun hl => ?_, fun hl => by rw [e]; exact b (by omega)⟩
      obtain ⟨y, h1, h2, h3⟩ := a (by omega)
      refine ⟨y, by rw [e]; exact h1, In.cons.2 (Or.inr h2), ?_⟩
      obtain ⟨z, hz, hz1, _⟩ := h2
      have hzx := hf z hz
      rw [rk_cons, if_pos (by omega), h3]
      omega
end Go.Proofs.Ytkjpficpkpfkdaa.Ts
