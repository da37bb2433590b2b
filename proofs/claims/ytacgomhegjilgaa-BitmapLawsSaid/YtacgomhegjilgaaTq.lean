/- Plain facts on normal lists: counting, ranks, neighbours. -/
import Derived.Test.YtacgomhegjilgaaTp
namespace Go.Proofs.Ytacgomhegjilgaa.Ts

/-- How many intervals, from the first one on, satisfy a condition. -/
def cw (p : Iv → Bool) (L : List Iv) : Nat := (L.takeWhile p).length
theorem cw_le (p : Iv → Bool) (L : List Iv) : cw p L ≤ L.length := by
  unfold cw
  have := List.takeWhile_append_dropWhile (p := p) (l := L)
  have h2 := congrArg List.length this
  rw [List.length_append] at h2; omega
theorem cw_cons_true {p : Iv → Bool} {x : Iv} {L : List Iv} (h : p x = true) : cw p (x :: L) = cw p L + 1 := by
  unfold cw; rw [List.takeWhile_cons_of_pos h, List.length_cons]
theorem cw_cons_false {p : Iv → Bool} {x : Iv} {L : List Iv} (h : p x = false) : cw p (x :: L) = 0 := by
  unfold cw; rw [List.takeWhile_cons_of_neg (by simp [h])]; rfl
theorem cw_lt {p : Iv → Bool} {L : List Iv} (i : Nat) (h : i < cw p L) : ∃ hi : i < L.length, p L[i] = true := by
  induction L generalizing i with
  | nil => simp [cw] at h
  | cons x L ih =>
    cases hx : p x with
    | false => rw [cw_cons_false hx] at h; omega
    | true =>
      rw [cw_cons_true hx] at h
      cases i with
      | zero => exact ⟨by simp, hx⟩
      | succ i =>
        obtain ⟨hi, hp⟩ := ih i (by omega)
        exact ⟨by simp; omega, by simpa using hp⟩
theorem cw_at {p : Iv → Bool} {L : List Iv} (h : cw p L < L.length) : p L[cw p L] = false := by
  induction L with
  | nil => simp at h
  | cons x L ih =>
    cases hx : p x with
    | false =>
      have e := cw_cons_false (L := L) hx
      simp only [e]
      simpa using hx
    | true =>
      have e := cw_cons_true (L := L) hx
      simp only [e] at h ⊢
      simpa using ih (by simpa using h)
/-- A number is the count if the condition holds below it and not there. -/
theorem cw_eq {p : Iv → Bool} {L : List Iv} {k : Nat} (hk : k ≤ L.length) (h1 : ∀ i (hi : i < L.length), i < k → p L[i] = true) (h2 : ∀ hi : k < L.length, p L[k] = false) : cw p L = k := by
  rcases Nat.lt_trichotomy (cw p L) k with h | h | h
  · have hl : cw p L < L.length := by omega
    have a := cw_at hl
    rw [h1 _ hl h] at a
    exact absurd a (by simp)
  · exact h
  · obtain ⟨hi, a⟩ := cw_lt k h
    rw [h2 hi] at a
    exact absurd a (by simp)
/-- How many intervals end by a number. -/
def cE (n : Int) (L : List Iv) : Nat := cw (fun x => decide (x.2 ≤ n)) L
/-- How many intervals begin by a number. -/
def cB (n : Int) (L : List Iv) : Nat := cw (fun x => decide (x.1 ≤ n)) L
theorem cE_lt {n : Int} {L : List Iv} (i : Nat) (h : i < cE n L) : ∃ hi : i < L.length, L[i].2 ≤ n := by
  obtain ⟨hi, a⟩ := cw_lt i h
  exact ⟨hi, of_decide_eq_true a⟩
theorem cE_at {n : Int} {L : List Iv} (h : cE n L < L.length) : n < L[cE n L].2 := by
  have := of_decide_eq_false (cw_at h)
  have e : L[cw (fun x => decide (x.2 ≤ n)) L] = L[cE n L] := rfl
  rw [e] at this
  omega
theorem Nrm.lt {L : List Iv} (h : Nrm L) (i j : Nat) (hij : i < j) (hj : j < L.length) : L[i].2 < L[j].1 :=
  List.pairwise_iff_getElem.1 h.2 i j (by omega) hj hij
theorem Nrm.pos {L : List Iv} (h : Nrm L) (i : Nat) (hi : i < L.length) : L[i].1 < L[i].2 := h.1 _ (List.getElem_mem hi)
/-- Whether a number is an element: by one look. -/
theorem in_cE {L : List Iv} (h : Nrm L) (n : Int) : In n L ↔ ∃ hi : cE n L < L.length, L[cE n L].1 ≤ n := by
  constructor
  · rintro ⟨x, hx, hn⟩
    obtain ⟨i, hi, rfl⟩ := List.getElem_of_mem hx
    have hle : cE n L ≤ i := by
      rcases Nat.lt_or_ge i (cE n L) with hc | hc
      · obtain ⟨_, a⟩ := cE_lt i hc; omega
      · exact hc
    refine ⟨by omega, ?_⟩
    rcases Nat.lt_or_ge (cE n L) i with hc | hc
    · have a := h.lt _ _ hc hi
      have b := h.pos (cE n L) (by omega)
      omega
    · have e : cE n L = i := by omega
      simp only [e]; exact hn.1
  · rintro ⟨hi, hn⟩
    exact ⟨_, List.getElem_mem hi, hn, cE_at hi⟩
/-- The number of elements that are less than a number: the reference's sum. -/
def rk (n : Int) (L : List Iv) : Int := (L.map fun x => if x.1 < n then min n x.2 - x.1 else 0).sum
def len (L : List Iv) : Int := (L.map fun x => x.2 - x.1).sum
theorem rk_cons (n : Int) (x : Iv) (L : List Iv) : rk n (x :: L) = (if x.1 < n then min n x.2 - x.1 else 0) + rk n L := by simp [rk]
theorem len_cons (x : Iv) (L : List Iv) : len (x :: L) = (x.2 - x.1) + len L := by simp [len]
theorem rk_far (n : Int) (L : List Iv) (h : ∀ x ∈ L, n ≤ x.1) : rk n L = 0 := by
  induction L with
  | nil => rfl
  | cons x L ih =>
    have := h x (List.mem_cons_self ..)
    rw [rk_cons, if_neg (by omega), ih (fun y hy => h y (List.mem_cons_of_mem _ hy))]; rfl
theorem rk_full (n : Int) (L : List Iv) (h : ∀ x ∈ L, x.1 < x.2 ∧ x.2 ≤ n) : rk n L = len L := by
  induction L with
  | nil => rfl
  | cons x L ih =>
    obtain ⟨a, b⟩ := h x (List.mem_cons_self ..)
    rw [rk_cons, len_cons, if_pos (by omega), ih (fun y hy => h y (List.mem_cons_of_mem _ hy))]
    omega
/-- The rank by one look: the intervals that end by n, and a part of the next one. -/
theorem rk_cE {L : List Iv} (h : Nrm L) (n : Int) : rk n L = len (L.take (cE n L)) + (if hi : cE n L < L.length then (if L[cE n L].1 < n then n - L[cE n L].1 else 0) else 0) := by
  induction L with
  | nil => rfl
  | cons x L ih =>
    obtain ⟨hL, hx, hf⟩ := h.tail
    rw [rk_cons]
    by_cases he : x.2 ≤ n
    · have e : cE n (x :: L) = cE n L + 1 := cw_cons_true (by simpa using he)
      rw [if_pos (by omega), ih hL]
      simp only [e, List.take_succ_cons, len_cons, List.length_cons, Nat.add_lt_add_iff_right, List.getElem_cons_succ]
      omega
    · have e : cE n (x :: L) = 0 := cw_cons_false (by simpa using he)
      rw [rk_far n L (fun y hy => by have := hf y hy; omega)]
      simp only [e, List.take_zero, List.length_cons, Nat.zero_lt_succ, dif_pos, List.getElem_cons_zero]
      have : len [] = 0 := rfl
      rw [this]
      split <;> omega
/-- The neighbours: the reference's walk finds the intervals that the program's counts name. -/
def nxt (n : Int) (L : List Iv) : Int × Bool := if hi : cE n L < L.length then (max n L[cE n L].1, true) else (0, false)
def prv (n : Int) (L : List Iv) : Int × Bool := if hi : 0 < cB n L ∧ cB n L - 1 < L.length then (min n (L[cB n L - 1].2 - 1), true) else (0, false)
end Go.Proofs.Ytacgomhegjilgaa.Ts
