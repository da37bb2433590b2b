/- Plain facts: counters by rank, as the law makes them. -/
import Derived.Test.YtnpjakgdfjaglaaHs
namespace Go.Proofs.Ytnpjakgdfjaglaa
open Go

/-- A counter put at its rank. -/
def insR : List Ct → Ct → List Ct
  | [], x => [x]
  | y :: D, x => if rkl y x = true then y :: insR D x else x :: y :: D
theorem insR_at {D : List Ct} {x : Ct} (k : Nat) (hk : k ≤ D.length) (h : ∀ i (hi : i < D.length), i < k → rkl D[i] x = true) (h2 : ∀ (hl : k < D.length), rkl D[k] x = false) : insR D x = D.take k ++ x :: D.drop k := by
  induction k generalizing D with
  | zero =>
    cases D with
    | nil => rfl
    | cons y D =>
      have : rkl y x = false := h2 (by simp)
      rw [insR, if_neg (by rw [this]; decide)]; rfl
  | succ k ih =>
    cases D with
    | nil => simp at hk
    | cons y D =>
      have h0 : rkl y x = true := h 0 (by simp) (by omega)
      rw [insR, if_pos h0, List.take_succ_cons, List.drop_succ_cons, List.cons_append]
      rw [ih (by simpa using hk) (fun i hi hik => h (i + 1) (by simpa using hi) (by omega)) (fun hl => h2 (by simpa using hl))]
theorem insR_perm (D : List Ct) (x : Ct) : (insR D x).Perm (x :: D) := by
  induction D with
  | nil => exact List.Perm.refl _
  | cons y D ih =>
    rw [insR]
    split
    · exact (ih.cons y).trans (List.Perm.swap x y D)
    · exact List.Perm.refl _
theorem rk_asymm {a b : Ct} (h : rkl a b = true) : rkl b a = false := by
  cases k : rkl b a with
  | false => rfl
  | true => have := rk_trans h k; rw [rk_irrefl] at this; cases this
theorem insR_rkd {D L : List Ct} (h : Rkd D L) (x : Ct) : Rkd (insR D x) (L ++ [x]) := by
  refine ⟨(insR_perm D x).trans ((h.1.cons x).trans (List.perm_append_singleton x L).symm), ?_⟩
  have h2 := h.2
  clear h
  induction D with
  | nil => exact List.pairwise_singleton _ _
  | cons y D ih =>
    obtain ⟨a1, a2⟩ := List.pairwise_cons.1 h2
    rw [insR]
    by_cases e : rkl y x = true
    · rw [if_pos e]
      refine List.pairwise_cons.2 ⟨fun z hz => ?_, ih a2⟩
      rcases List.mem_cons.1 ((insR_perm D x).mem_iff.1 hz) with hz | hz
      · rw [hz]; exact rk_asymm e
      · exact a1 z hz
    · rw [if_neg e]
      have e : rkl y x = false := by simpa using e
      refine List.pairwise_cons.2 ⟨fun z hz => ?_, h2⟩
      rcases List.mem_cons.1 hz with hz | hz
      · rw [hz]; exact e
      · exact rk_ntrans (a1 z hz) e
/-- The counters by rank, one put after another. -/
def topL (l : List Ct) : List Ct := l.foldl insR []
theorem top_snoc (l : List Ct) (x : Ct) : topL (l ++ [x]) = insR (topL l) x := by rw [topL, List.foldl_append]; rfl
theorem top_rkd (l : List Ct) : Rkd (topL l) l := by
  have : ∀ (l D L : List Ct), Rkd D L → Rkd (l.foldl insR D) (L ++ l) := by
    intro l
    induction l with
    | nil => intro D L h; rw [List.append_nil]; exact h
    | cons x l ih => intro D L h; have := ih _ _ (insR_rkd h x); rw [List.append_assoc] at this; exact this
  exact this l [] [] ⟨List.Perm.refl _, List.Pairwise.nil⟩
theorem top_eq (l : List Ct) : topL l = rkS l := rkd_uniq (top_rkd l) (rkS_ok l)
theorem top_len (l : List Ct) : (topL l).length = l.length := (top_rkd l).1.length_eq
/-- Those of the first counters whose counts are at least a number. -/
def lsW (D : List Ct) (n : Int) : List Ct := D.takeWhile fun p => decide (n ≤ p.2)
theorem rk_counts {x y : Ct} (h : rkl y x = false) : y.2 ≤ x.2 := by
  unfold rkl at h
  simp at h
  exact h.1
theorem ls_filter {D L : List Ct} (h : Rkd D L) (n : Int) : D.filter (fun p => !decide (p.2 < n)) = lsW D n := by
  have h2 := h.2
  clear h
  induction D with
  | nil => rfl
  | cons y D ih =>
    obtain ⟨a1, a2⟩ := List.pairwise_cons.1 h2
    rw [lsW, List.takeWhile_cons, List.filter_cons]
    by_cases e : n ≤ y.2
    · rw [if_pos (by simpa using e), if_pos (by simpa using e), ih a2]; rfl
    · rw [if_neg (by simpa using e), if_neg (by simpa using e), List.filter_eq_nil_iff]
      intro p hp
      have := rk_counts (a1 p hp)
      simp; omega
theorem ls_take {D : List Ct} (n : Int) (k : Nat) (hk : k ≤ D.length) (h : ∀ i (hi : i < D.length), i < k → n ≤ D[i].2) (h2 : ∀ (hl : k < D.length), D[k].2 < n) : lsW D n = D.take k := by
  induction k generalizing D with
  | zero =>
    cases D with
    | nil => rfl
    | cons y D =>
      have : y.2 < n := h2 (by simp)
      rw [lsW, List.takeWhile_cons, if_neg (by simp; omega)]; rfl
  | succ k ih =>
    cases D with
    | nil => simp at hk
    | cons y D =>
      have h0 : n ≤ y.2 := h 0 (by simp) (by omega)
      rw [lsW, List.takeWhile_cons, if_pos (by simpa using h0), List.take_succ_cons]
      congr 1
      exact ih (by simpa using hk) (fun i hi hik => h (i + 1) (by simpa using hi) (by omega)) (fun hl => h2 (by simpa using hl))
/-- The count of a key among them. -/
theorem gt_ls {L : List Ct} (hS : Sd L) (n : Int) (k : ByteArray) : gt (lsW (rkS L) n) k = if n ≤ gt L k then gt L k else 0 := by
  have h := rkS_ok L
  rw [← ls_filter h]
  have hm : ∀ p, p ∈ (rkS L).filter (fun p => !decide (p.2 < n)) ↔ p ∈ L ∧ n ≤ p.2 := fun p => by
    rw [List.mem_filter, h.1.mem_iff]; simp
  by_cases hh : hs ((rkS L).filter fun p => !decide (p.2 < n)) k
  · obtain ⟨h1, h2⟩ := (hm _).1 (gt_mem hh)
    have h3 := gt_sd hS h1
    simp only at h2 h3
    rw [h3, if_pos h2]
  · rw [gt_none hh]
    split
    · rename_i h1
      by_cases hk : hs L k
      · exact absurd (mem_keys ((hm _).2 ⟨gt_mem hk, h1⟩)) hh
      · exact (gt_none hk).symm
    · rfl
end Go.Proofs.Ytnpjakgdfjaglaa
