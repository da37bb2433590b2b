/- Plain facts: counts that are added, made less, the summary behind Add. -/
import Derived.Test.YtnpjakgdfjaglaaGa
namespace Go.Proofs.Ytnpjakgdfjaglaa
open Go

theorem sd_snoc {A : List Ct} {p : Ct} (h : Sd (A ++ [p])) : Sd A ∧ ∀ q ∈ A, bl q.1 p.1 = true := by
  obtain ⟨h1, _, h3⟩ := List.pairwise_append.1 h
  exact ⟨h1, fun q hq => h3 q hq p (by simp)⟩
theorem pt_end {A : List Ct} {k : ByteArray} (h : ∀ q ∈ A, bl q.1 k = true) (v : Int) : pt A k v = A ++ [(k, v)] := by
  induction A with
  | nil => rfl
  | cons a A ih =>
    have ha := h a (by simp)
    rw [pt, if_neg (bl_not ha), if_pos ha, ih fun q hq => h q (by simp [hq])]; rfl
theorem hs_end {A : List Ct} {k : ByteArray} (h : ∀ q ∈ A, bl q.1 k = true) : ¬ hs A k := fun e => by
  obtain ⟨q, hq, rfl⟩ := List.mem_map.1 e
  have := h q hq; rw [bl_irrefl] at this; cases this

/-- More of a key. -/
def adC (L : List Ct) (k : ByteArray) (n : Int) : List Ct := pt L k (gt L k + n)
/-- The counts of some counters. -/
def coC (l : List Ct) : List Ct := l.foldl (fun L x => adC L x.1 x.2) []
theorem coC_snoc (l : List Ct) (x : Ct) : coC (l ++ [x]) = adC (coC l) x.1 x.2 := by rw [coC, List.foldl_append]; rfl
theorem coC_take (l : List Ct) {i : Nat} (h : i < l.length) : coC (l.take (i + 1)) = adC (coC (l.take i)) l[i].1 l[i].2 := by
  rw [List.take_succ_eq_append_getElem h, coC_snoc]
theorem sd_adC {L : List Ct} (hS : Sd L) (k : ByteArray) (n : Int) : Sd (adC L k n) := sd_pt hS _ _
theorem sd_foldC (l : List Ct) : ∀ {L : List Ct}, Sd L → Sd (l.foldl (fun L x => adC L x.1 x.2) L) := by
  induction l with
  | nil => exact fun h => h
  | cons x l ih => exact fun h => ih (sd_adC h _ _)
theorem sd_coC (l : List Ct) : Sd (coC l) := sd_foldC l List.Pairwise.nil
theorem hs_coC (l : List Ct) (k : ByteArray) : hs (coC l) k ↔ hs l k := by
  have : ∀ (l L : List Ct), hs (l.foldl (fun L x => adC L x.1 x.2) L) k ↔ hs L k ∨ hs l k := by
    intro l
    induction l with
    | nil => intro L; simp [hs]
    | cons x l ih =>
      intro L
      rw [List.foldl_cons, ih, adC, hs_pt, hs_cons]
      constructor
      · rintro ((h | h) | h)
        · exact .inr (.inl h)
        · exact .inl h
        · exact .inr (.inr h)
      · rintro (h | h | h)
        · exact .inl (.inr h)
        · exact .inl (.inl h)
        · exact .inr h
  rw [coC, this]; simp [hs]
theorem len_adC {L : List Ct} (hS : Sd L) (k : ByteArray) (n : Int) : (adC L k n).length ≤ L.length + 1 := by
  rw [adC, len_pt hS]; split <;> omega
theorem len_coC (l : List Ct) : (coC l).length ≤ l.length := by
  have : ∀ (l L : List Ct), Sd L → (l.foldl (fun L x => adC L x.1 x.2) L).length ≤ L.length + l.length := by
    intro l
    induction l with
    | nil => intro L _; simp
    | cons x l ih => intro L h; rw [List.foldl_cons, List.length_cons]; have := ih _ (sd_adC h x.1 x.2); have := len_adC h x.1 x.2; omega
  have h := this l [] List.Pairwise.nil
  rw [List.length_nil, Nat.zero_add] at h
  exact h
/-- Counters in order are their own counts. -/
theorem coC_sd {l : List Ct} (h : Sd l) : coC l = l := by
  have : ∀ (n : Nat), n ≤ l.length → coC (l.take n) = l.take n := by
    intro n
    induction n with
    | zero => intro _; simp [coC]
    | succ n ih =>
      intro hn
      have e : l.take (n + 1) = l.take n ++ [l[n]] := List.take_succ_eq_append_getElem (show n < l.length by omega)
      have h0 : Sd (l.take n ++ [l[n]] ++ l.drop (n + 1)) := by rw [← e, List.take_append_drop]; exact h
      obtain ⟨_, h2⟩ := sd_snoc (List.pairwise_append.1 h0).1
      rw [e, coC_snoc, ih (by omega), adC, gt_none (hs_end h2), pt_end h2, Int.zero_add]
  have h1 := this l.length (Nat.le_refl _)
  rwa [List.take_length] at h1
/-- The counts together. -/
def sm : List Ct → Int
  | [] => 0
  | p :: L => p.2 + sm L
theorem sm_append (A B : List Ct) : sm (A ++ B) = sm A + sm B := by
  induction A with
  | nil => simp [sm]
  | cons a A ih => rw [List.cons_append, sm, sm, ih]; omega
/-- No count is below 0. -/
def Nn (L : List Ct) : Prop := ∀ p ∈ L, 0 ≤ p.2
theorem sm_nn {L : List Ct} (h : Nn L) : 0 ≤ sm L := by
  induction L with
  | nil => exact Int.le_refl _
  | cons p L ih =>
    rw [sm]
    have := h p (by simp)
    have := ih fun q hq => h q (by simp [hq])
    omega
theorem gt_sm {L : List Ct} (h : Nn L) (k : ByteArray) : 0 ≤ gt L k ∧ gt L k ≤ sm L := by
  induction L with
  | nil => exact ⟨Int.le_refl _, Int.le_refl _⟩
  | cons p L ih =>
    have h1 := h p (by simp)
    have h2 : Nn L := fun q hq => h q (by simp [hq])
    have h3 := sm_nn h2
    obtain ⟨h4, h5⟩ := ih h2
    rw [gt, sm]
    split <;> constructor <;> omega
theorem mem_sm {L : List Ct} (h : Nn L) {p : Ct} (hp : p ∈ L) : p.2 ≤ sm L := by
  induction L with
  | nil => simp at hp
  | cons q L ih =>
    have h1 := h q (by simp)
    have h2 : Nn L := fun q hq => h q (by simp [hq])
    have h3 := sm_nn h2
    rw [sm]
    rcases List.mem_cons.1 hp with rfl | hp
    · omega
    · have := ih h2 hp; omega
theorem sm_adC (L : List Ct) (hS : Sd L) (k : ByteArray) (n : Int) : sm (adC L k n) = sm L + n := by
  have : ∀ (L : List Ct) (v : Int), Sd L → sm (pt L k v) = sm L - gt L k + v := by
    intro L v
    induction L with
    | nil => intro _; simp [pt, sm, gt]
    | cons p L ih =>
      intro hS
      obtain ⟨h1, h2⟩ := List.pairwise_cons.1 hS
      rw [pt, gt]
      by_cases e : p.1 = k
      · rw [if_pos e, if_pos e, sm, sm]; show v + sm L = _; omega
      · rw [if_neg e, if_neg e]
        by_cases hb : bl p.1 k = true
        · rw [if_pos hb, sm, sm, ih h2]; omega
        · rw [if_neg hb, sm, sm]
          have : gt L k = 0 := gt_none fun hh => by
            obtain ⟨q, hq, eq⟩ := List.mem_map.1 hh
            exact hb (by rw [← eq]; exact h1 q hq)
          show v + (p.2 + sm L) = _
          omega
  rw [adC, this L _ hS]; omega
theorem nn_pt {L : List Ct} (h : Nn L) (k : ByteArray) {v : Int} (hv : 0 ≤ v) : Nn (pt L k v) := by
  induction L with
  | nil => intro p hp; rw [pt, List.mem_singleton] at hp; rw [hp]; exact hv
  | cons q L ih =>
    have h2 : Nn L := fun q hq => h q (by simp [hq])
    intro p hp
    rw [pt] at hp
    by_cases e : q.1 = k
    · rw [if_pos e] at hp
      rcases List.mem_cons.1 hp with rfl | hp
      · exact hv
      · exact h2 p hp
    · rw [if_neg e] at hp
      by_cases hb : bl q.1 k = true
      · rw [if_pos hb] at hp
        rcases List.mem_cons.1 hp with rfl | hp
        · exact h p (by simp)
        · exact ih h2 p hp
      · rw [if_neg hb] at hp
        rcases List.mem_cons.1 hp with rfl | hp
        · exact hv
        · exact h p hp
theorem nn_adC {L : List Ct} (h : Nn L) (k : ByteArray) {n : Int} (hn : 0 ≤ n) : Nn (adC L k n) :=
  nn_pt h k (by have := (gt_sm h k).1; omega)
theorem nn_take {L : List Ct} (h : Nn L) (i : Nat) : Nn (L.take i) := fun p hp => h p (List.mem_of_mem_take hp)
theorem nn_coC {l : List Ct} (h : Nn l) : Nn (coC l) := by
  have : ∀ (l L : List Ct), Nn l → Nn L → Nn (l.foldl (fun L x => adC L x.1 x.2) L) := by
    intro l
    induction l with
    | nil => intro L _ h; exact h
    | cons x l ih => intro L h h'; exact ih _ (fun q hq => h q (by simp [hq])) (nn_adC h' _ (h x (by simp)))
  exact this l [] h (fun p hp => by simp at hp)
theorem sm_coC (l : List Ct) : sm (coC l) = sm l := by
  have : ∀ (l L : List Ct), Sd L → sm (l.foldl (fun L x => adC L x.1 x.2) L) = sm L + sm l := by
    intro l
    induction l with
    | nil => intro L _; simp [sm]
    | cons x l ih => intro L h; rw [List.foldl_cons, ih _ (sd_adC h _ _), sm_adC _ h, sm]; omega
  rw [coC, this l [] List.Pairwise.nil]; simp [sm]
theorem sm_take {L : List Ct} (h : Nn L) (i : Nat) : sm (L.take i) ≤ sm L := by
  have e := sm_append (L.take i) (L.drop i)
  rw [List.take_append_drop] at e
  have : 0 ≤ sm (L.drop i) := sm_nn fun p hp => h p (List.mem_of_mem_drop hp)
  omega

/-- All counts are made less; those that are not above 0 then go. -/
def loC (L : List Ct) (b : Int) : List Ct := (L.map fun p => (p.1, p.2 - b)).filter fun p => decide (0 < p.2)
theorem loC_snoc (L : List Ct) (p : Ct) (b : Int) : loC (L ++ [p]) b = loC L b ++ (if 0 < p.2 - b then [(p.1, p.2 - b)] else []) := by
  rw [loC, List.map_append, List.filter_append]
  show loC L b ++ _ = _
  rw [List.map_cons, List.map_nil, List.filter_cons, List.filter_nil]
  simp
theorem loC_mem {L : List Ct} {b : Int} {q : Ct} (h : q ∈ loC L b) : 0 < q.2 ∧ (q.1, q.2 + b) ∈ L := by
  rw [loC, List.mem_filter, List.mem_map] at h
  obtain ⟨⟨p, hp, rfl⟩, h2⟩ := h
  refine ⟨by simpa using h2, ?_⟩
  rw [show p.2 - b + b = p.2 by omega]; exact hp
theorem sd_lo {A B : List Ct} (h : Sd (A ++ B)) (b : Int) : Sd (loC A b ++ B) := by
  obtain ⟨h1, h2, h3⟩ := List.pairwise_append.1 h
  refine List.pairwise_append.2 ⟨(List.pairwise_map.2 (h1.imp fun h => h)).filter _, h2, fun p hp q hq => h3 _ (loC_mem hp).2 q hq⟩
theorem sd_loC {A : List Ct} (h : Sd A) (b : Int) : Sd (loC A b) := by
  have := sd_lo (A := A) (B := []) (by rw [List.append_nil]; exact h) b
  rwa [List.append_nil] at this
theorem len_loC (L : List Ct) (b : Int) : (loC L b).length ≤ L.length := by
  rw [loC]; exact Nat.le_trans (List.length_filter_le _ _) (by simp)
theorem sm_loC {L : List Ct} (h : Nn L) {b : Int} (hb : 0 ≤ b) : sm (loC L b) ≤ sm L := by
  induction L with
  | nil => exact Int.le_refl _
  | cons p L ih =>
    have h1 := h p (by simp)
    have h2 := ih fun q hq => h q (by simp [hq])
    rw [loC, List.map_cons, List.filter_cons]
    split
    · rw [sm, sm]; show p.2 - b + sm (loC L b) ≤ _; omega
    · rw [sm]; show sm (loC L b) ≤ _; omega
theorem nn_loC (L : List Ct) (b : Int) : Nn (loC L b) := fun p hp => by have := (loC_mem hp).1; omega

/-- The least of a number and of all counts. -/
def leC (L : List Ct) (n : Int) : Int := L.foldl (fun n p => min n p.2) n
theorem leC_take (L : List Ct) (n : Int) {i : Nat} (h : i < L.length) : leC (L.take (i + 1)) n = min (leC (L.take i) n) L[i].2 := by
  rw [List.take_succ_eq_append_getElem h, leC, List.foldl_append]; rfl
theorem leC_le (L : List Ct) (n : Int) : leC L n ≤ n := by
  induction L generalizing n with
  | nil => exact Int.le_refl _
  | cons p L ih => exact Int.le_trans (ih _) (Int.min_le_left _ _)
theorem leC_nn {L : List Ct} (h : Nn L) {n : Int} (hn : 0 ≤ n) : 0 ≤ leC L n := by
  induction L generalizing n with
  | nil => exact hn
  | cons p L ih => exact ih (fun q hq => h q (by simp [hq])) (by have := h p (by simp); show 0 ≤ min n p.2; omega)

/-- A summary: how many counters it can have, the total, what is lost, the counters. -/
structure Su where
  mo : Int
  to : Int
  lo : Int
  cs : List Ct
/-- A summary to which a key is added. -/
noncomputable def adS (s : Su) (k : ByteArray) (w : Int) : Su :=
  if ¬ hs s.cs k ∧ s.mo ≤ s.cs.length then
    let b := leC s.cs w
    ⟨s.mo, s.to + w, s.lo + b, if b < w then adC (loC s.cs b) k (w - b) else loC s.cs b⟩
  else ⟨s.mo, s.to + w, s.lo, adC s.cs k w⟩
end Go.Proofs.Ytnpjakgdfjaglaa
