/- Plain facts: two lists of intervals combined, segment by segment. -/
import Derived.Test.YtacgomhegjilgaaTq
namespace Go.Proofs.Ytacgomhegjilgaa.Ts

def has (n : Int) (L : List Iv) : Bool := L.any fun x => decide (x.1 ≤ n) && decide (n < x.2)
theorem has_in (n : Int) (L : List Iv) : has n L = true ↔ In n L := by
  unfold has In
  rw [List.any_eq_true]
  simp only [Bool.and_eq_true, decide_eq_true_eq]
theorem has_eq {n m : Int} {L : List Iv} (h : In n L ↔ In m L) : has n L = has m L := by
  rw [Bool.eq_iff_iff, has_in, has_in]; exact h
/-- A bound of a list. -/
def Bd (v : Int) (L : List Iv) : Prop := ∃ x ∈ L, v = x.1 ∨ v = x.2
/-- Between two neighbouring bounds all integers belong to a list, or none. -/
theorem seg_const {L : List Iv} {lo hi n : Int} (hno : ∀ v, Bd v L → v ≤ lo ∨ hi ≤ v) (h1 : lo ≤ n) (h2 : n < hi) : In n L ↔ In lo L := by
  constructor
  · rintro ⟨x, hx, a, b⟩
    have p := hno x.1 ⟨x, hx, Or.inl rfl⟩
    exact ⟨x, hx, by omega, by omega⟩
  · rintro ⟨x, hx, a, b⟩
    have p := hno x.2 ⟨x, hx, Or.inr rfl⟩
    exact ⟨x, hx, by omega, by omega⟩
/-- The segments between neighbouring bounds that are kept. -/
def segs (keep : Int → Bool) : List Int → List Iv
  | [] => []
  | [_] => []
  | x :: y :: B => (if keep x then [(x, y)] else []) ++ segs keep (y :: B)
theorem segs_ge (keep : Int → Bool) (B : List Int) (x n : Int) (hs : (x :: B).Pairwise (· < ·)) (h : In n (segs keep (x :: B))) : x ≤ n := by
  induction B generalizing x with
  | nil => exact absurd h In.nil
  | cons y B ih =>
    obtain ⟨p1, p2⟩ := List.pairwise_cons.1 hs
    have hxy := p1 y (List.mem_cons_self ..)
    rcases In.append.1 h with h | h
    · by_cases hk : keep x
      · rw [if_pos hk] at h
        exact (In.one.1 h).1
      · rw [if_neg hk] at h
        exact absurd h In.nil
    · have := ih y p2 h; omega
theorem in_segs (f : Bool → Bool → Bool) (a b : List Iv) (B : List Int) (x : Int) (hs : (x :: B).Pairwise (· < ·)) (hb : ∀ v, Bd v a ∨ Bd v b → v ≤ x ∨ v ∈ B) (n : Int) (hn : x ≤ n) :
    In n (segs (fun t => f (has t a) (has t b)) (x :: B)) ↔ n < (x :: B).getLast (by simp) ∧ f (has n a) (has n b) = true := by
  induction B generalizing x with
  | nil =>
    constructor
    · intro h; exact absurd h In.nil
    · rintro ⟨h, _⟩
      simp at h; omega
  | cons y B ih =>
    obtain ⟨p1, p2⟩ := List.pairwise_cons.1 hs
    have hxy := p1 y (List.mem_cons_self ..)
    have hno : ∀ v, Bd v a ∨ Bd v b → v ≤ x ∨ y ≤ v := fun v hv => by
      rcases hb v hv with h | h
      · exact Or.inl h
      · rcases List.mem_cons.1 h with rfl | h
        · exact Or.inr (Int.le_refl _)
        · exact Or.inr (Int.le_of_lt ((List.pairwise_cons.1 p2).1 v h))
    have hlast : (x :: y :: B).getLast (by simp) = (y :: B).getLast (by simp) := List.getLast_cons (by simp)
    have hlow : y ≤ (y :: B).getLast (by simp) := by
      rcases List.mem_cons.1 (List.getLast_mem (l := y :: B) (by simp)) with h | h
      · rw [h]; exact Int.le_refl _
      · exact Int.le_of_lt ((List.pairwise_cons.1 p2).1 _ h)
    rw [hlast]
    show In n ((if f (has x a) (has x b) = true then [(x, y)] else []) ++ segs (fun t => f (has t a) (has t b)) (y :: B)) ↔ _
    by_cases hny : y ≤ n
    · have step := ih y p2 (fun v hv => by
        rcases hb v hv with h | h
        · exact Or.inl (by omega)
        · rcases List.mem_cons.1 h with rfl | h
          · exact Or.inl (Int.le_refl _)
          · exact Or.inr h) hny
      rw [In.append, step]
      constructor
      · rintro (h | h)
        · by_cases hk : f (has x a) (has x b) = true
          · rw [if_pos hk] at h
            have := (In.one.1 h).2
            dsimp only at this; omega
          · rw [if_neg hk] at h; exact absurd h In.nil
        · exact h
      · exact Or.inr
    · have ea := has_eq (seg_const (L := a) (fun v hv => hno v (Or.inl hv)) hn (by omega))
      have eb := has_eq (seg_const (L := b) (fun v hv => hno v (Or.inr hv)) hn (by omega))
      rw [In.append, ea, eb]
      constructor
      · rintro (h | h)
        · by_cases hk : f (has x a) (has x b) = true
          · exact ⟨by omega, hk⟩
          · rw [if_neg hk] at h; exact absurd h In.nil
        · have := segs_ge _ B y n p2 h; omega
      · rintro ⟨_, hk⟩
        rw [if_pos hk]
        exact Or.inl (In.one.2 ⟨hn, by dsimp only; omega⟩)
/-- What is kept of two lists, over any increasing list of numbers that has all bounds of both. -/
theorem comb_segs (f : Bool → Bool → Bool) (hf : f false false = false) (a b : List Iv) (B : List Int) (hs : B.Pairwise (· < ·)) (hb : ∀ v, Bd v a ∨ Bd v b → v ∈ B) (n : Int) :
    In n (segs (fun t => f (has t a) (has t b)) B) ↔ f (has n a) (has n b) = true := by
  cases B with
  | nil =>
    have na : has n a = false := by
      rw [Bool.eq_false_iff]; intro h
      obtain ⟨x, hx, _⟩ := (has_in n a).1 h
      exact absurd (hb x.1 (Or.inl ⟨x, hx, Or.inl rfl⟩)) (by simp)
    have nb : has n b = false := by
      rw [Bool.eq_false_iff]; intro h
      obtain ⟨x, hx, _⟩ := (has_in n b).1 h
      exact absurd (hb x.1 (Or.inr ⟨x, hx, Or.inl rfl⟩)) (by simp)
    rw [na, nb, hf]
    exact ⟨fun h => absurd h In.nil, fun h => absurd h (by simp)⟩
  | cons x B =>
    have least : ∀ v, v ∈ x :: B → x ≤ v := fun v hv => by
      rcases List.mem_cons.1 hv with rfl | hv
      · exact Int.le_refl _
      · exact Int.le_of_lt ((List.pairwise_cons.1 hs).1 v hv)
    have most : ∀ v, v ∈ x :: B → v ≤ (x :: B).getLast (by simp) := fun v hv => by
      have key : ∀ (B : List Int) (x : Int), (x :: B).Pairwise (· < ·) → ∀ v ∈ x :: B, v ≤ (x :: B).getLast (by simp) := by
        intro B
        induction B with
        | nil => intro x _ v hv; simp at hv; subst hv; simp
        | cons y B ih =>
          intro x hs v hv
          obtain ⟨p1, p2⟩ := List.pairwise_cons.1 hs
          rw [List.getLast_cons (by simp)]
          rcases List.mem_cons.1 hv with rfl | hv
          · have h1 := p1 y (List.mem_cons_self ..)
            have h2 := ih y p2 y (List.mem_cons_self ..)
            omega
          · exact ih y p2 v hv
      exact key B x hs v hv
    by_cases hn : x ≤ n
    · rw [in_segs f a b B x hs (fun v hv => by
        rcases List.mem_cons.1 (hb v hv) with rfl | h
        · exact Or.inl (Int.le_refl _)
        · exact Or.inr h) n hn]
      constructor
      · exact fun h => h.2
      · intro h
        refine ⟨?_, h⟩
        rcases Int.lt_or_le n ((x :: B).getLast (by simp)) with hl | hl
        · exact hl
        · exfalso
          have na : has n a = false := by
            rw [Bool.eq_false_iff]; intro h
            obtain ⟨y, hy, h1, h2⟩ := (has_in n a).1 h
            have := most _ (hb y.2 (Or.inl ⟨y, hy, Or.inr rfl⟩)); omega
          have nb : has n b = false := by
            rw [Bool.eq_false_iff]; intro h
            obtain ⟨y, hy, h1, h2⟩ := (has_in n b).1 h
            have := most _ (hb y.2 (Or.inr ⟨y, hy, Or.inr rfl⟩)); omega
          rw [na, nb, hf] at h
          exact absurd h (by simp)
    · have na : has n a = false := by
        rw [Bool.eq_false_iff]; intro h
        obtain ⟨y, hy, h1, h2⟩ := (has_in n a).1 h
        have := least _ (hb y.1 (Or.inl ⟨y, hy, Or.inl rfl⟩)); omega
      have nb : has n b = false := by
        rw [Bool.eq_false_iff]; intro h
        obtain ⟨y, hy, h1, h2⟩ := (has_in n b).1 h
        have := least _ (hb y.1 (Or.inr ⟨y, hy, Or.inl rfl⟩)); omega
      rw [na, nb, hf]
      exact ⟨fun h => absurd (segs_ge _ B x n hs h) hn, fun h => absurd h (by simp)⟩
/-- So the normal list of what is kept is one list, whatever the numbers. -/
theorem comb_one (f : Bool → Bool → Bool) (hf : f false false = false) (a b : List Iv) (B : List Int) (hs : B.Pairwise (· < ·)) (hb : ∀ v, Bd v a ∨ Bd v b → v ∈ B) {N : List Iv} (hN : Nrm N) (hI : ∀ n, In n N ↔ f (has n a) (has n b) = true) :
    ofL (segs (fun t => f (has t a) (has t b)) B) = N :=
  nrm_ext (ofL_spec _).1 hN (fun n => ((ofL_spec _).2 n).trans ((comb_segs f hf a b B hs hb n).trans (hI n).symm))
end Go.Proofs.Ytacgomhegjilgaa.Ts
