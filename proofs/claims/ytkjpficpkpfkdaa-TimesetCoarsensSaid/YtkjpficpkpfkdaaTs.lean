/- Plain facts: the program's sweep through the bounds of two lists. -/
import Derived.Test.YtkjpficpkpfkdaaTr
namespace Go.Proofs.Ytkjpficpkpfkdaa.Ts

/-- The bounds of a list, one after another. -/
def fl (L : List Iv) : List Int := L.flatMap fun x => [x.1, x.2]
theorem fl_cons (x : Iv) (L : List Iv) : fl (x :: L) = x.1 :: x.2 :: fl L := by simp [fl]
theorem fl_len (L : List Iv) : (fl L).length = 2 * L.length := by
  induction L with
  | nil => rfl
  | cons x L ih => rw [fl_cons, List.length_cons, List.length_cons, List.length_cons, ih]; omega
theorem fl_get (L : List Iv) (k : Nat) (h : k < L.length) : (fl L)[2 * k]? = some L[k].1 ∧ (fl L)[2 * k + 1]? = some L[k].2 := by
  induction L generalizing k with
  | nil => simp at h
  | cons x L ih =>
    rw [fl_cons]
    cases k with
    | zero => exact ⟨rfl, rfl⟩
    | succ k =>
      have := ih k (by simpa using h)
      rw [show 2 * (k + 1) = 2 * k + 1 + 1 by omega]
      simpa using this
theorem fl_sorted {L : List Iv} (h : Nrm L) : (fl L).Pairwise (· < ·) := by
  induction L with
  | nil => exact List.Pairwise.nil
  | cons x L ih =>
    obtain ⟨hL, hx, hf⟩ := h.tail
    have far : ∀ v ∈ fl L, x.2 < v := fun v hv => by
      obtain ⟨y, hy, hv⟩ := List.mem_flatMap.1 hv
      have a := hf y hy
      have b := hL.1 y hy
      simp at hv
      rcases hv with rfl | rfl <;> omega
    rw [fl_cons]
    refine List.pairwise_cons.2 ⟨fun v hv => ?_, List.pairwise_cons.2 ⟨far, ih hL⟩⟩
    rcases List.mem_cons.1 hv with rfl | hv
    · exact hx
    · have := far v hv; omega
/-- Whether a number is inside, from the bounds that are still to come, and whether one is inside before them. -/
def par (n : Int) (p : Bool) : List Int → Bool
  | [] => p
  | v :: A => if v ≤ n then par n (!p) A else p
theorem par_all (n : Int) (p : Bool) (A : List Int) (h : ∀ v ∈ A, n < v) : par n p A = p := by
  cases A with
  | nil => rfl
  | cons v A =>
    have := h v (List.mem_cons_self ..)
    show (if v ≤ n then _ else _) = _
    rw [if_neg (by omega)]
theorem par_has {L : List Iv} (h : Nrm L) (n : Int) : par n false (fl L) = has n L := by
  induction L with
  | nil => rfl
  | cons x L ih =>
    obtain ⟨hL, hx, hf⟩ := h.tail
    have e : has n (x :: L) = ((decide (x.1 ≤ n) && decide (n < x.2)) || has n L) := by simp [has]
    rw [fl_cons, e]
    show (if x.1 ≤ n then (if x.2 ≤ n then par n (!(!false)) (fl L) else !false) else false) = _
    by_cases h1 : x.1 ≤ n
    · rw [if_pos h1]
      by_cases h2 : x.2 ≤ n
      · rw [if_pos h2, decide_eq_true h1, decide_eq_false (by omega)]
        simpa using ih hL
      · rw [if_neg h2, decide_eq_true h1, decide_eq_true (by omega)]; rfl
    · rw [if_neg h1, decide_eq_false h1]
      have : has n L = false := by
        rw [Bool.eq_false_iff]; intro hh
        obtain ⟨y, hy, a, _⟩ := (has_in n L).1 hh
        have := hf y hy; omega
      rw [this]; rfl
/-- Behind a bound, or not. -/
def adv (t : Int) : List Int → List Int
  | [] => []
  | v :: A => if v = t then A else v :: A
def flip (t : Int) (p : Bool) : List Int → Bool
  | [] => p
  | v :: _ => if v = t then !p else p
theorem adv_hit {t v : Int} {A : List Int} (h : v = t) : adv t (v :: A) = A := by show (if v = t then A else v :: A) = A; rw [if_pos h]
theorem adv_miss {t v : Int} {A : List Int} (h : ¬ v = t) : adv t (v :: A) = v :: A := by show (if v = t then A else v :: A) = v :: A; rw [if_neg h]
theorem flip_hit {t v : Int} {p : Bool} {A : List Int} (h : v = t) : flip t p (v :: A) = !p := by show (if v = t then !p else p) = !p; rw [if_pos h]
theorem flip_miss {t v : Int} {p : Bool} {A : List Int} (h : ¬ v = t) : flip t p (v :: A) = p := by show (if v = t then !p else p) = p; rw [if_neg h]
/-- The next bound of two lists. -/
def nb : List Int → List Int → Int
  | [], [] => 0
  | v :: _, [] => v
  | [], u :: _ => u
  | v :: _, u :: _ => min v u
/-- The pieces that are kept, in their order. -/
def swp (f : Bool → Bool → Bool) : Nat → Bool → Bool → Int → List Int → List Int → List Iv
  | 0, _, _, _, _, _ => []
  | k + 1, p, q, o, A, B =>
    if A = [] ∧ B = [] then [] else
      (if f p q then [(o, nb A B)] else []) ++ swp f k (flip (nb A B) p A) (flip (nb A B) q B) (nb A B) (adv (nb A B) A) (adv (nb A B) B)
theorem adv_len (t : Int) (A : List Int) : (adv t A).length ≤ A.length := by
  cases A with
  | nil => exact Nat.le_refl _
  | cons v A =>
    by_cases h : v = t
    · rw [adv_hit h, List.length_cons]; omega
    · rw [adv_miss h]; exact Nat.le_refl _
theorem nb_le (A B : List Int) (hA : A.Pairwise (· < ·)) (hB : B.Pairwise (· < ·)) : (∀ v ∈ A, nb A B ≤ v) ∧ (∀ v ∈ B, nb A B ≤ v) := by
  have hd : ∀ {v : Int} {A : List Int}, (v :: A).Pairwise (· < ·) → ∀ u ∈ v :: A, v ≤ u := fun h u hu => by
    rcases List.mem_cons.1 hu with rfl | hu
    · exact Int.le_refl _
    · exact Int.le_of_lt ((List.pairwise_cons.1 h).1 u hu)
  cases A with
  | nil =>
    cases B with
    | nil => exact ⟨fun _ h => absurd h (by simp), fun _ h => absurd h (by simp)⟩
    | cons u B => exact ⟨fun _ h => absurd h (by simp), hd hB⟩
  | cons v A =>
    cases B with
    | nil => exact ⟨hd hA, fun _ h => absurd h (by simp)⟩
    | cons u B =>
      refine ⟨fun w hw => ?_, fun w hw => ?_⟩
      · have := hd hA w hw; show min v u ≤ w; omega
      · have := hd hB w hw; show min v u ≤ w; omega
/-- The bounds that are left behind a step lie behind it. -/
theorem adv_gt {t : Int} {A : List Int} (hA : A.Pairwise (· < ·)) (h : ∀ v ∈ A, t ≤ v) : (adv t A).Pairwise (· < ·) ∧ ∀ v ∈ adv t A, t < v := by
  cases A with
  | nil => exact ⟨hA, fun _ h => absurd h (by simp [adv])⟩
  | cons v A =>
    obtain ⟨p1, p2⟩ := List.pairwise_cons.1 hA
    have hv := h v (List.mem_cons_self ..)
    by_cases e : v = t
    · rw [adv_hit e]
      exact ⟨p2, fun u hu => by have := p1 u hu; omega⟩
    · rw [adv_miss e]
      refine ⟨hA, fun u hu => ?_⟩
      rcases List.mem_cons.1 hu with rfl | hu
      · omega
      · have := p1 u hu; omega
theorem par_adv {t n : Int} {p : Bool} {A : List Int} (hn : t ≤ n) (h : ∀ v ∈ A, t ≤ v) : par n (flip t p A) (adv t A) = par n p A := by
  cases A with
  | nil => rfl
  | cons v A =>
    by_cases e : v = t
    · rw [flip_hit e, adv_hit e]
      show _ = (if v ≤ n then _ else _)
      rw [if_pos (by omega)]
    · rw [flip_miss e, adv_miss e]
theorem par_end (p : Bool) (A : List Int) (t : Int) (h : decide (A.length % 2 = 1) = p) : decide ((adv t A).length % 2 = 1) = flip t p A := by
  cases A with
  | nil => exact h
  | cons v A =>
    by_cases e : v = t
    · rw [flip_hit e, adv_hit e, ← h, List.length_cons]
      rcases Nat.mod_two_eq_zero_or_one A.length with h0 | h0
      · rw [decide_eq_false (by omega), decide_eq_true (by omega)]; rfl
      · rw [decide_eq_true (by omega), decide_eq_false (by omega)]; rfl
    · rw [flip_miss e, adv_miss e]; exact h
theorem adv_less {A B : List Int} (h : ¬ (A = [] ∧ B = [])) : (adv (nb A B) A).length + (adv (nb A B) B).length < A.length + B.length := by
  cases A with
  | nil =>
    cases B with
    | nil => exact absurd ⟨rfl, rfl⟩ h
    | cons u B => simp [adv, nb]
  | cons v A =>
    cases B with
    | nil => simp [adv, nb]
    | cons u B =>
      show (adv (min v u) (v :: A)).length + (adv (min v u) (u :: B)).length < _
      have a := adv_len (min v u) (v :: A)
      have b := adv_len (min v u) (u :: B)
      by_cases hvu : v ≤ u
      · have e : (adv (min v u) (v :: A)).length = A.length := by rw [adv_hit (by omega)]
        rw [e]; simp at b ⊢; omega
      · have e : (adv (min v u) (u :: B)).length = B.length := by rw [adv_hit (by omega)]
        rw [e]; simp at a ⊢; omega
/-- The kept pieces are increasing, none is empty, and they contain what is to be kept. -/
theorem swp_spec (f : Bool → Bool → Bool) (hf : f false false = false) (k : Nat) (p q : Bool) (o : Int) (A B : List Int) (hk : A.length + B.length ≤ k) (hA : A.Pairwise (· < ·)) (hB : B.Pairwise (· < ·))
    (hoA : ∀ v ∈ A, o < v) (hoB : ∀ v ∈ B, o < v) (hp : decide (A.length % 2 = 1) = p) (hq : decide (B.length % 2 = 1) = q) :
    (∀ x ∈ swp f k p q o A B, o ≤ x.1 ∧ x.1 < x.2) ∧ (swp f k p q o A B).Pairwise (fun x y => x.1 ≤ y.1) ∧ ∀ n, In n (swp f k p q o A B) ↔ o ≤ n ∧ f (par n p A) (par n q B) = true := by
  induction k generalizing p q o A B with
  | zero =>
    have eA : A = [] := List.eq_nil_of_length_eq_zero (by omega)
    have eB : B = [] := List.eq_nil_of_length_eq_zero (by omega)
    subst eA eB
    have ep : p = false := by rw [← hp]; rfl
    have eq : q = false := by rw [← hq]; rfl
    subst ep eq
    refine ⟨fun x h => absurd h (by simp [swp]), List.Pairwise.nil, fun n => ⟨fun h => absurd h In.nil, fun h => ?_⟩⟩
    have := h.2
    simp [par, hf] at this
  | succ k ih =>
    by_cases he : A = [] ∧ B = []
    · obtain ⟨rfl, rfl⟩ := he
      have ep : p = false := by rw [← hp]; rfl
      have eq : q = false := by rw [← hq]; rfl
      subst ep eq
      refine ⟨fun x h => absurd h (by simp [swp]), by simp [swp], fun n => ⟨fun h => absurd h (by simp [swp, In]), fun h => ?_⟩⟩
      have := h.2
      simp [par, hf] at this
    · obtain ⟨t, ht⟩ : ∃ t, t = nb A B := ⟨_, rfl⟩
      obtain ⟨lA, lB⟩ := nb_le A B hA hB
      have hlen := adv_less he
      rw [← ht] at lA lB hlen
      obtain ⟨sA, gA⟩ := adv_gt hA lA
      obtain ⟨sB, gB⟩ := adv_gt hB lB
      have hot : o < t := by
        cases A with
        | nil =>
          cases B with
          | nil => exact absurd ⟨rfl, rfl⟩ he
          | cons u B => rw [ht]; exact hoB u (List.mem_cons_self ..)
        | cons v A =>
          cases B with
          | nil => rw [ht]; exact hoA v (List.mem_cons_self ..)
          | cons u B =>
            have a := hoA v (List.mem_cons_self ..)
            have b := hoB u (List.mem_cons_self ..)
            rw [ht]; show o < min v u; omega
      obtain ⟨i1, i2, i3⟩ := ih (flip t p A) (flip t q B) t (adv t A) (adv t B) (by omega) sA sB gA gB (par_end p A t hp) (par_end q B t hq)
      have e : swp f (k + 1) p q o A B = (if f p q then [(o, t)] else []) ++ swp f k (flip t p A) (flip t q B) t (adv t A) (adv t B) := by
        show (if A = [] ∧ B = [] then _ else _) = _
        rw [if_neg he, ← ht]
      rw [e]
      have one : ∀ x, x ∈ (if f p q then [(o, t)] else [] : List Iv) → x = (o, t) := fun x hx => by
        by_cases hfp : f p q = true
        · rw [if_pos hfp] at hx; exact List.mem_singleton.1 hx
        · rw [if_neg hfp] at hx; exact absurd hx (by simp)
      refine ⟨fun x hx => ?_, List.pairwise_append.2 ⟨?_, i2, fun x hx y hy => ?_⟩, fun n => ?_⟩
      · rcases List.mem_append.1 hx with hx | hx
        · rw [one x hx]; exact ⟨Int.le_refl _, hot⟩
        · have := i1 x hx; omega
      · by_cases hfp : f p q = true
        · rw [if_pos hfp]; simp
        · rw [if_neg hfp]; exact List.Pairwise.nil
      · rw [one x hx]
        have := i1 y hy
        dsimp only; omega
      · rw [In.append, i3 n]
        by_cases hnt : t ≤ n
        · rw [par_adv hnt lA, par_adv hnt lB]
          constructor
          · rintro (⟨x, hx, h⟩ | h)
            · rw [one x hx] at h; dsimp only at h; omega
            · exact ⟨by omega, h.2⟩
          · exact fun h => Or.inr ⟨hnt, h.2⟩
        · rw [par_all n p A (fun v hv => by have := lA v hv; omega), par_all n q B (fun v hv => by have := lB v hv; omega)]
          constructor
          · rintro (⟨x, hx, h⟩ | h)
            · have hx' := one x hx
              by_cases hfp : f p q = true
              · rw [hx'] at h; exact ⟨h.1, hfp⟩
              · rw [if_neg hfp] at hx; exact absurd hx (by simp)
            · omega
          · rintro ⟨h1, h2⟩
            rw [if_pos h2]
            exact Or.inl (In.one.2 ⟨h1, by dsimp only; omega⟩)
/-- The sweep from its beginning: what stands before the first bound belongs to neither list. -/
theorem swp_all (f : Bool → Bool → Bool) (hf : f false false = false) (a b : List Iv) (ha : Nrm a) (hb : Nrm b) (o : Int) (k : Nat) (hk : (fl a).length + (fl b).length ≤ k) :
    Nrm ((swp f k false false o (fl a) (fl b)).foldl jn []) ∧ ∀ n, In n ((swp f k false false o (fl a) (fl b)).foldl jn []) ↔ f (has n a) (has n b) = true := by
  have sa := fl_sorted ha
  have sb := fl_sorted hb
  have pa : decide ((fl a).length % 2 = 1) = false := by rw [fl_len]; exact decide_eq_false (by omega)
  have pb : decide ((fl b).length % 2 = 1) = false := by rw [fl_len]; exact decide_eq_false (by omega)
  have key : (∀ x ∈ swp f k false false o (fl a) (fl b), x.1 < x.2) ∧ (swp f k false false o (fl a) (fl b)).Pairwise (fun x y => x.1 ≤ y.1) ∧ ∀ n, In n (swp f k false false o (fl a) (fl b)) ↔ f (par n false (fl a)) (par n false (fl b)) = true := by
    cases k with
    | zero =>
      have eA : fl a = [] := List.eq_nil_of_length_eq_zero (by omega)
      have eB : fl b = [] := List.eq_nil_of_length_eq_zero (by omega)
      rw [eA, eB]
      exact ⟨fun x h => absurd h (by simp [swp]), List.Pairwise.nil, fun n => ⟨fun h => absurd h In.nil, fun h => by simp [par, hf] at h⟩⟩
    | succ k =>
      by_cases he : fl a = [] ∧ fl b = []
      · rw [he.1, he.2]
        exact ⟨fun x h => absurd h (by simp [swp]), by simp [swp], fun n => ⟨fun h => absurd h (by simp [swp, In]), fun h => by simp [par, hf] at h⟩⟩
      · obtain ⟨t, ht⟩ : ∃ t, t = nb (fl a) (fl b) := ⟨_, rfl⟩
        obtain ⟨lA, lB⟩ := nb_le _ _ sa sb
        have hlen := adv_less he
        rw [← ht] at lA lB hlen
        obtain ⟨s1, g1⟩ := adv_gt sa lA
        obtain ⟨s2, g2⟩ := adv_gt sb lB
        have e : swp f (k + 1) false false o (fl a) (fl b) = swp f k (flip t false (fl a)) (flip t false (fl b)) t (adv t (fl a)) (adv t (fl b)) := by
          show (if fl a = [] ∧ fl b = [] then _ else _) = _
          rw [if_neg he, ← ht, if_neg (by rw [hf]; decide)]; rfl
        obtain ⟨i1, i2, i3⟩ := swp_spec f hf k (flip t false (fl a)) (flip t false (fl b)) t (adv t (fl a)) (adv t (fl b)) (by omega) s1 s2 g1 g2 (par_end _ _ t pa) (par_end _ _ t pb)
        rw [e]
        refine ⟨fun x hx => (i1 x hx).2, i2, fun n => ?_⟩
        rw [i3 n]
        by_cases hnt : t ≤ n
        · rw [par_adv hnt lA, par_adv hnt lB]
          exact ⟨fun h => h.2, fun h => ⟨hnt, h⟩⟩
        · rw [par_all n false (fl a) (fun v hv => by have := lA v hv; omega), par_all n false (fl b) (fun v hv => by have := lB v hv; omega), hf]
          exact ⟨fun h => absurd h.1 hnt, fun h => absurd h (by simp)⟩
  obtain ⟨k1, k2, k3⟩ := key
  obtain ⟨f1, f2⟩ := fold_nrm k1 k2
  refine ⟨f1, fun n => (f2 n).trans ((k3 n).trans ?_)⟩
  rw [par_has ha, par_has hb]
end Go.Proofs.Ytkjpficpkpfkdaa.Ts
