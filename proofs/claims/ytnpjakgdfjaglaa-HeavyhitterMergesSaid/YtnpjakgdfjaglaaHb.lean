/- Plain facts: items, streams of items, what a summary of a stream keeps. -/
import Derived.Test.YtnpjakgdfjaglaaGb
import Derived.Test.YtnpjakgdfjaglaaGd
namespace Go.Proofs.Ytnpjakgdfjaglaa
open Go

theorem mem_pt {L : List Ct} {k : ByteArray} {v : Int} {p : Ct} (h : p ∈ pt L k v) : p = (k, v) ∨ p ∈ L := by
  induction L with
  | nil => rw [pt, List.mem_singleton] at h; exact .inl h
  | cons q L ih =>
    rw [pt] at h
    by_cases e : q.1 = k
    · rw [if_pos e] at h
      rcases List.mem_cons.1 h with h | h
      · exact .inl h
      · exact .inr (by simp [h])
    · rw [if_neg e] at h
      by_cases hb : bl q.1 k = true
      · rw [if_pos hb] at h
        rcases List.mem_cons.1 h with h | h
        · exact .inr (by simp [h])
        · rcases ih h with h | h
          · exact .inl h
          · exact .inr (by simp [h])
      · rw [if_neg hb] at h
        rcases List.mem_cons.1 h with h | h
        · exact .inl h
        · exact .inr h
/-- All counts are at least 1. -/
def Ps (L : List Ct) : Prop := ∀ p ∈ L, 1 ≤ p.2
theorem Ps.nn {L : List Ct} (h : Ps L) : Nn L := fun p hp => by have := h p hp; omega
theorem gt_mem {L : List Ct} {k : ByteArray} (h : hs L k) : (k, gt L k) ∈ L := by
  induction L with
  | nil => simp [hs] at h
  | cons p L ih =>
    rw [gt]
    by_cases e : p.1 = k
    · rw [if_pos e, ← e]; exact List.mem_cons_self
    · rw [if_neg e]
      exact List.mem_cons_of_mem _ (ih (((hs_cons _ _ _).1 h).resolve_left fun x => e x.symm))
theorem gt_pos {L : List Ct} (h : Ps L) (k : ByteArray) : 0 < gt L k ↔ hs L k := by
  constructor
  · intro h1
    by_cases hh : hs L k
    · exact hh
    · rw [gt_none hh] at h1; omega
  · intro h1; have := h _ (gt_mem h1); simp only at this; omega
theorem gt_sd {L : List Ct} (hS : Sd L) {p : Ct} (h : p ∈ L) : gt L p.1 = p.2 := by
  obtain ⟨A, B, rfl⟩ := List.append_of_mem h
  exact gt_mid hS
theorem ps_adC {L : List Ct} (h : Ps L) (k : ByteArray) {n : Int} (hn : 1 ≤ n) : Ps (adC L k n) := fun p hp => by
  rcases mem_pt hp with e | e
  · have := (gt_sm h.nn k).1
    rw [e]; show 1 ≤ gt L k + n; omega
  · exact h p e
theorem ps_loC (L : List Ct) (d : Int) : Ps (loC L d) := fun p hp => by have := (loC_mem hp).1; omega
theorem gt_adC {L : List Ct} (hS : Sd L) (k : ByteArray) (n : Int) (x : ByteArray) : gt (adC L k n) x = gt L x + if x = k then n else 0 := by
  rw [adC, gt_pt hS]
  by_cases e : x = k
  · rw [if_pos e, if_pos e, e]
  · rw [if_neg e, if_neg e, Int.add_zero]
theorem gt_loC {L : List Ct} (hS : Sd L) (d : Int) (hd : 0 ≤ d) (x : ByteArray) : gt (loC L d) x = if d < gt L x then gt L x - d else 0 := by
  by_cases h : hs (loC L d) x
  · have h1 := gt_mem h
    obtain ⟨h2, h3⟩ := loC_mem h1
    have h4 := gt_sd hS h3
    simp only at h2 h4
    rw [h4, if_pos (by omega)]; omega
  · rw [gt_none h, if_neg]
    intro h1
    have hh : hs L x := Classical.byContradiction fun e => by rw [gt_none e] at h1; omega
    have h2 := gt_mem hh
    refine h (List.mem_map.2 ⟨(x, gt L x - d), ?_, rfl⟩)
    rw [loC, List.mem_filter]
    exact ⟨List.mem_map.2 ⟨_, h2, rfl⟩, by simp; omega⟩
theorem leC_min (L : List Ct) (n : Int) : ∀ p ∈ L, leC L n ≤ p.2 := by
  induction L generalizing n with
  | nil => intro p hp; simp at hp
  | cons q L ih =>
    intro p hp
    rcases List.mem_cons.1 hp with e | e
    · rw [e]; exact Int.le_trans (leC_le L (min n q.2)) (Int.min_le_right _ _)
    · exact ih (min n q.2) p e
theorem leC_or (L : List Ct) (n : Int) : leC L n = n ∨ ∃ p ∈ L, leC L n = p.2 := by
  induction L generalizing n with
  | nil => exact .inl rfl
  | cons q L ih =>
    show leC L (min n q.2) = n ∨ _
    rcases ih (min n q.2) with h | ⟨p, hp, h⟩
    · by_cases hq : n ≤ q.2
      · left; rw [h]; omega
      · right; exact ⟨q, by simp, by show leC L (min n q.2) = q.2; rw [h]; omega⟩
    · right; exact ⟨p, by simp [hp], h⟩
theorem leC_pos {L : List Ct} (h : Ps L) {n : Int} (hn : 1 ≤ n) : 1 ≤ leC L n := by
  rcases leC_or L n with e | ⟨p, hp, e⟩
  · omega
  · have := h p hp; omega
/-- Less of all counts by a number that is at most each of them. -/
theorem sm_low {L : List Ct} {d : Int} (h : ∀ p ∈ L, d ≤ p.2) : sm (loC L d) = sm L - d * (L.length : Int) := by
  induction L with
  | nil => simp [loC, sm]
  | cons p L ih =>
    have h1 := h p (by simp)
    have h2 := ih fun q hq => h q (by simp [hq])
    have e : loC (p :: L) d = (if 0 < p.2 - d then [(p.1, p.2 - d)] else []) ++ loC L d := by
      rw [loC, List.map_cons, List.filter_cons]
      by_cases hh : 0 < p.2 - d
      · rw [if_pos (by simpa using hh), if_pos hh]; rfl
      · rw [if_neg (by simpa using hh), if_neg hh]; rfl
    have e3 : d * ((p :: L).length : Int) = d * (L.length : Int) + d := by
      rw [List.length_cons, Int.natCast_add, Int.mul_add]; simp
    rw [e, sm_append, h2, e3, sm]
    by_cases hh : 0 < p.2 - d
    · rw [if_pos hh]; simp only [sm]; omega
    · rw [if_neg hh]; simp only [sm]; omega
theorem len_low {L : List Ct} {d : Int} (h : ∃ p ∈ L, p.2 ≤ d) : (loC L d).length < L.length := by
  obtain ⟨p, hp, hd⟩ := h
  have h1 : ((L.map fun p : Ct => (p.1, p.2 - d)).filter fun p => decide (0 < p.2)).length < (L.map fun p : Ct => (p.1, p.2 - d)).length := List.length_filter_lt_length_iff_exists.2 ⟨(p.1, p.2 - d), List.mem_map.2 ⟨p, hp, rfl⟩, by simp; omega⟩
  rwa [List.length_map] at h1

/-- What a summary of a stream keeps: f is the weight of each key. -/
structure Gd (s : Su) (f : ByteArray → Int) : Prop where
  sd : Sd s.cs
  ps : Ps s.cs
  nm : ∀ p ∈ s.cs, nmK p.1 = true
  len : (s.cs.length : Int) ≤ s.mo
  lo : 0 ≤ s.lo
  sum : sm s.cs + s.lo * (s.mo + 1) ≤ s.to
  bd : ∀ k, gt s.cs k ≤ f k ∧ f k ≤ gt s.cs k + s.lo
theorem Gd.nil {m : Int} (h : 0 ≤ m) : Gd ⟨m, 0, 0, []⟩ fun _ => 0 := by
  refine ⟨List.Pairwise.nil, fun p hp => by simp at hp, fun p hp => by simp at hp, by simpa using h, by simp, by simp [sm], fun k => by simp [gt]⟩
theorem Gd.ext {s : Su} {f g : ByteArray → Int} (h : Gd s f) (e : ∀ k, f k = g k) : Gd s g := ⟨h.sd, h.ps, h.nm, h.len, h.lo, h.sum, fun k => by rw [← e]; exact h.bd k⟩
theorem nm_adC {L : List Ct} (h : ∀ p ∈ L, nmK p.1 = true) {k : ByteArray} (hk : nmK k = true) (n : Int) : ∀ p ∈ adC L k n, nmK p.1 = true := fun p hp => by
  rcases mem_pt hp with e | e
  · rw [e]; exact hk
  · exact h p e
theorem nm_loC {L : List Ct} (h : ∀ p ∈ L, nmK p.1 = true) (d : Int) : ∀ p ∈ loC L d, nmK p.1 = true := fun p hp => h (p.1, p.2 + d) (loC_mem hp).2
theorem Gd.add {s : Su} {f : ByteArray → Int} (h : Gd s f) {k : ByteArray} (hk : nmK k = true) {w : Int} (hw : 1 ≤ w) (hm : 1 ≤ s.mo) :
    Gd (adS s k w) fun x => f x + if x = k then w else 0 := by
  obtain ⟨hS, hP, hN, hL, hl, hs', hB⟩ := h
  obtain ⟨mo, to, lo, cs⟩ := s
  dsimp only at hS hP hN hL hl hs' hB hm
  unfold adS
  dsimp only
  by_cases hc : ¬ hs cs k ∧ mo ≤ cs.length
  · rw [if_pos hc]
    obtain ⟨hk0, hfl⟩ := hc
    have hb1 := leC_pos hP hw
    have hb2 := leC_le cs w
    have hb3 := leC_min cs w
    have hor := leC_or cs w
    obtain ⟨b, hb⟩ : ∃ b, b = leC cs w := ⟨_, rfl⟩
    rw [← hb] at hb1 hb2 hb3 hor ⊢
    have hsm := sm_low hb3
    have hmo : mo = cs.length := by omega
    rw [← hmo] at hsm
    have hsum : (lo + b) * (mo + 1) = lo * (mo + 1) + b * mo + b := by
      rw [Int.add_mul, Int.mul_add b]; simp; omega
    have hg : ∀ x, gt (loC cs b) x = if hs cs x then gt cs x - b else 0 := fun x => by
      rw [gt_loC hS b (by omega)]
      by_cases hx : hs cs x
      · have := hb3 _ (gt_mem hx)
        simp only at this
        rw [if_pos hx]
        split <;> omega
      · rw [if_neg hx, gt_none hx, if_neg (by omega)]
    have hBx : ∀ x, (if hs cs x then gt cs x - b else 0) ≤ f x ∧ f x ≤ (if hs cs x then gt cs x - b else 0) + (lo + b) := fun x => by
      have := hB x
      by_cases hx : hs cs x
      · rw [if_pos hx]; omega
      · rw [if_neg hx]; rw [gt_none hx] at this; omega
    have hfk := hB k
    rw [gt_none hk0] at hfk
    by_cases hbw : b < w
    · simp only [if_pos hbw]
      refine ⟨sd_adC (sd_loC hS b) k _, ps_adC (ps_loC _ _) k (by omega), nm_adC (nm_loC hN b) hk _, ?_, by show 0 ≤ lo + b; omega, ?_, fun x => ?_⟩
      · have h1 := len_adC (sd_loC hS b) k (w - b)
        have h2 : (loC cs b).length < cs.length := len_low (by
          rcases hor with e | ⟨p, hp, e⟩
          · omega
          · exact ⟨p, hp, by omega⟩)
        show ((adC (loC cs b) k (w - b)).length : Int) ≤ mo
        omega
      · show sm (adC (loC cs b) k (w - b)) + (lo + b) * (mo + 1) ≤ to + w
        rw [sm_adC _ (sd_loC hS b), hsm, hsum]; omega
      · show gt (adC (loC cs b) k (w - b)) x ≤ _ ∧ _ ≤ gt (adC (loC cs b) k (w - b)) x + (lo + b)
        rw [gt_adC (sd_loC hS b), hg]
        have := hBx x
        by_cases hx : x = k
        · subst hx
          rw [if_neg hk0, if_pos rfl, if_pos rfl]; omega
        · rw [if_neg hx, if_neg hx]; omega
    · simp only [if_neg hbw]
      refine ⟨sd_loC hS b, ps_loC _ _, nm_loC hN b, ?_, by show 0 ≤ lo + b; omega, ?_, fun x => ?_⟩
      · have h1 := len_loC cs b
        show ((loC cs b).length : Int) ≤ mo
        omega
      · show sm (loC cs b) + (lo + b) * (mo + 1) ≤ to + w
        rw [hsm, hsum]; omega
      · show gt (loC cs b) x ≤ _ ∧ _ ≤ gt (loC cs b) x + (lo + b)
        rw [hg]
        have := hBx x
        by_cases hx : x = k
        · subst hx
          rw [if_neg hk0, if_pos rfl]; omega
        · rw [if_neg hx]; omega
  · rw [if_neg hc]
    refine ⟨sd_adC hS k w, ps_adC hP k hw, nm_adC hN hk w, ?_, hl, ?_, fun x => ?_⟩
    · show ((adC cs k w).length : Int) ≤ mo
      rw [adC, len_pt hS]
      by_cases hh : hs cs k
      · rw [if_pos hh]; exact hL
      · rw [if_neg hh]
        have : ¬ mo ≤ cs.length := fun e => hc ⟨hh, e⟩
        omega
    · show sm (adC cs k w) + lo * (mo + 1) ≤ to + w
      rw [sm_adC _ hS]; omega
    · show gt (adC cs k w) x ≤ _ ∧ _ ≤ gt (adC cs k w) x + lo
      rw [gt_adC hS]
      have := hB x
      omega

/-- The counts of some counters, one by one. -/
theorem gt_coC (l : List Ct) (k : ByteArray) : gt (coC l) k = sm (l.filter fun p => decide (p.1 = k)) := by
  have : ∀ (l L : List Ct), Sd L → gt (l.foldl (fun L x => adC L x.1 x.2) L) k = gt L k + sm (l.filter fun p => decide (p.1 = k)) := by
    intro l
    induction l with
    | nil => intro L _; simp [sm]
    | cons x l ih =>
      intro L h
      rw [List.foldl_cons, ih _ (sd_adC h _ _), gt_adC h, List.filter_cons]
      by_cases e : x.1 = k
      · rw [if_pos e.symm, if_pos (by simpa using e), sm]; omega
      · rw [if_neg (fun y => e y.symm), if_neg (by simpa using e)]; omega
  rw [coC, this l [] List.Pairwise.nil, gt]; omega
theorem gt_two {A B : List Ct} (hA : Sd A) (hB : Sd B) (k : ByteArray) : gt (coC (A ++ B)) k = gt A k + gt B k := by
  rw [gt_coC, List.filter_append, sm_append, ← gt_coC, ← gt_coC, coC_sd hA, coC_sd hB]
theorem hs_two (A B : List Ct) (k : ByteArray) : hs (coC (A ++ B)) k ↔ hs A k ∨ hs B k := by
  rw [hs_coC]; simp only [hs, List.map_append, List.mem_append]
theorem ps_two {A B : List Ct} (hA : Sd A) (hB : Sd B) (pA : Ps A) (pB : Ps B) : Ps (coC (A ++ B)) := fun p hp => by
  have e := gt_sd (sd_coC (A ++ B)) hp
  rw [gt_two hA hB] at e
  have h1 := (gt_sm pA.nn p.1).1
  have h2 := (gt_sm pB.nn p.1).1
  rcases (hs_two A B p.1).1 (mem_keys hp) with h | h
  · have := (gt_pos pA p.1).2 h; omega
  · have := (gt_pos pB p.1).2 h; omega
theorem co_comm {A B : List Ct} (hA : Sd A) (hB : Sd B) : coC (A ++ B) = coC (B ++ A) :=
  sd_ext (sd_coC _) (sd_coC _) (fun k => by rw [hs_two, hs_two, Or.comm]) (fun k _ => by rw [gt_two hA hB, gt_two hB hA, Int.add_comm])
/-- What is left behind the counter at a rank. -/
theorem rank_low {D : List Ct} {d : Int} {m : Nat} (h1 : ∀ j (hj : j < D.length), j ≤ m → d ≤ D[j].2) (h2 : ∀ j (hj : j < D.length), m ≤ j → D[j].2 ≤ d) (hm : m < D.length) (hN : Nn D) :
    (loC D d).length ≤ m ∧ sm (loC D d) + d * ((m : Int) + 1) ≤ sm D := by
  have e0 : D.take (m + 1) ++ D.drop (m + 1) = D := List.take_append_drop _ _
  have e1 : loC D d = loC (D.take (m + 1)) d ++ loC (D.drop (m + 1)) d := by
    conv => lhs; rw [← e0]
    simp only [loC, List.map_append, List.filter_append]
  have e2 : loC (D.drop (m + 1)) d = [] := by
    rw [loC, List.filter_eq_nil_iff]
    intro p hp
    obtain ⟨q, hq, rfl⟩ := List.mem_map.1 hp
    obtain ⟨j, hj, rfl⟩ := List.getElem_of_mem hq
    rw [List.length_drop] at hj
    have := h2 (m + 1 + j) (by omega) (by omega)
    rw [List.getElem_drop]
    simp; omega
  have e3 : (D.take (m + 1)).length = m + 1 := by rw [List.length_take]; omega
  have h3 : ∀ p ∈ D.take (m + 1), d ≤ p.2 := fun p hp => by
    obtain ⟨j, hj, rfl⟩ := List.getElem_of_mem hp
    rw [e3] at hj
    rw [List.getElem_take]
    exact h1 j (by omega) (by omega)
  rw [e1, e2, List.append_nil]
  refine ⟨?_, ?_⟩
  · have := len_low (L := D.take (m + 1)) (d := d) ⟨D[m], ?_, h2 m hm (Nat.le_refl _)⟩
    · omega
    · rw [List.mem_iff_getElem]
      exact ⟨m, by omega, by rw [List.getElem_take]⟩
  · rw [sm_low h3, e3]
    have e4 : ((m + 1 : Nat) : Int) = (m : Int) + 1 := by omega
    rw [e4]
    have := sm_append (D.take (m + 1)) (D.drop (m + 1))
    rw [e0] at this
    have : 0 ≤ sm (D.drop (m + 1)) := sm_nn fun p hp => hN p (List.mem_of_mem_drop hp)
    omega
theorem perm_sm {A B : List Ct} (h : A.Perm B) : sm A = sm B := by
  induction h with
  | nil => rfl
  | cons x _ ih => rw [sm, sm, ih]
  | swap x y l => simp only [sm]; omega
  | trans _ _ h1 h2 => rw [h1, h2]
end Go.Proofs.Ytnpjakgdfjaglaa
