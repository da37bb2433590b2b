/- Plain facts on lists of intervals: normal lists, join, Of. -/
namespace Go.Proofs.Ytacgomhegjilgaa.Ts

/-- An interval: from, to. -/
abbrev Iv := Int × Int
def In (n : Int) (L : List Iv) : Prop := ∃ x ∈ L, x.1 ≤ n ∧ n < x.2
/-- A normal list. -/
def Nrm (L : List Iv) : Prop := (∀ x ∈ L, x.1 < x.2) ∧ L.Pairwise (fun x y => x.2 < y.1)
theorem In.nil {n : Int} : ¬ In n [] := fun ⟨_, h, _⟩ => absurd h (by simp)
theorem In.cons {n : Int} {x : Iv} {L : List Iv} : In n (x :: L) ↔ (x.1 ≤ n ∧ n < x.2) ∨ In n L := by
  constructor
  · rintro ⟨y, hy, h⟩
    rcases List.mem_cons.1 hy with rfl | hy
    · exact Or.inl h
    · exact Or.inr ⟨y, hy, h⟩
  · rintro (h | ⟨y, hy, h⟩)
    · exact ⟨x, List.mem_cons_self .., h⟩
    · exact ⟨y, List.mem_cons_of_mem _ hy, h⟩
theorem In.append {n : Int} {L M : List Iv} : In n (L ++ M) ↔ In n L ∨ In n M := by
  constructor
  · rintro ⟨y, hy, h⟩
    rcases List.mem_append.1 hy with hy | hy
    · exact Or.inl ⟨y, hy, h⟩
    · exact Or.inr ⟨y, hy, h⟩
  · rintro (⟨y, hy, h⟩ | ⟨y, hy, h⟩)
    · exact ⟨y, List.mem_append_left _ hy, h⟩
    · exact ⟨y, List.mem_append_right _ hy, h⟩
theorem In.one {n : Int} {x : Iv} : In n [x] ↔ x.1 ≤ n ∧ n < x.2 := by
  rw [In.cons]
  exact ⟨fun h => h.resolve_right In.nil, Or.inl⟩
theorem Nrm.nil : Nrm [] := ⟨fun _ h => absurd h (by simp), List.Pairwise.nil⟩
theorem Nrm.tail {x : Iv} {L : List Iv} (h : Nrm (x :: L)) : Nrm L ∧ x.1 < x.2 ∧ ∀ y ∈ L, x.2 < y.1 :=
  ⟨⟨fun y hy => h.1 y (List.mem_cons_of_mem _ hy), (List.pairwise_cons.1 h.2).2⟩, h.1 x (List.mem_cons_self ..), (List.pairwise_cons.1 h.2).1⟩
/-- Two normal lists of the same integers are one list. -/
theorem nrm_ext {L M : List Iv} (hL : Nrm L) (hM : Nrm M) (h : ∀ n, In n L ↔ In n M) : L = M := by
  induction L generalizing M with
  | nil =>
    cases M with
    | nil => rfl
    | cons y M => exact absurd ((h y.1).2 (In.cons.2 (Or.inl ⟨Int.le_refl _, hM.tail.2.1⟩))) In.nil
  | cons x L ih =>
    cases M with
    | nil => exact absurd ((h x.1).1 (In.cons.2 (Or.inl ⟨Int.le_refl _, hL.tail.2.1⟩))) In.nil
    | cons y M =>
      obtain ⟨nL, lx, fx⟩ := hL.tail
      obtain ⟨nM, ly, fy⟩ := hM.tail
      have low : ∀ {z : Iv} {K : List Iv} {n : Int}, z.1 < z.2 → (∀ u ∈ K, z.2 < u.1) → In n (z :: K) → z.1 ≤ n := fun lz fz hn => by
        rcases In.cons.1 hn with hn | ⟨u, hu, hn⟩
        · exact hn.1
        · have := fz u hu; omega
      have tl : ∀ {K : List Iv} {z : Iv} {n : Int}, (∀ u ∈ K, z.2 < u.1) → In n K → z.2 < n := fun fz ⟨u, hu, hn⟩ => by
        have := fz u hu; omega
      have e1 : x.1 = y.1 := by
        have a := low ly fy ((h x.1).1 (In.cons.2 (Or.inl ⟨Int.le_refl _, lx⟩)))
        have b := low lx fx ((h y.1).2 (In.cons.2 (Or.inl ⟨Int.le_refl _, ly⟩)))
        omega
      have e2 : x.2 = y.2 := by
        rcases Int.lt_trichotomy x.2 y.2 with hlt | heq | hgt
        · exfalso
          have a := (h x.2).2 (In.cons.2 (Or.inl ⟨by omega, hlt⟩))
          rcases In.cons.1 a with a | a
          · omega
          · have := tl fx a; omega
        · exact heq
        · exfalso
          have a := (h y.2).1 (In.cons.2 (Or.inl ⟨by omega, hgt⟩))
          rcases In.cons.1 a with a | a
          · omega
          · have := tl fy a; omega
      have e : x = y := Prod.ext e1 e2
      subst e
      rw [ih nL nM (fun n => ⟨fun hn => by
        have a := (h n).1 (In.cons.2 (Or.inr hn))
        rcases In.cons.1 a with a | a
        · have := tl fx hn; omega
        · exact a, fun hn => by
        have a := (h n).2 (In.cons.2 (Or.inr hn))
        rcases In.cons.1 a with a | a
        · have := tl fy hn; omega
        · exact a⟩)]
/-- A list of intervals, and one more behind it. -/
def jn (L : List Iv) (x : Iv) : List Iv :=
  match L.getLast? with
  | none => [x]
  | some y => if y.2 < x.1 then L ++ [x] else L.dropLast ++ [(y.1, max y.2 x.2)]
theorem jn_nil (x : Iv) : jn [] x = [x] := rfl
theorem jn_far (L : List Iv) (y x : Iv) (h : y.2 < x.1) : jn (L ++ [y]) x = L ++ [y] ++ [x] := by
  unfold jn
  rw [List.getLast?_append]
  show (if y.2 < x.1 then _ else _) = _
  rw [if_pos h]
theorem jn_near (L : List Iv) (y x : Iv) (h : ¬ y.2 < x.1) : jn (L ++ [y]) x = L ++ [(y.1, max y.2 x.2)] := by
  unfold jn
  rw [List.getLast?_append]
  show (if y.2 < x.1 then _ else _) = _
  rw [if_neg h, List.dropLast_concat]
  rfl
theorem Nrm.last {L : List Iv} {y : Iv} (h : Nrm (L ++ [y])) : Nrm L ∧ y.1 < y.2 ∧ ∀ z ∈ L, z.2 < y.1 := by
  obtain ⟨p1, _, p2⟩ := List.pairwise_append.1 h.2
  exact ⟨⟨fun z hz => h.1 z (List.mem_append_left _ hz), p1⟩, h.1 y (List.mem_append_right _ (List.mem_singleton.2 rfl)), fun z hz => p2 z hz y (List.mem_singleton.2 rfl)⟩
theorem Nrm.snoc {L : List Iv} {y : Iv} (h : Nrm L) (hy : y.1 < y.2) (hf : ∀ z ∈ L, z.2 < y.1) : Nrm (L ++ [y]) :=
  ⟨fun z hz => by
    rcases List.mem_append.1 hz with hz | hz
    · exact h.1 z hz
    · rw [List.mem_singleton.1 hz]; exact hy, List.pairwise_append.2 ⟨h.2, by simp, fun z hz u hu => by rw [List.mem_singleton.1 hu]; exact hf z hz⟩⟩
/-- What join makes of a normal list and an interval that begins not before its last one. -/
theorem jn_nrm {L : List Iv} {x : Iv} (hL : Nrm L) (hx : x.1 < x.2) (hb : ∀ y ∈ L, y.1 ≤ x.1) :
    Nrm (jn L x) ∧ (∀ n, In n (jn L x) ↔ In n L ∨ (x.1 ≤ n ∧ n < x.2)) ∧ ∀ y ∈ jn L x, y.1 ≤ x.1 := by
  rcases List.eq_nil_or_concat L with rfl | ⟨K, y, rfl⟩
  · rw [jn_nil]
    refine ⟨⟨fun z hz => by rw [List.mem_singleton.1 hz]; exact hx, by simp⟩, fun n => ?_, fun z hz => by rw [List.mem_singleton.1 hz]; exact Int.le_refl _⟩
    rw [In.one]
    exact ⟨Or.inr, fun h => h.resolve_left In.nil⟩
  · rw [List.concat_eq_append] at hL hb ⊢
    obtain ⟨nK, ly, fy⟩ := hL.last
    have hyx := hb y (List.mem_append_right _ (List.mem_singleton.2 rfl))
    by_cases hlt : y.2 < x.1
    · rw [jn_far K y x hlt]
      refine ⟨hL.snoc hx (fun z hz => ?_), fun n => ?_, fun z hz => ?_⟩
      · rcases List.mem_append.1 hz with hz | hz
        · have := fy z hz; omega
        · rw [List.mem_singleton.1 hz]; exact hlt
      · rw [In.append, In.one]
      · rcases List.mem_append.1 hz with hz | hz
        · exact hb z hz
        · rw [List.mem_singleton.1 hz]; exact Int.le_refl _
    · rw [jn_near K y x hlt]
      refine ⟨nK.snoc (by dsimp only; omega) (fun z hz => fy z hz), fun n => ?_, fun z hz => ?_⟩
      · rw [In.append, In.append, In.one, In.one]
        dsimp only
        constructor
        · rintro (h | h)
          · exact Or.inl (Or.inl h)
          · by_cases hn : n < y.2
            · exact Or.inl (Or.inr ⟨h.1, hn⟩)
            · exact Or.inr ⟨by omega, by omega⟩
        · rintro ((h | h) | h)
          · exact Or.inl h
          · exact Or.inr ⟨h.1, by omega⟩
          · exact Or.inr ⟨by omega, by omega⟩
      · rcases List.mem_append.1 hz with hz | hz
        · exact hb z (List.mem_append_left _ hz)
        · rw [List.mem_singleton.1 hz]; exact hyx
/-- Joining intervals in the order of their beginnings. -/
theorem fold_nrm {S : List Iv} (hp : ∀ x ∈ S, x.1 < x.2) (hs : S.Pairwise (fun x y => x.1 ≤ y.1)) :
    Nrm (S.foldl jn []) ∧ ∀ n, In n (S.foldl jn []) ↔ In n S := by
  have gen : ∀ (S L : List Iv), (∀ x ∈ S, x.1 < x.2) → S.Pairwise (fun x y => x.1 ≤ y.1) → Nrm L → (∀ y ∈ L, ∀ x ∈ S, y.1 ≤ x.1) → Nrm (S.foldl jn L) ∧ ∀ n, In n (S.foldl jn L) ↔ In n L ∨ In n S := by
    intro S
    induction S with
    | nil => intro L _ _ h _; exact ⟨h, fun n => ⟨Or.inl, fun h => h.resolve_right In.nil⟩⟩
    | cons x S ih =>
      intro L hp hs hL hb
      obtain ⟨a, b, c⟩ := jn_nrm hL (hp x (List.mem_cons_self ..)) (fun y hy => hb y hy x (List.mem_cons_self ..))
      obtain ⟨d, e⟩ := ih (jn L x) (fun y hy => hp y (List.mem_cons_of_mem _ hy)) (List.pairwise_cons.1 hs).2 a (fun y hy z hz => Int.le_trans (c y hy) ((List.pairwise_cons.1 hs).1 z hz))
      refine ⟨d, fun n => ?_⟩
      rw [List.foldl_cons, e n, b n, In.cons]
      constructor
      · rintro ((h | h) | h)
        · exact Or.inl h
        · exact Or.inr (Or.inl h)
        · exact Or.inr (Or.inr h)
      · rintro (h | h | h)
        · exact Or.inl (Or.inl h)
        · exact Or.inl (Or.inr h)
        · exact Or.inr h
  obtain ⟨a, b⟩ := gen S [] hp hs Nrm.nil (fun y hy => absurd hy (by simp))
  exact ⟨a, fun n => (b n).trans ⟨fun h => h.resolve_left In.nil, Or.inr⟩⟩
/-- Insertion by beginnings, behind those that begin at the same integer. -/
def ins (x : Iv) : List Iv → List Iv
  | [] => [x]
  | y :: L => if y.1 ≤ x.1 then y :: ins x L else x :: y :: L
theorem ins_mem (x : Iv) (L : List Iv) (z : Iv) : z ∈ ins x L ↔ z = x ∨ z ∈ L := by
  induction L with
  | nil => simp [ins]
  | cons y L ih =>
    unfold ins
    by_cases h : y.1 ≤ x.1
    · rw [if_pos h, List.mem_cons, ih, List.mem_cons]
      constructor
      · rintro (h | h | h)
        · exact Or.inr (Or.inl h)
        · exact Or.inl h
        · exact Or.inr (Or.inr h)
      · rintro (h | h | h)
        · exact Or.inr (Or.inl h)
        · exact Or.inl h
        · exact Or.inr (Or.inr h)
    · rw [if_neg h, List.mem_cons]
theorem ins_sorted (x : Iv) (L : List Iv) (h : L.Pairwise (fun x y => x.1 ≤ y.1)) : (ins x L).Pairwise (fun x y => x.1 ≤ y.1) := by
  induction L with
  | nil => simp [ins]
  | cons y L ih =>
    obtain ⟨h1, h2⟩ := List.pairwise_cons.1 h
    unfold ins
    by_cases hy : y.1 ≤ x.1
    · rw [if_pos hy]
      refine List.pairwise_cons.2 ⟨fun z hz => ?_, ih h2⟩
      rcases (ins_mem x L z).1 hz with rfl | hz
      · exact hy
      · exact h1 z hz
    · rw [if_neg hy]
      refine List.pairwise_cons.2 ⟨fun z hz => ?_, h⟩
      rcases List.mem_cons.1 hz with rfl | hz
      · omega
      · have := h1 z hz; omega
/-- The beginnings of a sorted list that are at most another one stand first: the reference's search for the place from the right. -/
theorem ins_take (x : Iv) (L : List Iv) (h : L.Pairwise (fun x y => x.1 ≤ y.1)) (k : Nat) (hk : k ≤ L.length) (h1 : ∀ i (hi : i < L.length), k ≤ i → x.1 < L[i].1) (h2 : k = 0 ∨ ∃ hi : k - 1 < L.length, L[k - 1].1 ≤ x.1) : ins x L = L.take k ++ x :: L.drop k := by
  induction L generalizing k with
  | nil => have : k = 0 := by simpa using hk
           subst this; rfl
  | cons y L ih =>
    obtain ⟨p1, p2⟩ := List.pairwise_cons.1 h
    unfold ins
    cases k with
    | zero =>
      have := h1 0 (by simp) (Nat.le_refl _)
      rw [if_neg (by simp at this; omega)]; rfl
    | succ k =>
      have hy : y.1 ≤ x.1 := by
        rcases h2 with h2 | ⟨hi, h2⟩
        · omega
        · cases k with
          | zero => simpa using h2
          | succ k =>
            have e : (y :: L)[k + 1 + 1 - 1] = L[k]'(by simp at hi; omega) := rfl
            rw [e] at h2
            have := p1 _ (List.getElem_mem (l := L) (n := k) (by simp at hi; omega))
            omega
      rw [if_pos hy, ih p2 k (by simp at hk; omega) (fun i hi hki => by
        have := h1 (i + 1) (by simp; omega) (by omega)
        simpa using this) (by
        cases k with
        | zero => exact Or.inl rfl
        | succ k =>
          rcases h2 with h2 | ⟨hi, h2⟩
          · omega
          · exact Or.inr ⟨by simp at hi ⊢; omega, by simpa using h2⟩)]
      rfl
def srt (L : List Iv) : List Iv := (L.filter (fun x => decide (x.1 < x.2))).foldl (fun S x => ins x S) []
/-- The normal list of some intervals. -/
def ofL (L : List Iv) : List Iv := (srt L).foldl jn []
theorem srt_spec (L : List Iv) : (srt L).Pairwise (fun x y => x.1 ≤ y.1) ∧ ∀ z, z ∈ srt L ↔ z ∈ L ∧ z.1 < z.2 := by
  have gen : ∀ (M S : List Iv), S.Pairwise (fun x y => x.1 ≤ y.1) → (M.foldl (fun S x => ins x S) S).Pairwise (fun x y => x.1 ≤ y.1) ∧ ∀ z, z ∈ M.foldl (fun S x => ins x S) S ↔ z ∈ S ∨ z ∈ M := by
    intro M
    induction M with
    | nil => intro S h; exact ⟨h, fun z => ⟨Or.inl, fun h => h.resolve_right (by simp)⟩⟩
    | cons x M ih =>
      intro S h
      obtain ⟨a, b⟩ := ih (ins x S) (ins_sorted x S h)
      refine ⟨a, fun z => ?_⟩
      rw [List.foldl_cons, b z, ins_mem, List.mem_cons]
      constructor
      · rintro ((h | h) | h)
        · exact Or.inr (Or.inl h)
        · exact Or.inl h
        · exact Or.inr (Or.inr h)
      · rintro (h | h | h)
        · exact Or.inl (Or.inr h)
        · exact Or.inl (Or.inl h)
        · exact Or.inr h
  obtain ⟨a, b⟩ := gen (L.filter (fun x => decide (x.1 < x.2))) [] List.Pairwise.nil
  refine ⟨a, fun z => ?_⟩
  show z ∈ List.foldl _ _ _ ↔ _
  rw [b z, List.mem_filter]
  simp
theorem ofL_spec (L : List Iv) : Nrm (ofL L) ∧ ∀ n, In n (ofL L) ↔ In n L := by
  obtain ⟨a, b⟩ := srt_spec L
  obtain ⟨c, d⟩ := fold_nrm (S := srt L) (fun x hx => ((b x).1 hx).2) a
  refine ⟨c, fun n => (d n).trans ⟨?_, ?_⟩⟩
  · rintro ⟨x, hx, h⟩
    exact ⟨x, ((b x).1 hx).1, h⟩
  · rintro ⟨x, hx, h⟩
    exact ⟨x, (b x).2 ⟨hx, by omega⟩, h⟩
/-- A list is its own normal list exactly if it is normal. -/
theorem ofL_self (L : List Iv) : ofL L = L ↔ Nrm L :=
  ⟨fun h => by rw [← h]; exact (ofL_spec L).1, fun h => nrm_ext (ofL_spec L).1 h (ofL_spec L).2⟩
end Go.Proofs.Ytacgomhegjilgaa.Ts
