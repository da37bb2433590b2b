/- Plain facts: what has names, in the order of the names; a map's datum that reads as such a list (heavyhitter's counters, at any type of values). -/
import Derived.Lib.SlicesS
import Derived.Maps.Ext
import Derived.Sort.KeysCollected
namespace Go.Proofs.Ytjajmlamlmnljaa
open Go

theorem bytesLess_lt : ∀ (x y : List UInt8), Op.bytesLess x y = decide (x < y)
  | [], [] => by simp [Op.bytesLess]
  | _ :: _, [] => by simp [Op.bytesLess]
  | [], _ :: _ => by simp [Op.bytesLess]
  | a :: x, b :: y => by
    rw [Op.bytesLess, bytesLess_lt x y]
    simp only [List.cons_lt_cons_iff]
    by_cases h1 : a < b <;> by_cases h2 : a = b <;> by_cases h3 : x < y <;> simp [h1, h2, h3]
/-- The order of strings. -/
def bl (a b : ByteArray) : Bool := Op.bytesLess a.toList b.toList
theorem bl_iff (a b : ByteArray) : bl a b = true ↔ a.data.toList < b.data.toList := by
  unfold bl; rw [bytesLess_lt, ByteArray.toList_eq, ByteArray.toList_eq]; simp
theorem bl_irrefl (a : ByteArray) : bl a a = false := by
  cases h : bl a a with
  | false => rfl
  | true => exact absurd ((bl_iff _ _).1 h) (List.lt_irrefl _)
theorem bl_trans {a b c : ByteArray} (h : bl a b = true) (k : bl b c = true) : bl a c = true :=
  (bl_iff _ _).2 (List.lt_trans ((bl_iff _ _).1 h) ((bl_iff _ _).1 k))
theorem bl_asymm {a b : ByteArray} (h : bl a b = true) : bl b a = false := by
  cases k : bl b a with
  | false => rfl
  | true => have := bl_trans h k; rw [bl_irrefl] at this; cases this
theorem bytes_inj {a b : ByteArray} (h : a.data.toList = b.data.toList) : a = b := ByteArray.ext (Array.toList_inj.mp h)
theorem bl_tri (a b : ByteArray) : bl a b = true ∨ a = b ∨ bl b a = true := by
  by_cases h : a.data.toList < b.data.toList
  · exact .inl ((bl_iff _ _).2 h)
  · by_cases k : b.data.toList < a.data.toList
    · exact .inr (.inr ((bl_iff _ _).2 k))
    · exact .inr (.inl (bytes_inj (List.le_antisymm (List.not_lt.1 k) (List.not_lt.1 h))))
theorem bl_not {a b : ByteArray} (h : bl a b = true) : a ≠ b := fun e => by rw [e, bl_irrefl] at h; cases h

/-- A name with what it stands for. -/
abbrev Ct (β : Type) := ByteArray × β
section
variable {β : Type} [Inhabited β]
/-- Counters in the order of their keys, no key twice. -/
def Sd (L : List (Ct β)) : Prop := L.Pairwise fun a b => bl a.1 b.1 = true
/-- The count of a key: 0 if there is none. -/
def gt : List (Ct β) → ByteArray → β
  | [], _ => default
  | p :: L, k => if p.1 = k then p.2 else gt L k
def hs (L : List (Ct β)) (k : ByteArray) : Prop := k ∈ L.map (·.1)
noncomputable instance (L : List (Ct β)) (k : ByteArray) : Decidable (hs L k) := Classical.propDecidable _
/-- The counters with one count set. -/
def pt : List (Ct β) → ByteArray → β → List (Ct β)
  | [], k, v => [(k, v)]
  | p :: L, k, v => if p.1 = k then (k, v) :: L else if bl p.1 k then p :: pt L k v else (k, v) :: p :: L
def dl (L : List (Ct β)) (k : ByteArray) : List (Ct β) := L.filter fun p => decide (p.1 ≠ k)

omit [Inhabited β] in
theorem hs_cons (p : Ct β) (L : List (Ct β)) (k : ByteArray) : hs (p :: L) k ↔ k = p.1 ∨ hs L k := by simp [hs]
theorem gt_none {L : List (Ct β)} {k : ByteArray} (h : ¬ hs L k) : gt L k = default := by
  induction L with
  | nil => rfl
  | cons p L ih =>
    rw [hs_cons] at h
    rw [gt, if_neg (fun e => h (.inl e.symm)), ih (fun e => h (.inr e))]
omit [Inhabited β] in
theorem hs_pt (L : List (Ct β)) (k : ByteArray) (v : β) (x : ByteArray) : hs (pt L k v) x ↔ x = k ∨ hs L x := by
  induction L with
  | nil => simp [pt, hs]
  | cons p L ih =>
    rw [pt]
    by_cases h1 : p.1 = k
    · rw [if_pos h1, hs_cons, hs_cons, h1]
      constructor
      · rintro (h | h)
        · exact .inl h
        · exact .inr (.inr h)
      · rintro (h | h | h)
        · exact .inl h
        · exact .inl h
        · exact .inr h
    · rw [if_neg h1]
      by_cases h2 : bl p.1 k = true
      · rw [if_pos h2, hs_cons, ih, hs_cons]
        constructor
        · rintro (h | h | h)
          · exact .inr (.inl h)
          · exact .inl h
          · exact .inr (.inr h)
        · rintro (h | h | h)
          · exact .inr (.inl h)
          · exact .inl h
          · exact .inr (.inr h)
      · rw [if_neg h2, hs_cons]
theorem gt_pt {L : List (Ct β)} (hS : Sd L) (k : ByteArray) (v : β) (x : ByteArray) : gt (pt L k v) x = if x = k then v else gt L x := by
  induction L with
  | nil => simp only [pt, gt, eq_comm]
  | cons p L ih =>
    obtain ⟨h1, h2⟩ := List.pairwise_cons.1 hS
    rw [pt]
    by_cases e : p.1 = k
    · rw [if_pos e, gt]
      by_cases hx : x = k
      · rw [if_pos hx.symm, if_pos hx]
      · rw [if_neg (fun h => hx h.symm), if_neg hx, gt, if_neg (fun h => hx (h.symm.trans e))]
    · rw [if_neg e]
      by_cases hb : bl p.1 k = true
      · rw [if_pos hb, gt, ih h2]
        by_cases hx : x = k
        · rw [if_pos hx, if_pos hx, if_neg (fun h => e (h.trans hx))]
        · rw [if_neg hx, if_neg hx, gt]
      · rw [if_neg hb, gt]
        by_cases hx : x = k
        · rw [if_pos hx.symm, if_pos hx]
        · rw [if_neg (fun h => hx h.symm), if_neg hx]
omit [Inhabited β] in
theorem mem_keys {L : List (Ct β)} {p : Ct β} (h : p ∈ L) : hs L p.1 := List.mem_map.2 ⟨p, h, rfl⟩
omit [Inhabited β] in
theorem sd_pt {L : List (Ct β)} (hS : Sd L) (k : ByteArray) (v : β) : Sd (pt L k v) := by
  induction L with
  | nil => exact List.pairwise_singleton _ _
  | cons p L ih =>
    obtain ⟨h1, h2⟩ := List.pairwise_cons.1 hS
    rw [pt]
    by_cases e : p.1 = k
    · rw [if_pos e]; exact List.pairwise_cons.2 ⟨fun q hq => by rw [← e]; exact h1 q hq, h2⟩
    · rw [if_neg e]
      by_cases hb : bl p.1 k = true
      · rw [if_pos hb]
        refine List.pairwise_cons.2 ⟨fun q hq => ?_, ih h2⟩
        rcases (hs_pt L k v q.1).1 (mem_keys hq) with h | h
        · rw [h]; exact hb
        · obtain ⟨r, hr, er⟩ := List.mem_map.1 h
          rw [← er]; exact h1 r hr
      · rw [if_neg hb]
        have hk : bl k p.1 = true := by
          rcases bl_tri k p.1 with h | h | h
          · exact h
          · exact absurd h.symm e
          · exact absurd h hb
        refine List.pairwise_cons.2 ⟨fun q hq => ?_, hS⟩
        rcases List.mem_cons.1 hq with rfl | hq
        · exact hk
        · exact bl_trans hk (h1 q hq)
omit [Inhabited β] in
theorem len_pt {L : List (Ct β)} (hS : Sd L) (k : ByteArray) (v : β) : (pt L k v).length = if hs L k then L.length else L.length + 1 := by
  induction L with
  | nil => simp [pt, hs]
  | cons p L ih =>
    obtain ⟨h1, h2⟩ := List.pairwise_cons.1 hS
    rw [pt]
    by_cases e : p.1 = k
    · rw [if_pos e, if_pos ((hs_cons _ _ _).2 (.inl e.symm))]; rfl
    · rw [if_neg e]
      by_cases hb : bl p.1 k = true
      · rw [if_pos hb, List.length_cons, ih h2]
        by_cases hh : hs L k
        · rw [if_pos hh, if_pos ((hs_cons _ _ _).2 (.inr hh))]; rfl
        · rw [if_neg hh, if_neg (fun h => by rcases (hs_cons _ _ _).1 h with h | h; exact e h.symm; exact hh h)]; rfl
      · rw [if_neg hb, if_neg]
        · rfl
        · intro h
          rcases (hs_cons _ _ _).1 h with h | h
          · exact e h.symm
          · obtain ⟨q, hq, eq⟩ := List.mem_map.1 h
            exact hb (by rw [← eq]; exact h1 q hq)
omit [Inhabited β] in
theorem sd_dl {L : List (Ct β)} (hS : Sd L) (k : ByteArray) : Sd (dl L k) := hS.filter _
omit [Inhabited β] in
theorem hs_dl (L : List (Ct β)) (k x : ByteArray) : hs (dl L k) x ↔ x ≠ k ∧ hs L x := by
  simp only [hs, dl, List.mem_map, List.mem_filter, decide_eq_true_eq]
  constructor
  · rintro ⟨p, ⟨h1, h2⟩, rfl⟩; exact ⟨h2, p, h1, rfl⟩
  · rintro ⟨h, p, h1, rfl⟩; exact ⟨p, ⟨h1, h⟩, rfl⟩
theorem gt_dl (L : List (Ct β)) (k x : ByteArray) (h : x ≠ k) : gt (dl L k) x = gt L x := by
  induction L with
  | nil => rfl
  | cons p L ih =>
    rw [dl, List.filter_cons]
    by_cases e : p.1 = k
    · rw [if_neg (by simpa using e), gt, if_neg (fun h' => h (h'.symm.trans e))]; exact ih
    · rw [if_pos (by simpa using e), gt, gt]
      by_cases hx : p.1 = x
      · rw [if_pos hx, if_pos hx]
      · rw [if_neg hx, if_neg hx]; exact ih
omit [Inhabited β] in
theorem keys_nodup {L : List (Ct β)} (hS : Sd L) : (L.map (·.1)).Nodup :=
  List.pairwise_map.2 (hS.imp fun h => bl_not h)
omit [Inhabited β] in
theorem len_dl {L : List (Ct β)} (hS : Sd L) (k : ByteArray) : (dl L k).length + (if hs L k then 1 else 0) = L.length := by
  induction L with
  | nil => simp [dl, hs]
  | cons p L ih =>
    obtain ⟨h1, h2⟩ := List.pairwise_cons.1 hS
    have ih' := ih h2
    rw [dl, List.filter_cons]
    by_cases e : p.1 = k
    · rw [if_neg (by simpa using e), if_pos ((hs_cons _ _ _).2 (.inl e.symm))]
      have hn : ¬ hs L k := fun h => by
        obtain ⟨q, hq, eq⟩ := List.mem_map.1 h
        have := h1 q hq
        rw [eq, ← e, bl_irrefl] at this; cases this
      rw [if_neg hn] at ih'
      show (dl L k).length + 1 = _
      rw [List.length_cons]; omega
    · rw [if_pos (by simpa using e), List.length_cons, List.length_cons]
      have : (hs (p :: L) k) ↔ hs L k := by rw [hs_cons]; exact ⟨fun h => h.resolve_left (fun h' => e h'.symm), .inr⟩
      show (dl L k).length + 1 + _ = _
      by_cases hh : hs L k
      · rw [if_pos hh] at ih'; rw [if_pos (this.2 hh)]; omega
      · rw [if_neg hh] at ih'; rw [if_neg (fun h => hh (this.1 h))]; omega
/-- Counters that agree at each key are the same. -/
theorem sd_ext {A B : List (Ct β)} (hA : Sd A) (hB : Sd B) (h : ∀ k, hs A k ↔ hs B k) (g : ∀ k, hs A k → gt A k = gt B k) : A = B := by
  induction A generalizing B with
  | nil =>
    cases B with
    | nil => rfl
    | cons q B => exact absurd ((h q.1).2 (mem_keys (by simp))) (by simp [hs])
  | cons p A ih =>
    cases B with
    | nil => exact absurd ((h p.1).1 (mem_keys (by simp))) (by simp [hs])
    | cons q B =>
      obtain ⟨a1, a2⟩ := List.pairwise_cons.1 hA
      obtain ⟨b1, b2⟩ := List.pairwise_cons.1 hB
      have ek : p.1 = q.1 := by
        rcases (hs_cons _ _ _).1 ((h p.1).1 (mem_keys (by simp))) with e | e
        · exact e
        · rcases (hs_cons _ _ _).1 ((h q.1).2 (mem_keys (by simp))) with e' | e'
          · exact e'.symm
          · obtain ⟨r, hr, er⟩ := List.mem_map.1 e
            obtain ⟨s, hs', es⟩ := List.mem_map.1 e'
            have x1 := b1 r hr; rw [er] at x1
            have x2 := a1 s hs'; rw [es] at x2
            have := bl_trans x1 x2
            rw [bl_irrefl] at this; cases this
      have ev : p.2 = q.2 := by
        have := g p.1 (mem_keys (by simp))
        rw [gt, gt, if_pos rfl, if_pos ek.symm] at this
        exact this
      have nA : ¬ hs A p.1 := fun e => by
        obtain ⟨r, hr, er⟩ := List.mem_map.1 e
        have := a1 r hr; rw [er, bl_irrefl] at this; cases this
      have nB : ¬ hs B p.1 := fun e => by
        obtain ⟨r, hr, er⟩ := List.mem_map.1 e
        have := b1 r hr; rw [er, ek, bl_irrefl] at this; cases this
      have hAB : ∀ k, hs A k ↔ hs B k := fun k => by
        by_cases e : k = p.1
        · rw [e]; exact ⟨fun x => absurd x nA, fun x => absurd x nB⟩
        · have := h k
          rw [hs_cons, hs_cons, ← ek] at this
          exact ⟨fun x => (this.1 (.inr x)).resolve_left e, fun x => (this.2 (.inr x)).resolve_left e⟩
      have hg : ∀ k, hs A k → gt A k = gt B k := fun k hk => by
        have e : k ≠ p.1 := fun e => nA (e ▸ hk)
        have := g k ((hs_cons _ _ _).2 (.inr hk))
        rw [gt, gt, if_neg (fun x => e x.symm), if_neg (fun x => e (x.symm.trans ek.symm))] at this
        exact this
      rw [ih a2 b2 hAB hg, Prod.ext ek ev]
omit [Inhabited β] in
theorem sd_mid {A B : List (Ct β)} {p : Ct β} (hS : Sd (A ++ p :: B)) : (∀ q ∈ A, bl q.1 p.1 = true) ∧ (∀ q ∈ B, bl p.1 q.1 = true) ∧ Sd A ∧ Sd B := by
  obtain ⟨h1, h2, h3⟩ := List.pairwise_append.1 hS
  obtain ⟨h4, h5⟩ := List.pairwise_cons.1 h2
  exact ⟨fun q hq => h3 q hq p (by simp), h4, h1, h5⟩
theorem gt_mid {A B : List (Ct β)} {p : Ct β} (hS : Sd (A ++ p :: B)) : gt (A ++ p :: B) p.1 = p.2 := by
  obtain ⟨h, -, -, -⟩ := sd_mid hS
  clear hS
  induction A with
  | nil => rw [List.nil_append, gt, if_pos rfl]
  | cons a A ih =>
    rw [List.cons_append, gt, if_neg (bl_not (h a (by simp))), ih fun q hq => h q (by simp [hq])]
omit [Inhabited β] in
theorem pt_mid {A B : List (Ct β)} {p : Ct β} (hS : Sd (A ++ p :: B)) (v : β) : pt (A ++ p :: B) p.1 v = A ++ (p.1, v) :: B := by
  obtain ⟨h, -, -, -⟩ := sd_mid hS
  clear hS
  induction A with
  | nil => rw [List.nil_append, pt, if_pos rfl]; rfl
  | cons a A ih =>
    have ha := h a (by simp)
    rw [List.cons_append, pt, if_neg (bl_not ha), if_pos ha, ih fun q hq => h q (by simp [hq])]; rfl
omit [Inhabited β] in
theorem dl_mid {A B : List (Ct β)} {p : Ct β} (hS : Sd (A ++ p :: B)) : dl (A ++ p :: B) p.1 = A ++ B := by
  obtain ⟨h, h', _, _⟩ := sd_mid hS
  rw [dl, List.filter_append, List.filter_cons, if_neg (by simp), List.filter_eq_self.2, List.filter_eq_self.2]
  · intro q hq; have := bl_not (h' q hq); simpa using fun e => this e.symm
  · intro q hq; have := bl_not (h q hq); simpa using this
omit [Inhabited β] in
theorem hs_mid (A B : List (Ct β)) (p : Ct β) : hs (A ++ p :: B) p.1 := mem_keys (by simp)

/-- A key's literal. -/
def kL (k : ByteArray) : Lit := .string k.data.toList
theorem kL_inj {a b : ByteArray} (h : kL a = kL b) : a = b := bytes_inj (by simpa [kL] using h)
theorem kL_key (k : ByteArray) : WideAt.IsKeyLit (kL k) := by unfold kL WideAt.IsKeyLit; first | rfl | simp | trivial
/-- What a map's datum reads as. -/
def Tl {H : Type} (enc : β → DataW H) (D : DataW H) (L : List (Ct β)) : Prop :=
  Maps.Tidy D ∧ Maps.size D = L.length ∧ (∀ k, Maps.has D (kL k) = decide (hs L k)) ∧ ∀ k, hs L k → ∀ z, D.atKey (kL k) z = enc (gt L k)
theorem tl_nil {H : Type} (enc : β → DataW H) : Tl enc (.map [] : DataW H) ([] : List (Ct β)) := ⟨Maps.tidy_empty, rfl, fun k => by simp [Maps.has, hs], fun k h => by simp [hs] at h⟩
theorem tl_at {H : Type} {enc : β → DataW H} {D : DataW H} {L : List (Ct β)} (h : Tl enc D L) (k : ByteArray) : D.atKey (kL k) (enc default) = enc (gt L k) := by
  by_cases hh : hs L k
  · exact h.2.2.2 k hh _
  · rw [Maps.atKey_of_not_has (by rw [h.2.2.1, decide_eq_false hh]), gt_none hh]
theorem tl_put {H : Type} {enc : β → DataW H} {D : DataW H} {L : List (Ct β)} (h : Tl enc D L) (hS : Sd L) (k : ByteArray) (v : β) : Tl enc (D.put (kL k) (enc v)) (pt L k v) := by
  obtain ⟨h1, h2, h3, h4⟩ := h
  refine ⟨h1.put (kL_key k) _, ?_, fun x => ?_, fun x hx z => ?_⟩
  · rw [Maps.size_put h1, h3, len_pt hS, h2]
    by_cases hh : hs L k <;> simp [hh]
  · by_cases e : x = k
    · subst e
      rw [Maps.has_put_same h1.isMap (kL_key x)]
      exact (decide_eq_true ((hs_pt _ _ _ _).2 (.inl rfl))).symm
    · rw [Maps.has_put_other (fun h => e (kL_inj h)), h3]
      exact decide_eq_decide.2 (by rw [hs_pt]; exact ⟨.inr, fun h => h.resolve_left e⟩)
  · rw [gt_pt hS]
    by_cases e : x = k
    · subst e
      rw [if_pos rfl, Maps.atKey_put_same h1.isMap (kL_key x)]
    · rw [if_neg e, Maps.atKey_put_other (fun h => e (kL_inj h))]
      exact h4 x (((hs_pt _ _ _ _).1 hx).resolve_left e) z
theorem tl_del {H : Type} {enc : β → DataW H} {D : DataW H} {L : List (Ct β)} (h : Tl enc D L) (hS : Sd L) (k : ByteArray) : Tl enc (D.del (kL k)) (dl L k) := by
  obtain ⟨h1, h2, h3, h4⟩ := h
  refine ⟨h1.del _, ?_, fun x => ?_, fun x hx z => ?_⟩
  · have e1 := Maps.size_del (k := kL k) h1
    have e2 := len_dl hS k
    rw [h3] at e1
    by_cases hh : hs L k
    · rw [if_pos hh] at e2; rw [decide_eq_true hh, if_pos rfl] at e1; omega
    · rw [if_neg hh] at e2; rw [decide_eq_false hh, if_neg (by decide)] at e1; omega
  · by_cases e : x = k
    · subst e
      rw [Maps.has_del_same]
      exact (decide_eq_false (fun h => ((hs_dl _ _ _).1 h).1 rfl)).symm
    · rw [Maps.has_del_other (fun h => e (kL_inj h)), h3]
      exact decide_eq_decide.2 (by rw [hs_dl]; exact ⟨fun h => ⟨e, h⟩, fun h => h.2⟩)
  · obtain ⟨e, hx'⟩ := (hs_dl _ _ _).1 hx
    rw [Maps.atKey_del_other (fun h => e (kL_inj h)), gt_dl _ _ _ e]
    exact h4 x hx' z
/-- The keys of a datum, sorted. -/
theorem tl_keys {H : Type} {enc : β → DataW H} {D : DataW H} {L : List (Ct β)} (h : Tl enc D L) (hS : Sd L) (hk : ∀ es, D = .map es → ∀ p ∈ es, ∃ x, p.1 = .string x) {ss : List (List UInt8)} (hp : ss.Perm (strKeys D)) :
    ss.mergeSort (fun x y => decide (x ≤ y)) = L.map fun p => p.1.data.toList := by
  obtain ⟨⟨es, rfl, hd⟩, h2, h3, h4⟩ := h
  have hp2 : (L.map fun p => p.1.data.toList).Perm (strKeys (.map es)) := by
    refine perm_strKeys hd (hk es rfl) ?_ ?_
    · exact List.pairwise_map.2 (hS.imp fun h e => bl_not h (bytes_inj e))
    · intro x
      have := h3 ⟨x.toArray⟩
      have e : kL ⟨x.toArray⟩ = .string x := by simp [kL]
      rw [e] at this
      rw [this, decide_eq_true_eq, hs, List.mem_map, List.mem_map]
      constructor
      · rintro ⟨p, hp, rfl⟩; exact ⟨p, hp, by simp⟩
      · rintro ⟨p, hp, ep⟩; exact ⟨p, hp, by rw [ep]⟩
  have h5 := mergeSort_of_perm (hp.trans hp2.symm)
  show ss.mergeSort leB = _
  rw [h5]
  refine List.mergeSort_of_pairwise (List.pairwise_map.2 (hS.imp fun {a b} h => ?_))
  have := (bl_iff _ _).1 h
  simpa [leB] using List.le_of_lt this
/-- The values changed by a function. -/
def mv {γ : Type} (f : β → γ) (L : List (Ct β)) : List (Ct γ) := L.map fun p => (p.1, f p.2)
section
variable {γ : Type} [Inhabited γ]
omit [Inhabited β] [Inhabited γ] in
theorem hs_mv (f : β → γ) (L : List (Ct β)) (k : ByteArray) : hs (mv f L) k ↔ hs L k := by simp [hs, mv]
omit [Inhabited β] [Inhabited γ] in
theorem sd_mv (f : β → γ) {L : List (Ct β)} (h : Sd L) : Sd (mv f L) := List.pairwise_map.2 h
omit [Inhabited β] [Inhabited γ] in
theorem pt_mv (f : β → γ) (L : List (Ct β)) (k : ByteArray) (v : β) : mv f (pt L k v) = pt (mv f L) k (f v) := by
  induction L with
  | nil => rfl
  | cons p L ih =>
    simp only [mv, List.map_cons, pt] at ih ⊢
    by_cases e : p.1 = k
    · rw [if_pos e, if_pos e]; rfl
    · rw [if_neg e, if_neg e]
      by_cases hb : bl p.1 k = true
      · rw [if_pos hb, if_pos hb, List.map_cons, ih]
      · rw [if_neg hb, if_neg hb]; rfl
omit [Inhabited β] [Inhabited γ] in
theorem dl_mv (f : β → γ) (L : List (Ct β)) (k : ByteArray) : mv f (dl L k) = dl (mv f L) k := by
  simp only [mv, dl, List.filter_map]; rfl
theorem gt_mv (f : β → γ) (L : List (Ct β)) (k : ByteArray) (h : hs L k) : gt (mv f L) k = f (gt L k) := by
  induction L with
  | nil => simp [hs] at h
  | cons p L ih =>
    simp only [mv, List.map_cons, gt] at ih ⊢
    by_cases e : p.1 = k
    · rw [if_pos e, if_pos e]
    · rw [if_neg e, if_neg e]
      exact ih (((hs_cons _ _ _).1 h).resolve_left fun h => e h.symm)
end
theorem gt_in {L : List (Ct β)} {k : ByteArray} (h : hs L k) : (k, gt L k) ∈ L := by
  induction L with
  | nil => simp [hs] at h
  | cons p L ih =>
    rw [gt]
    by_cases e : p.1 = k
    · rw [if_pos e, ← e]; exact List.mem_cons_self
    · rw [if_neg e]; exact List.mem_cons_of_mem _ (ih (((hs_cons _ _ _).1 h).resolve_left fun h => e h.symm))
theorem gt_at {L : List (Ct β)} (hS : Sd L) {p : Ct β} (h : p ∈ L) : gt L p.1 = p.2 := by
  obtain ⟨A, B, rfl⟩ := List.append_of_mem h
  exact gt_mid hS
omit [Inhabited β] in
theorem mem_pt {L : List (Ct β)} {k : ByteArray} {v : β} {p : Ct β} (h : p ∈ pt L k v) : p = (k, v) ∨ p ∈ L ∧ True := by
  induction L with
  | nil => rw [pt] at h; exact .inl (by simpa using h)
  | cons q L ih =>
    rw [pt] at h
    by_cases e : q.1 = k
    · rw [if_pos e] at h
      rcases List.mem_cons.1 h with h | h
      · exact .inl h
      · exact .inr ⟨List.mem_cons_of_mem _ h, trivial⟩
    · rw [if_neg e] at h
      by_cases hb : bl q.1 k = true
      · rw [if_pos hb] at h
        rcases List.mem_cons.1 h with h | h
        · exact .inr ⟨by rw [h]; exact List.mem_cons_self, trivial⟩
        · exact (ih h).imp_right fun h => ⟨List.mem_cons_of_mem _ h.1, trivial⟩
      · rw [if_neg hb] at h
        rcases List.mem_cons.1 h with h | h
        · exact .inl h
        · exact .inr ⟨h, trivial⟩
/-- What is left beside a name that is set anew. -/
theorem mem_pt2 {L : List (Ct β)} (hS : Sd L) {k : ByteArray} {v : β} {p : Ct β} (h : p ∈ pt L k v) : p = (k, v) ∨ p ∈ L ∧ p.1 ≠ k := by
  by_cases e : p.1 = k
  · have h1 := gt_at (sd_pt hS k v) h
    rw [gt_pt hS, if_pos e] at h1
    exact .inl (Prod.ext e h1.symm)
  · rcases mem_pt h with h | h
    · exact absurd (by rw [h]) e
    · exact .inr ⟨h.1, e⟩
omit [Inhabited β] in
theorem mem_dl {L : List (Ct β)} {k : ByteArray} {p : Ct β} : p ∈ dl L k ↔ p ∈ L ∧ p.1 ≠ k := by simp [dl]
/-- The sum of a number over all values. -/
def sv (f : β → Nat) (L : List (Ct β)) : Nat := (L.map fun p => f p.2).sum
theorem sv_pt {L : List (Ct β)} (hS : Sd L) (f : β → Nat) (k : ByteArray) (v : β) : sv f (pt L k v) + (if hs L k then f (gt L k) else 0) = sv f L + f v := by
  induction L with
  | nil => simp [sv, pt, hs]
  | cons p L ih =>
    obtain ⟨h1, h2⟩ := List.pairwise_cons.1 hS
    have ih' := ih h2
    rw [pt, gt]
    by_cases e : p.1 = k
    · rw [if_pos e, if_pos e, if_pos ((hs_cons _ _ _).2 (.inl e.symm))]
      simp only [sv, List.map_cons, List.sum_cons]; omega
    · rw [if_neg e, if_neg e]
      have hi : hs (p :: L) k ↔ hs L k := by rw [hs_cons]; exact ⟨fun h => h.resolve_left fun h => e h.symm, .inr⟩
      by_cases hb : bl p.1 k = true
      · rw [if_pos hb]
        simp only [sv, List.map_cons, List.sum_cons] at ih' ⊢
        by_cases hh : hs L k
        · rw [if_pos (hi.2 hh)]; rw [if_pos hh] at ih'; omega
        · rw [if_neg fun h => hh (hi.1 h)]; rw [if_neg hh] at ih'; omega
      · have hn : ¬ hs L k := fun h => by
          obtain ⟨q, hq, eq⟩ := List.mem_map.1 h
          exact hb (by rw [← eq]; exact h1 q hq)
        rw [if_neg hb, if_neg fun h => hn (hi.1 h)]
        simp only [sv, List.map_cons, List.sum_cons]; omega
end
end Go.Proofs.Ytjajmlamlmnljaa
