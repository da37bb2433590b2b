/- Plain facts: keys in order (strings and their hashes), sets of keys as lists. -/
import Derived.Lib.SlicesS
namespace Go.Proofs.Ytajainkaomkbjaa.Bt
open Go

theorem bytesLess_lt : ∀ (x y : List UInt8), Op.bytesLess x y = decide (x < y)
  | [], [] => by simp [Op.bytesLess]
  | _ :: _, [] => by simp [Op.bytesLess]
  | [], _ :: _ => by simp [Op.bytesLess]
  | a :: x, b :: y => by
    rw [Op.bytesLess, bytesLess_lt x y]
    simp only [List.cons_lt_cons_iff]
    by_cases h1 : a < b <;> by_cases h2 : a = b <;> by_cases h3 : x < y <;> simp [h1, h2, h3]
/-- The order of strings. -/
def bl (a b : ByteArray) : Bool := Op.bytesLess a.toList b.toList
theorem bl_iff (a b : ByteArray) : bl a b = true ↔ a.data.toList < b.data.toList := by
  unfold bl; rw [bytesLess_lt, ByteArray.toList_eq, ByteArray.toList_eq]; simp
theorem bl_irrefl (a : ByteArray) : bl a a = false := by
  cases h : bl a a with
  | false => rfl
  | true => exact absurd ((bl_iff _ _).1 h) (List.lt_irrefl _)
theorem bl_trans {a b c : ByteArray} (h : bl a b = true) (k : bl b c = true) : bl a c = true :=
  (bl_iff _ _).2 (List.lt_trans ((bl_iff _ _).1 h) ((bl_iff _ _).1 k))
theorem bl_asymm {a b : ByteArray} (h : bl a b = true) : bl b a = false := by
  cases k : bl b a with
  | false => rfl
  | true => have := bl_trans h k; rw [bl_irrefl] at this; cases this
theorem toList_inj {a b : ByteArray} (h : a.data.toList = b.data.toList) : a = b := ByteArray.ext (Array.toList_inj.mp h)
theorem bl_tri (a b : ByteArray) : bl a b = true ∨ a = b ∨ bl b a = true := by
  by_cases h : a.data.toList < b.data.toList
  · exact .inl ((bl_iff _ _).2 h)
  · by_cases k : b.data.toList < a.data.toList
    · exact .inr (.inr ((bl_iff _ _).2 k))
    · exact .inr (.inl (toList_inj (List.le_antisymm (List.not_lt.1 k) (List.not_lt.1 h))))
theorem bl_ne {a b : ByteArray} (h : bl a b = false) (hne : a ≠ b) : bl b a = true := by
  rcases bl_tri a b with k | k | k
  · rw [h] at k; cases k
  · exact absurd k hne
  · exact k
/-- A key: its hash and its text. -/
abbrev Ky := Int × ByteArray
/-- The order of keys. -/
def kl (a b : Ky) : Bool := decide (a.1 < b.1) || (decide (a.1 = b.1) && bl a.2 b.2)
theorem kl_iff (a b : Ky) : kl a b = true ↔ a.1 < b.1 ∨ (a.1 = b.1 ∧ bl a.2 b.2 = true) := by unfold kl; simp
theorem kl_irrefl (a : Ky) : kl a a = false := by
  cases h : kl a a with
  | false => rfl
  | true =>
    rcases (kl_iff _ _).1 h with h | ⟨_, h⟩
    · omega
    · rw [bl_irrefl] at h; cases h
theorem kl_trans {a b c : Ky} (h : kl a b = true) (k : kl b c = true) : kl a c = true := by
  rw [kl_iff] at h k ⊢
  rcases h with h | ⟨h, h2⟩ <;> rcases k with k | ⟨k, k2⟩
  · exact .inl (by omega)
  · exact .inl (by omega)
  · exact .inl (by omega)
  · exact .inr ⟨by omega, bl_trans h2 k2⟩
theorem kl_asymm {a b : Ky} (h : kl a b = true) : kl b a = false := by
  cases k : kl b a with
  | false => rfl
  | true => have := kl_trans h k; rw [kl_irrefl] at this; cases this
theorem kl_tri (a b : Ky) : kl a b = true ∨ a = b ∨ kl b a = true := by
  rcases Int.lt_trichotomy a.1 b.1 with h | h | h
  · exact .inl ((kl_iff _ _).2 (.inl h))
  · rcases bl_tri a.2 b.2 with k | k | k
    · exact .inl ((kl_iff _ _).2 (.inr ⟨h, k⟩))
    · exact .inr (.inl (Prod.ext h k))
    · exact .inr (.inr ((kl_iff _ _).2 (.inr ⟨h.symm, k⟩)))
  · exact .inr (.inr ((kl_iff _ _).2 (.inl h)))
theorem kl_ne {a b : Ky} (h : kl a b = false) (hne : a ≠ b) : kl b a = true := by
  rcases kl_tri a b with k | k | k
  · rw [h] at k; cases k
  · exact absurd k hne
  · exact k
/-- Keys in order, each once. -/
def Srt (d : List Ky) : Prop := d.Pairwise fun a b => kl a b = true
theorem srt_ext {a b : List Ky} (ha : Srt a) (hb : Srt b) (h : ∀ x, x ∈ a ↔ x ∈ b) : a = b := by
  induction a generalizing b with
  | nil =>
    cases b with
    | nil => rfl
    | cons y b => exact absurd ((h y).2 (by simp)) (by simp)
  | cons x a ih =>
    cases b with
    | nil => exact absurd ((h x).1 (by simp)) (by simp)
    | cons y b =>
      obtain ⟨hx, ha'⟩ := List.pairwise_cons.1 ha
      obtain ⟨hy, hb'⟩ := List.pairwise_cons.1 hb
      have exy : x = y := by
        rcases List.mem_cons.1 ((h x).1 (by simp)) with e | e
        · exact e
        · rcases List.mem_cons.1 ((h y).2 (by simp)) with e' | e'
          · exact e'.symm
          · have := kl_trans (hx y e') (hy x e)
            rw [kl_irrefl] at this; cases this
      subst exy
      congr 1
      refine ih ha' hb' fun z => ⟨fun hz => ?_, fun hz => ?_⟩
      · rcases List.mem_cons.1 ((h z).1 (List.mem_cons_of_mem _ hz)) with e | e
        · subst e; have := hx z hz; rw [kl_irrefl] at this; cases this
        · exact e
      · rcases List.mem_cons.1 ((h z).2 (List.mem_cons_of_mem _ hz)) with e | e
        · subst e; have := hy z hz; rw [kl_irrefl] at this; cases this
        · exact e

/-- How many strings at the head are less. -/
def lw (d : List Ky) (s : Ky) : Nat := (d.takeWhile fun x => kl x s).length
theorem lw_nil (s : Ky) : lw [] s = 0 := rfl
theorem lw_cons (x : Ky) (d : List Ky) (s : Ky) : lw (x :: d) s = if kl x s = true then lw d s + 1 else 0 := by
  unfold lw
  by_cases h : kl x s = true
  · rw [if_pos h, List.takeWhile_cons, if_pos h, List.length_cons]
  · rw [if_neg h, List.takeWhile_cons, if_neg h]; rfl
theorem lw_le (d : List Ky) (s : Ky) : lw d s ≤ d.length := by
  induction d with
  | nil => exact Nat.le_refl _
  | cons x d ih =>
    rw [lw_cons]
    split
    · rw [List.length_cons]; omega
    · exact Nat.zero_le _
theorem lw_low (d : List Ky) (s : Ky) (j : Nat) (h : j < lw d s) : ∀ hj : j < d.length, kl d[j] s = true := by
  induction d generalizing j with
  | nil => intro hj; exact absurd hj (by simp)
  | cons x d ih =>
    intro hj
    rw [lw_cons] at h
    by_cases hx : kl x s = true
    · rw [if_pos hx] at h
      cases j with
      | zero => exact hx
      | succ j => exact ih j (by omega) (by simpa using hj)
    · rw [if_neg hx] at h; omega
theorem lw_at (d : List Ky) (s : Ky) : ∀ h : lw d s < d.length, kl d[lw d s] s = false := by
  induction d with
  | nil => intro h; exact absurd h (by simp)
  | cons x d ih =>
    intro h
    by_cases hx : kl x s = true
    · have e : lw (x :: d) s = lw d s + 1 := by rw [lw_cons, if_pos hx]
      have h' : lw d s < d.length := by rw [e] at h; simpa using h
      have := ih h'
      simpa only [e, List.getElem_cons_succ] using this
    · have e : lw (x :: d) s = 0 := by rw [lw_cons, if_neg hx]
      simp only [e, List.getElem_cons_zero]
      simpa using hx
theorem lw_eq (d : List Ky) (s : Ky) (k : Nat) (hk : k ≤ d.length) (h1 : ∀ j, j < k → ∀ hj : j < d.length, kl d[j] s = true) (h2 : ∀ h : k < d.length, kl d[k] s = false) : lw d s = k := by
  rcases Nat.lt_trichotomy (lw d s) k with h | h | h
  · have := lw_at d s (by omega)
    rw [h1 _ h (by omega)] at this; cases this
  · exact h
  · have := lw_le d s
    have e := lw_low d s k h (by omega)
    rw [h2 (by omega)] at e; cases e
theorem srt_get {d : List Ky} (h : Srt d) {i j : Nat} (hij : i < j) (hj : j < d.length) : kl d[i] d[j] = true :=
  List.pairwise_iff_getElem.1 h i j (by omega) hj hij
theorem srt_low {d : List Ky} (h : Srt d) (s : Ky) (j : Nat) (hj : j < d.length) : kl d[j] s = decide (j < lw d s) := by
  by_cases hl : j < lw d s
  · rw [decide_eq_true hl]; exact lw_low d s j hl hj
  · rw [decide_eq_false hl]
    have hk : lw d s < d.length := by omega
    have ha := lw_at d s hk
    cases hc : kl d[j] s with
    | false => rfl
    | true =>
      rcases Nat.lt_or_eq_of_le (Nat.le_of_not_lt hl) with h1 | h1
      · have := kl_trans (srt_get h h1 hj) hc
        rw [ha] at this; cases this
      · have e : d[lw d s] = d[j] := by congr 1
        rw [e, hc] at ha; cases ha
theorem countP_lt (n k : Nat) (p : Nat → Bool) (hk : k ≤ n) (h : ∀ i, i < n → p i = decide (i < k)) : (List.range n).countP p = k := by
  induction n generalizing k with
  | zero => simp; omega
  | succ n ih =>
    rw [List.range_succ, List.countP_append]
    by_cases e : k = n + 1
    · subst e
      have := ih n (Nat.le_refl _) (fun i hi => by rw [h i (by omega)]; simp; omega)
      rw [this]
      have hn := h n (by omega)
      simp [hn]
    · have := ih k (by omega) (fun i hi => h i (by omega))
      rw [this]
      have hn := h n (by omega)
      have : ¬ n < k := by omega
      simp [hn, this]
/-- A string put into its place, once. -/
def ins (d : List Ky) (s : Ky) : List Ky := if d[lw d s]? = some s then d else d.take (lw d s) ++ s :: d.drop (lw d s)
theorem ins_mem (d : List Ky) (s x : Ky) : x ∈ ins d s ↔ x ∈ d ∨ x = s := by
  unfold ins
  split
  · rename_i h
    have := List.mem_of_getElem? h
    constructor
    · exact .inl
    · rintro (h | rfl)
      · exact h
      · exact this
  · have e : x ∈ d ↔ x ∈ d.take (lw d s) ∨ x ∈ d.drop (lw d s) := by
      rw [← List.mem_append, List.take_append_drop]
    rw [e, List.mem_append, List.mem_cons]
    constructor
    · rintro (h | h | h)
      · exact .inl (.inl h)
      · exact .inr h
      · exact .inl (.inr h)
    · rintro ((h | h) | h)
      · exact .inl h
      · exact .inr (.inr h)
      · exact .inr (.inl h)
theorem ins_srt {d : List Ky} (h : Srt d) (s : Ky) : Srt (ins d s) := by
  unfold ins
  split
  · exact h
  · rename_i hne
    have hlow : ∀ x ∈ d.take (lw d s), kl x s = true := by
      intro x hx
      obtain ⟨j, hj, rfl⟩ := List.mem_iff_getElem.1 hx
      rw [List.getElem_take]
      rw [List.length_take] at hj
      exact lw_low d s j (by omega) _
    have hhigh : ∀ x ∈ d.drop (lw d s), kl s x = true := by
      intro x hx
      obtain ⟨j, hj, rfl⟩ := List.mem_iff_getElem.1 hx
      rw [List.getElem_drop]
      rw [List.length_drop] at hj
      have hl := srt_low h s (lw d s + j) (by omega)
      rw [decide_eq_false (by omega)] at hl
      refine kl_ne hl fun e => ?_
      rcases Nat.eq_zero_or_pos j with h0 | h0
      · subst h0
        exact hne (by rw [List.getElem?_eq_getElem (by omega)]; congr 1)
      · have h1 := srt_get h (i := lw d s) (j := lw d s + j) (by omega) (by omega)
        rw [e] at h1
        rw [lw_at d s (by omega)] at h1; cases h1
    refine List.pairwise_append.2 ⟨List.Pairwise.sublist (List.take_sublist _ _) h, List.pairwise_cons.2 ⟨hhigh, List.Pairwise.sublist (List.drop_sublist _ _) h⟩, fun a ha b hb => ?_⟩
    rcases List.mem_cons.1 hb with rfl | hb
    · exact hlow a ha
    · exact kl_trans (hlow a ha) (hhigh b hb)
theorem ins_len (d : List Ky) (s : Ky) : (ins d s).length ≤ d.length + 1 := by
  unfold ins
  split
  · omega
  · have := lw_le d s
    simp; omega
/-- The dictionary of some strings. -/
def bld (l : List Ky) : List Ky := l.foldl ins []
theorem fold_srt (l : List Ky) {d : List Ky} (h : Srt d) : Srt (l.foldl ins d) := by
  induction l generalizing d with
  | nil => exact h
  | cons x l ih => exact ih (ins_srt h x)
theorem fold_mem (l d : List Ky) (x : Ky) : x ∈ l.foldl ins d ↔ x ∈ d ∨ x ∈ l := by
  induction l generalizing d with
  | nil => simp
  | cons y l ih => rw [List.foldl_cons, ih, ins_mem, List.mem_cons, or_assoc]
theorem fold_len (l d : List Ky) : (l.foldl ins d).length ≤ d.length + l.length := by
  induction l generalizing d with
  | nil => simp
  | cons y l ih => have := ih (ins d y); have := ins_len d y; rw [List.foldl_cons, List.length_cons]; omega
theorem srt_nil : Srt [] := List.Pairwise.nil
theorem bld_srt (l : List Ky) : Srt (bld l) := fold_srt l srt_nil
theorem bld_mem (l : List Ky) (x : Ky) : x ∈ bld l ↔ x ∈ l := by unfold bld; rw [fold_mem]; simp
theorem bld_len (l : List Ky) : (bld l).length ≤ l.length := by have := fold_len l []; simpa [bld] using this
theorem bld_self {d : List Ky} (h : Srt d) : bld d = d := srt_ext (bld_srt d) h (bld_mem d)
theorem bld_merge {a : List Ky} (h : Srt a) (b : List Ky) : b.foldl ins a = bld (a ++ b) :=
  srt_ext (fold_srt b h) (bld_srt _) fun x => by rw [fold_mem, bld_mem, List.mem_append]
theorem bld_snoc (l : List Ky) (x : Ky) : bld (l ++ [x]) = ins (bld l) x := by unfold bld; rw [List.foldl_append]; rfl
/-! A sketch: the first n keys, and whether there are more. -/
theorem lw_take (d : List Ky) (s : Ky) (n : Nat) : lw (d.take n) s = min (lw d s) n := by
  induction d generalizing n with
  | nil => simp [lw_nil]
  | cons x d ih =>
    cases n with
    | zero => simp [lw_nil]
    | succ n =>
      rw [List.take_succ_cons, lw_cons, lw_cons, ih]
      split <;> omega
/-- What inserting a key does to a sketch. -/
def stp (n : Nat) (x : List Ky × Bool) (k : Ky) : List Ky × Bool :=
  if x.1[lw x.1 k]? = some k then x
  else if lw x.1 k = n then (x.1, true)
  else if n < (x.1.take (lw x.1 k) ++ k :: x.1.drop (lw x.1 k)).length then ((x.1.take (lw x.1 k) ++ k :: x.1.drop (lw x.1 k)).take n, true)
  else (x.1.take (lw x.1 k) ++ k :: x.1.drop (lw x.1 k), x.2)
/-- The sketch of a set. -/
def skt (n : Nat) (S : List Ky) : List Ky × Bool := (S.take n, decide (n < S.length))
theorem ins_length (d : List Ky) (s : Ky) : (ins d s).length = if d[lw d s]? = some s then d.length else d.length + 1 := by
  unfold ins
  split
  · rfl
  · have := lw_le d s; simp; omega
theorem stp_skt (n : Nat) (S : List Ky) (k : Ky) : stp n (skt n S) k = skt n (ins S k) := by
  have hp := lw_le S k
  have hil := ins_length S k
  unfold stp skt
  simp only
  rw [lw_take]
  by_cases hlt : lw S k < n
  · rw [Nat.min_eq_left (by omega), List.getElem?_take_of_lt hlt]
    by_cases hh : S[lw S k]? = some k
    · rw [if_pos hh]
      have e : ins S k = S := by unfold ins; rw [if_pos hh]
      rw [e]
    · rw [if_neg hh, if_neg (by omega)]
      have e : ins S k = S.take (lw S k) ++ k :: S.drop (lw S k) := by unfold ins; rw [if_neg hh]
      rw [if_neg hh] at hil
      obtain ⟨p, hpe⟩ : ∃ p, p = lw S k := ⟨_, rfl⟩
      rw [← hpe] at hlt e hp ⊢
      rw [List.take_take, Nat.min_eq_left (by omega), List.drop_take]
      have hl : (S.take p ++ k :: (S.drop p).take (n - p)).length = 1 + min n S.length := by simp; omega
      have et : (S.take p ++ k :: S.drop p).take n = (S.take p ++ k :: (S.drop p).take (n - p)).take n := by
        have h1 : (S.take p).length = p := by simp; omega
        obtain ⟨q, rfl⟩ : ∃ q, n = p + (q + 1) := ⟨n - p - 1, by omega⟩
        rw [List.take_append, List.take_append, h1, Nat.add_sub_cancel_left, List.take_succ_cons, List.take_succ_cons]
        congr 2
        rw [List.take_take, Nat.min_eq_left (by omega)]
      rw [hl, e] 
      rw [e] at hil
      by_cases hn : n ≤ S.length
      · rw [if_pos (by omega), et, hil, decide_eq_true (by omega)]
      · rw [if_neg (by omega), hil, decide_eq_false (by omega), decide_eq_false (by omega)]
        rw [et, List.take_of_length_le (l := _ ++ _) (by rw [hl]; omega)]
  · rw [Nat.min_eq_right (by omega), List.getElem?_take_eq_none (by omega), if_neg (by simp), if_pos rfl]
    by_cases hh : S[lw S k]? = some k
    · have e : ins S k = S := by unfold ins; rw [if_pos hh]
      have := (List.getElem?_eq_some_iff.1 hh).1
      rw [e, decide_eq_true (by omega)]
    · have e : ins S k = S.take (lw S k) ++ k :: S.drop (lw S k) := by unfold ins; rw [if_neg hh]
      rw [if_neg hh] at hil
      rw [decide_eq_true (by omega), e, List.take_append, List.take_take, Nat.min_eq_left (by omega), List.length_take, show n - min (lw S k) S.length = 0 by omega, List.take_zero, List.append_nil]
theorem fold_skt (n : Nat) (l : List Ky) (S : List Ky) : l.foldl (stp n) (skt n S) = skt n (l.foldl ins S) := by
  induction l generalizing S with
  | nil => rfl
  | cons x l ih => rw [List.foldl_cons, List.foldl_cons, stp_skt, ih]
theorem skt_nil (n : Nat) : skt n [] = ([], false) := by simp [skt]
theorem skt_len (n : Nat) (S : List Ky) : (skt n S).1.length ≤ n := by simp [skt]; omega
theorem skt_srt {S : List Ky} (h : Srt S) (n : Nat) : Srt (skt n S).1 := List.Pairwise.sublist (List.take_sublist _ _) h

/-- Two sets together. -/
def mrg : List Ky → List Ky → List Ky
  | [], b => b
  | x :: a, [] => x :: a
  | x :: a, y :: b => if kl x y = true then x :: mrg a (y :: b) else if kl y x = true then y :: mrg (x :: a) b else x :: mrg a b
  termination_by a b => a.length + b.length
theorem mrg_nil (a : List Ky) : mrg a [] = a := by cases a <;> simp [mrg]
theorem mrg_nil_l (b : List Ky) : mrg [] b = b := by simp [mrg]
theorem mrg_cons (x y : Ky) (a b : List Ky) : mrg (x :: a) (y :: b) = if kl x y = true then x :: mrg a (y :: b) else if kl y x = true then y :: mrg (x :: a) b else x :: mrg a b := by
  rw [mrg]
theorem mrg_mem : ∀ (a b : List Ky) (z : Ky), z ∈ mrg a b ↔ z ∈ a ∨ z ∈ b
  | [], b, z => by simp [mrg_nil_l]
  | x :: a, [], z => by simp [mrg_nil]
  | x :: a, y :: b, z => by
    rw [mrg_cons]
    split
    · rw [List.mem_cons, mrg_mem a (y :: b) z, List.mem_cons (a := z) (b := x), or_assoc]
    · split
      · rw [List.mem_cons, mrg_mem (x :: a) b z, List.mem_cons (a := z) (b := y)]
        constructor
        · rintro (h | h | h)
          · exact .inr (.inl h)
          · exact .inl h
          · exact .inr (.inr h)
        · rintro (h | h | h)
          · exact .inr (.inl h)
          · exact .inl h
          · exact .inr (.inr h)
      · rename_i h1 h2
        have e : x = y := by
          rcases kl_tri x y with h | h | h
          · exact absurd h h1
          · exact h
          · exact absurd h h2
        subst e
        rw [List.mem_cons, mrg_mem a b z, List.mem_cons, List.mem_cons]
        constructor
        · rintro (h | h | h)
          · exact .inl (.inl h)
          · exact .inl (.inr h)
          · exact .inr (.inr h)
        · rintro ((h | h) | (h | h))
          · exact .inl h
          · exact .inr (.inl h)
          · exact .inl h
          · exact .inr (.inr h)
  termination_by a b => a.length + b.length
theorem mrg_srt : ∀ (a b : List Ky), Srt a → Srt b → Srt (mrg a b)
  | [], b, _, h => by rw [mrg_nil_l]; exact h
  | x :: a, [], h, _ => by rw [mrg_nil]; exact h
  | x :: a, y :: b, ha, hb => by
    obtain ⟨hx, ha'⟩ := List.pairwise_cons.1 ha
    obtain ⟨hy, hb'⟩ := List.pairwise_cons.1 hb
    rw [mrg_cons]
    split
    · rename_i h1
      refine List.pairwise_cons.2 ⟨fun z hz => ?_, mrg_srt a (y :: b) ha' hb⟩
      rcases (mrg_mem _ _ _).1 hz with h | h
      · exact hx z h
      · rcases List.mem_cons.1 h with rfl | h
        · exact h1
        · exact kl_trans h1 (hy z h)
    · split
      · rename_i h1 h2
        refine List.pairwise_cons.2 ⟨fun z hz => ?_, mrg_srt (x :: a) b ha hb'⟩
        rcases (mrg_mem _ _ _).1 hz with h | h
        · rcases List.mem_cons.1 h with rfl | h
          · exact h2
          · exact kl_trans h2 (hx z h)
        · exact hy z h
      · rename_i h1 h2
        have e : x = y := by
          rcases kl_tri x y with h | h | h
          · exact absurd h h1
          · exact h
          · exact absurd h h2
        subst e
        refine List.pairwise_cons.2 ⟨fun z hz => ?_, mrg_srt a b ha' hb'⟩
        rcases (mrg_mem _ _ _).1 hz with h | h
        · exact hx z h
        · exact hy z h
  termination_by a b => a.length + b.length
theorem mrg_take : ∀ (n : Nat) (a b : List Ky), (mrg (a.take n) (b.take n)).take n = (mrg a b).take n
  | 0, a, b => by simp
  | n + 1, [], b => by rw [List.take_nil, mrg_nil_l, mrg_nil_l, List.take_take, Nat.min_self]
  | n + 1, x :: a, [] => by rw [List.take_nil, mrg_nil, mrg_nil, List.take_take, Nat.min_self]
  | n + 1, x :: a, y :: b => by
    rw [List.take_succ_cons, List.take_succ_cons, mrg_cons, mrg_cons]
    have ta : ∀ (l : List Ky), (l.take n).take n = l.take n := fun l => by rw [List.take_take, Nat.min_self]
    split
    · rw [List.take_succ_cons, List.take_succ_cons]
      congr 1
      have h1 := mrg_take n (a.take n) (y :: b.take n)
      have h2 := mrg_take n a (y :: b)
      rw [ta] at h1
      have e : (y :: b.take n).take n = (y :: b).take n := by
        cases n with
        | zero => rfl
        | succ m => rw [List.take_succ_cons, List.take_succ_cons, List.take_take, Nat.min_eq_left (by omega)]
      rw [e] at h1
      rw [← h1, h2]
    · split
      · rw [List.take_succ_cons, List.take_succ_cons]
        congr 1
        have h1 := mrg_take n (x :: a.take n) (b.take n)
        have h2 := mrg_take n (x :: a) b
        rw [ta] at h1
        have e : (x :: a.take n).take n = (x :: a).take n := by
          cases n with
          | zero => rfl
          | succ m => rw [List.take_succ_cons, List.take_succ_cons, List.take_take, Nat.min_eq_left (by omega)]
        rw [e] at h1
        rw [← h1, h2]
      · rw [List.take_succ_cons, List.take_succ_cons]
        congr 1
        exact mrg_take n a b
theorem mrg_len : ∀ (a b : List Ky), a.length ≤ (mrg a b).length ∧ b.length ≤ (mrg a b).length ∧ (mrg a b).length ≤ a.length + b.length
  | [], b => by simp [mrg_nil_l]
  | x :: a, [] => by simp [mrg_nil]
  | x :: a, y :: b => by
    rw [mrg_cons]
    split
    · have h := mrg_len a (y :: b); simp at h ⊢; omega
    · split
      · have h := mrg_len (x :: a) b; simp at h ⊢; omega
      · have h := mrg_len a b; simp at h ⊢; omega
  termination_by a b => a.length + b.length
/-- What merging does to a sketch. -/
def kep (n : Nat) (l : List Ky) (m : Bool) : List Ky × Bool := if n < l.length then (l.take n, true) else (l, m)
theorem kep_mrg (n : Nat) (S T : List Ky) : kep n (mrg (skt n S).1 (skt n T).1) ((skt n S).2 || (skt n T).2) = skt n (mrg S T) := by
  have ht := mrg_take n S T
  have h1 := mrg_len S T
  have h2 := mrg_len (S.take n) (T.take n)
  unfold kep skt
  simp only [List.length_take] at h2 ⊢
  have hl : ∀ l : List Ky, ¬ n < l.length → l = l.take n := fun l h => (List.take_of_length_le (by omega)).symm
  by_cases hs : n < S.length
  · rw [decide_eq_true hs, Bool.true_or, decide_eq_true (show n < (mrg S T).length by omega), ← ht]
    split
    · rfl
    · rename_i h; rw [← hl _ h]
  · by_cases hT : n < T.length
    · rw [decide_eq_true hT, Bool.or_true, decide_eq_true (show n < (mrg S T).length by omega), ← ht]
      split
      · rfl
      · rename_i h; rw [← hl _ h]
    · rw [decide_eq_false hs, decide_eq_false hT, Bool.or_false, ← hl S hs, ← hl T hT]
      split
      · rename_i h; rw [decide_eq_true h]
      · rename_i h; rw [decide_eq_false h, ← hl _ h]
theorem mrg_fold {S T : List Ky} (hS : Srt S) (hT : Srt T) : mrg S T = T.foldl ins S :=
  srt_ext (mrg_srt _ _ hS hT) (fold_srt _ hS) fun x => by rw [mrg_mem, fold_mem]
theorem mrg_bld (l m : List Ky) : mrg (bld l) (bld m) = bld (l ++ m) :=
  srt_ext (mrg_srt _ _ (bld_srt _) (bld_srt _)) (bld_srt _) fun x => by rw [mrg_mem, bld_mem, bld_mem, bld_mem, List.mem_append]
theorem mrg_comm {S T : List Ky} (hS : Srt S) (hT : Srt T) : mrg S T = mrg T S :=
  srt_ext (mrg_srt _ _ hS hT) (mrg_srt _ _ hT hS) fun x => by rw [mrg_mem, mrg_mem, or_comm]
theorem mrg_self {S : List Ky} (hS : Srt S) : mrg S S = S :=
  srt_ext (mrg_srt _ _ hS hS) hS fun x => by rw [mrg_mem, or_self]
theorem mrg_assoc {S T U : List Ky} (hS : Srt S) (hT : Srt T) (hU : Srt U) : mrg (mrg S T) U = mrg S (mrg T U) :=
  srt_ext (mrg_srt _ _ (mrg_srt _ _ hS hT) hU) (mrg_srt _ _ hS (mrg_srt _ _ hT hU)) fun x => by rw [mrg_mem, mrg_mem, mrg_mem, mrg_mem, or_assoc]
end Go.Proofs.Ytajainkaomkbjaa.Bt
