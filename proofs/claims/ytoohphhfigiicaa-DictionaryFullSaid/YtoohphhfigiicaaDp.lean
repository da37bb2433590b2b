/- Plain facts: the order of strings, dictionaries as lists. -/
import Derived.Lib.SlicesS
import Derived.Lib.SlicesCompact
namespace Go.Proofs.Ytoohphhfigiicaa.Dp
open Go

theorem bytesLess_lt : ∀ (x y : List UInt8), Op.bytesLess x y = decide (x < y)
  | [], [] => by simp [Op.bytesLess]
  | _ :: _, [] => by simp [Op.bytesLess]
  | [], _ :: _ => by simp [Op.bytesLess]
  | a :: x, b :: y => by
    rw [Op.bytesLess, bytesLess_lt x y]
    simp only [List.cons_lt_cons_iff]
    by_cases h1 : a < b <;> by_cases h2 : a = b <;> by_cases h3 : x < y <;> simp [h1, h2, h3]
/-- The order of strings. -/
def bl (a b : ByteArray) : Bool := Op.bytesLess a.toList b.toList
theorem bl_iff (a b : ByteArray) : bl a b = true ↔ a.data.toList < b.data.toList := by
  unfold bl; rw [bytesLess_lt, ByteArray.toList_eq, ByteArray.toList_eq]; simp
theorem bl_irrefl (a : ByteArray) : bl a a = false := by
  cases h : bl a a with
  | false => rfl
  | true => exact absurd ((bl_iff _ _).1 h) (List.lt_irrefl _)
theorem bl_trans {a b c : ByteArray} (h : bl a b = true) (k : bl b c = true) : bl a c = true :=
  (bl_iff _ _).2 (List.lt_trans ((bl_iff _ _).1 h) ((bl_iff _ _).1 k))
theorem bl_asymm {a b : ByteArray} (h : bl a b = true) : bl b a = false := by
  cases k : bl b a with
  | false => rfl
  | true => have := bl_trans h k; rw [bl_irrefl] at this; cases this
theorem toList_inj {a b : ByteArray} (h : a.data.toList = b.data.toList) : a = b := ByteArray.ext (Array.toList_inj.mp h)
theorem bl_tri (a b : ByteArray) : bl a b = true ∨ a = b ∨ bl b a = true := by
  by_cases h : a.data.toList < b.data.toList
  · exact .inl ((bl_iff _ _).2 h)
  · by_cases k : b.data.toList < a.data.toList
    · exact .inr (.inr ((bl_iff _ _).2 k))
    · exact .inr (.inl (toList_inj (List.le_antisymm (List.not_lt.1 k) (List.not_lt.1 h))))
theorem bl_ne {a b : ByteArray} (h : bl a b = false) (hne : a ≠ b) : bl b a = true := by
  rcases bl_tri a b with k | k | k
  · rw [h] at k; cases k
  · exact absurd k hne
  · exact k
/-- A dictionary but for its limits: strictly increasing. -/
def Srt (d : List ByteArray) : Prop := d.Pairwise fun a b => bl a b = true
theorem srt_ext {a b : List ByteArray} (ha : Srt a) (hb : Srt b) (h : ∀ x, x ∈ a ↔ x ∈ b) : a = b := by
  induction a generalizing b with
  | nil =>
    cases b with
    | nil => rfl
    | cons y b => exact absurd ((h y).2 (by simp)) (by simp)
  | cons x a ih =>
    cases b with
    | nil => exact absurd ((h x).1 (by simp)) (by simp)
    | cons y b =>
      obtain ⟨hx, ha'⟩ := List.pairwise_cons.1 ha
      obtain ⟨hy, hb'⟩ := List.pairwise_cons.1 hb
      have exy : x = y := by
        rcases List.mem_cons.1 ((h x).1 (by simp)) with e | e
        · exact e
        · rcases List.mem_cons.1 ((h y).2 (by simp)) with e' | e'
          · exact e'.symm
          · have := bl_trans (hx y e') (hy x e)
            rw [bl_irrefl] at this; cases this
      subst exy
      congr 1
      refine ih ha' hb' fun z => ⟨fun hz => ?_, fun hz => ?_⟩
      · rcases List.mem_cons.1 ((h z).1 (List.mem_cons_of_mem _ hz)) with e | e
        · subst e; have := hx z hz; rw [bl_irrefl] at this; cases this
        · exact e
      · rcases List.mem_cons.1 ((h z).2 (List.mem_cons_of_mem _ hz)) with e | e
        · subst e; have := hy z hz; rw [bl_irrefl] at this; cases this
        · exact e

/-- How many strings at the head are less. -/
def lw (d : List ByteArray) (s : ByteArray) : Nat := (d.takeWhile fun x => bl x s).length
theorem lw_nil (s : ByteArray) : lw [] s = 0 := rfl
theorem lw_cons (x : ByteArray) (d : List ByteArray) (s : ByteArray) : lw (x :: d) s = if bl x s = true then lw d s + 1 else 0 := by
  unfold lw
  by_cases h : bl x s = true
  · rw [if_pos h, List.takeWhile_cons, if_pos h, List.length_cons]
  · rw [if_neg h, List.takeWhile_cons, if_neg h]; rfl
theorem lw_le (d : List ByteArray) (s : ByteArray) : lw d s ≤ d.length := by
  induction d with
  | nil => exact Nat.le_refl _
  | cons x d ih =>
    rw [lw_cons]
    split
    · rw [List.length_cons]; omega
    · exact Nat.zero_le _
theorem lw_low (d : List ByteArray) (s : ByteArray) (j : Nat) (h : j < lw d s) : ∀ hj : j < d.length, bl d[j] s = true := by
  induction d generalizing j with
  | nil => intro hj; exact absurd hj (by simp)
  | cons x d ih =>
    intro hj
    rw [lw_cons] at h
    by_cases hx : bl x s = true
    · rw [if_pos hx] at h
      cases j with
      | zero => exact hx
      | succ j => exact ih j (by omega) (by simpa using hj)
    · rw [if_neg hx] at h; omega
theorem lw_at (d : List ByteArray) (s : ByteArray) : ∀ h : lw d s < d.length, bl d[lw d s] s = false := by
  induction d with
  | nil => intro h; exact absurd h (by simp)
  | cons x d ih =>
    intro h
    by_cases hx : bl x s = true
    · have e : lw (x :: d) s = lw d s + 1 := by rw [lw_cons, if_pos hx]
      have h' : lw d s < d.length := by rw [e] at h; simpa using h
      have := ih h'
      simpa only [e, List.getElem_cons_succ] using this
    · have e : lw (x :: d) s = 0 := by rw [lw_cons, if_neg hx]
      simp only [e, List.getElem_cons_zero]
      simpa using hx
theorem lw_eq (d : List ByteArray) (s : ByteArray) (k : Nat) (hk : k ≤ d.length) (h1 : ∀ j, j < k → ∀ hj : j < d.length, bl d[j] s = true) (h2 : ∀ h : k < d.length, bl d[k] s = false) : lw d s = k := by
  rcases Nat.lt_trichotomy (lw d s) k with h | h | h
  · have := lw_at d s (by omega)
    rw [h1 _ h (by omega)] at this; cases this
  · exact h
  · have := lw_le d s
    have e := lw_low d s k h (by omega)
    rw [h2 (by omega)] at e; cases e
theorem srt_get {d : List ByteArray} (h : Srt d) {i j : Nat} (hij : i < j) (hj : j < d.length) : bl d[i] d[j] = true :=
  List.pairwise_iff_getElem.1 h i j (by omega) hj hij
theorem srt_low {d : List ByteArray} (h : Srt d) (s : ByteArray) (j : Nat) (hj : j < d.length) : bl d[j] s = decide (j < lw d s) := by
  by_cases hl : j < lw d s
  · rw [decide_eq_true hl]; exact lw_low d s j hl hj
  · rw [decide_eq_false hl]
    have hk : lw d s < d.length := by omega
    have ha := lw_at d s hk
    cases hc : bl d[j] s with
    | false => rfl
    | true =>
      rcases Nat.lt_or_eq_of_le (Nat.le_of_not_lt hl) with h1 | h1
      · have := bl_trans (srt_get h h1 hj) hc
        rw [ha] at this; cases this
      · have e : d[lw d s] = d[j] := by congr 1
        rw [e, hc] at ha; cases ha
theorem countP_lt (n k : Nat) (p : Nat → Bool) (hk : k ≤ n) (h : ∀ i, i < n → p i = decide (i < k)) : (List.range n).countP p = k := by
  induction n generalizing k with
  | zero => simp; omega
  | succ n ih =>
    rw [List.range_succ, List.countP_append]
    by_cases e : k = n + 1
    · subst e
      have := ih n (Nat.le_refl _) (fun i hi => by rw [h i (by omega)]; simp; omega)
      rw [this]
      have hn := h n (by omega)
      simp [hn]
    · have := ih k (by omega) (fun i hi => h i (by omega))
      rw [this]
      have hn := h n (by omega)
      have : ¬ n < k := by omega
      simp [hn, this]
/-- A string put into its place, once. -/
def ins (d : List ByteArray) (s : ByteArray) : List ByteArray := if d[lw d s]? = some s then d else d.take (lw d s) ++ s :: d.drop (lw d s)
theorem ins_mem (d : List ByteArray) (s x : ByteArray) : x ∈ ins d s ↔ x ∈ d ∨ x = s := by
  unfold ins
  split
  · rename_i h
    have := List.mem_of_getElem? h
    constructor
    · exact .inl
    · rintro (h | rfl)
      · exact h
      · exact this
  · have e : x ∈ d ↔ x ∈ d.take (lw d s) ∨ x ∈ d.drop (lw d s) := by
      rw [← List.mem_append, List.take_append_drop]
    rw [e, List.mem_append, List.mem_cons]
    constructor
    · rintro (h | h | h)
      · exact .inl (.inl h)
      · exact .inr h
      · exact .inl (.inr h)
    · rintro ((h | h) | h)
      · exact .inl h
      · exact .inr (.inr h)
      · exact .inr (.inl h)
theorem ins_srt {d : List ByteArray} (h : Srt d) (s : ByteArray) : Srt (ins d s) := by
  unfold ins
  split
  · exact h
  · rename_i hne
    have hlow : ∀ x ∈ d.take (lw d s), bl x s = true := by
      intro x hx
      obtain ⟨j, hj, rfl⟩ := List.mem_iff_getElem.1 hx
      rw [List.getElem_take]
      rw [List.length_take] at hj
      exact lw_low d s j (by omega) _
    have hhigh : ∀ x ∈ d.drop (lw d s), bl s x = true := by
      intro x hx
      obtain ⟨j, hj, rfl⟩ := List.mem_iff_getElem.1 hx
      rw [List.getElem_drop]
      rw [List.length_drop] at hj
      have hl := srt_low h s (lw d s + j) (by omega)
      rw [decide_eq_false (by omega)] at hl
      refine bl_ne hl fun e => ?_
      rcases Nat.eq_zero_or_pos j with h0 | h0
      · subst h0
        exact hne (by rw [List.getElem?_eq_getElem (by omega)]; congr 1)
      · have h1 := srt_get h (i := lw d s) (j := lw d s + j) (by omega) (by omega)
        rw [e] at h1
        rw [lw_at d s (by omega)] at h1; cases h1
    refine List.pairwise_append.2 ⟨List.Pairwise.sublist (List.take_sublist _ _) h, List.pairwise_cons.2 ⟨hhigh, List.Pairwise.sublist (List.drop_sublist _ _) h⟩, fun a ha b hb => ?_⟩
    rcases List.mem_cons.1 hb with rfl | hb
    · exact hlow a ha
    · exact bl_trans (hlow a ha) (hhigh b hb)
theorem ins_len (d : List ByteArray) (s : ByteArray) : (ins d s).length ≤ d.length + 1 := by
  unfold ins
  split
  · omega
  · have := lw_le d s
    simp; omega
/-- The dictionary of some strings. -/
def bld (l : List ByteArray) : List ByteArray := l.foldl ins []
theorem fold_srt (l : List ByteArray) {d : List ByteArray} (h : Srt d) : Srt (l.foldl ins d) := by
  induction l generalizing d with
  | nil => exact h
  | cons x l ih => exact ih (ins_srt h x)
theorem fold_mem (l d : List ByteArray) (x : ByteArray) : x ∈ l.foldl ins d ↔ x ∈ d ∨ x ∈ l := by
  induction l generalizing d with
  | nil => simp
  | cons y l ih => rw [List.foldl_cons, ih, ins_mem, List.mem_cons, or_assoc]
theorem fold_len (l d : List ByteArray) : (l.foldl ins d).length ≤ d.length + l.length := by
  induction l generalizing d with
  | nil => simp
  | cons y l ih => have := ih (ins d y); have := ins_len d y; rw [List.foldl_cons, List.length_cons]; omega
theorem srt_nil : Srt [] := List.Pairwise.nil
theorem bld_srt (l : List ByteArray) : Srt (bld l) := fold_srt l srt_nil
theorem bld_mem (l : List ByteArray) (x : ByteArray) : x ∈ bld l ↔ x ∈ l := by unfold bld; rw [fold_mem]; simp
theorem bld_len (l : List ByteArray) : (bld l).length ≤ l.length := by have := fold_len l []; simpa [bld] using this
theorem bld_self {d : List ByteArray} (h : Srt d) : bld d = d := srt_ext (bld_srt d) h (bld_mem d)
theorem bld_merge {a : List ByteArray} (h : Srt a) (b : List ByteArray) : b.foldl ins a = bld (a ++ b) :=
  srt_ext (fold_srt b h) (bld_srt _) fun x => by rw [fold_mem, bld_mem, List.mem_append]
theorem bld_snoc (l : List ByteArray) (x : ByteArray) : bld (l ++ [x]) = ins (bld l) x := by unfold bld; rw [List.foldl_append]; rfl

/-- What sorting and then removing equal neighbours gives. -/
def srtL (l : List ByteArray) : List (List UInt8) := (l.map fun x => x.data.toList).mergeSort fun x y => decide (x ≤ y)
theorem srtL_len (l : List ByteArray) : (srtL l).length = l.length := by unfold srtL; rw [List.length_mergeSort, List.length_map]
theorem srtL_mem (l : List ByteArray) (x : List UInt8) : x ∈ srtL l ↔ ∃ y ∈ l, y.data.toList = x := by unfold srtL; rw [List.mem_mergeSort, List.mem_map]
theorem srtL_le (l : List ByteArray) : (srtL l).Pairwise fun x y => x ≤ y := by
  have h := List.pairwise_mergeSort (le := fun x y : List UInt8 => decide (x ≤ y)) (fun a b c h k => by simp only [decide_eq_true_eq] at h k ⊢; exact List.le_trans h k) (fun a b => by simp only [Bool.or_eq_true, decide_eq_true_eq]; exact List.le_total a b) (l.map fun x => x.data.toList)
  exact h.imp fun h => by simpa using h
def cmpL (l : List ByteArray) : List (List UInt8) := Lib.compactUpTo (srtL l).toArray (srtL l).toArray.size
theorem lt_of_le_ne {x y : List UInt8} (h : x ≤ y) (hne : x ≠ y) : x < y := by
  by_cases k : x < y
  · exact k
  · exact absurd (List.le_antisymm h (List.not_lt.1 k)) hne
theorem lt_of_le_lt {x y z : List UInt8} (h : x ≤ y) (k : y < z) : x < z := by
  by_cases e : x = y
  · rw [e]; exact k
  · exact List.lt_trans (lt_of_le_ne h e) k
theorem compact_facts (d : Array (List UInt8)) (hle : ∀ i j, i ≤ j → j < d.size → d[i]! ≤ d[j]!) (m : Nat) (hm : m ≤ d.size) :
    (Lib.compactUpTo d m).Pairwise (fun x y => x < y) ∧ (∀ x, x ∈ Lib.compactUpTo d m ↔ ∃ i, i < m ∧ x = d[i]!) := by
  induction m with
  | zero => exact ⟨by simp [Lib.compactUpTo], fun x => by simp [Lib.compactUpTo]⟩
  | succ m ih =>
    obtain ⟨h1, h2⟩ := ih (by omega)
    rw [Lib.compactUpTo_succ]
    by_cases hk : Lib.keeps d m = true
    · rw [if_pos hk]
      refine ⟨List.pairwise_append.2 ⟨h1, List.pairwise_singleton _ _, fun a ha b hb => ?_⟩, fun x => ?_⟩
      · rw [List.mem_singleton.1 hb]
        obtain ⟨i, hi, rfl⟩ := (h2 a).1 ha
        have hne : d[m]! ≠ d[m - 1]! := by
          unfold Lib.keeps at hk
          have := of_decide_eq_true hk
          rcases this with h | h
          · omega
          · exact h
        exact lt_of_le_lt (hle i (m - 1) (by omega) (by omega)) (lt_of_le_ne (hle (m - 1) m (by omega) (by omega)) (Ne.symm hne))
      · rw [List.mem_append, h2, List.mem_singleton]
        constructor
        · rintro (⟨i, hi, rfl⟩ | rfl)
          · exact ⟨i, by omega, rfl⟩
          · exact ⟨m, by omega, rfl⟩
        · rintro ⟨i, hi, rfl⟩
          by_cases e : i = m
          · subst e; exact .inr rfl
          · exact .inl ⟨i, by omega, rfl⟩
    · rw [if_neg hk, List.append_nil]
      refine ⟨h1, fun x => ?_⟩
      rw [h2]
      have he : 0 < m ∧ d[m]! = d[m - 1]! := by
        unfold Lib.keeps at hk
        have := fun h => hk (decide_eq_true h)
        refine ⟨?_, ?_⟩
        · rcases Nat.eq_zero_or_pos m with h | h
          · exact absurd (.inl h) this
          · exact h
        · exact Classical.not_not.1 fun h => this (.inr h)
      constructor
      · rintro ⟨i, hi, rfl⟩
        exact ⟨i, by omega, rfl⟩
      · rintro ⟨i, hi, rfl⟩
        by_cases e : i = m
        · subst e; exact ⟨i - 1, by omega, he.2⟩
        · exact ⟨i, by omega, rfl⟩
theorem cmpL_bld (l : List ByteArray) : cmpL l = (bld l).map fun x => x.data.toList := by
  have hle : ∀ i j, i ≤ j → j < (srtL l).toArray.size → (srtL l).toArray[i]! ≤ (srtL l).toArray[j]! := by
    intro i j hij hj
    rw [getElem!_pos _ i (by omega), getElem!_pos _ j hj, List.getElem_toArray, List.getElem_toArray]
    rcases Nat.lt_or_eq_of_le hij with h | h
    · exact List.pairwise_iff_getElem.1 (srtL_le l) i j (by simp at hj; omega) (by simpa using hj) h
    · subst h; exact List.le_refl _
  obtain ⟨h1, h2⟩ := compact_facts (srtL l).toArray hle _ (Nat.le_refl _)
  have hb : cmpL l = ((cmpL l).map fun x => (⟨x.toArray⟩ : ByteArray)).map fun x => x.data.toList := by
    rw [List.map_map]
    exact (List.map_id' _).symm
  rw [hb]
  congr 1
  refine srt_ext ?_ (bld_srt l) fun x => ?_
  · refine List.pairwise_map.2 (h1.imp fun h => (bl_iff _ _).2 h)
  · rw [List.mem_map, bld_mem]
    constructor
    · rintro ⟨y, hy, rfl⟩
      obtain ⟨i, hi, e⟩ := (h2 y).1 hy
      rw [getElem!_pos _ i hi, List.getElem_toArray] at e
      obtain ⟨z, hz, e2⟩ := (srtL_mem l y).1 (by rw [e]; exact List.getElem_mem _)
      have : z = ⟨y.toArray⟩ := toList_inj (by rw [e2])
      rwa [← this]
    · intro hx
      refine ⟨x.data.toList, (h2 _).2 ?_, by simp⟩
      obtain ⟨i, hi, e⟩ := List.mem_iff_getElem.1 ((srtL_mem l x.data.toList).2 ⟨x, hx, rfl⟩)
      refine ⟨i, by simpa using hi, ?_⟩
      rw [getElem!_pos _ i (by simpa using hi), List.getElem_toArray, e]

/-- The error of a list that is no dictionary: from what stands before on. -/
def chkL : Option ByteArray → List ByteArray → Int
  | _, [] => 0
  | p, s :: t => if 255 < s.size then 5 else if (match p with | some q => !bl q s | none => false) = true then 8 else chkL (some s) t
def chk (d : List ByteArray) : Int := if 4096 < d.length then 6 else chkL none d
/-- What stands before index k. -/
def prev (d : List ByteArray) : Nat → Option ByteArray
  | 0 => none
  | k + 1 => d[k]?
theorem chkL_srt (d : List ByteArray) (h : Srt d) (hs : ∀ x ∈ d, x.size ≤ 255) (p : Option ByteArray) (hp : ∀ q, p = some q → ∀ x ∈ d, bl q x = true) : chkL p d = 0 := by
  induction d generalizing p with
  | nil => rfl
  | cons x d ih =>
    obtain ⟨hx, hd⟩ := List.pairwise_cons.1 h
    unfold chkL
    rw [if_neg (by have := hs x (by simp); omega), if_neg]
    · exact ih hd (fun y hy => hs y (List.mem_cons_of_mem _ hy)) _ (fun q e y hy => by injection e with e; subst e; exact hx y hy)
    · cases p with
      | none => simp
      | some q => have := hp q rfl x (by simp); simp [this]
theorem chk_srt {d : List ByteArray} (h : Srt d) (hs : ∀ x ∈ d, x.size ≤ 255) (hl : d.length ≤ 4096) : chk d = 0 := by
  unfold chk; rw [if_neg (by omega)]; exact chkL_srt d h hs none (fun q e => by cases e)
end Go.Proofs.Ytoohphhfigiicaa.Dp
