/- Plain facts: strings with a prefix, codes, remaps. -/
import Derived.Test.YtoohphhfigiicaaDp
import Derived.Lib.Strings
namespace Go.Proofs.Ytoohphhfigiicaa.Dp
open Go

/-- Does x begin with p? -/
def hp (p x : ByteArray) : Bool := p.data.toList.isPrefixOf x.data.toList
theorem pre_between : ∀ (p x y : List UInt8), ¬ x < p → ¬ y < x → p.isPrefixOf y = true → p.isPrefixOf x = true
  | [], x, y, _, _, _ => by simp
  | a :: p, [], y, h, _, _ => absurd (by simp) h
  | a :: p, b :: x, [], _, _, h => by simp at h
  | a :: p, b :: x, c :: y, h1, h2, h3 => by
    rw [List.isPrefixOf_cons_cons, Bool.and_eq_true] at h3
    obtain ⟨e, h3⟩ := h3
    have e' : a = c := eq_of_beq e
    subst e'
    rw [List.cons_lt_cons_iff] at h1 h2
    have hba : b = a := by
      have n1 : ¬ b < a := fun h => h1 (.inl h)
      have n2 : ¬ a < b := fun h => h2 (.inl h)
      apply UInt8.toNat_inj.1
      rw [UInt8.lt_iff_toNat_lt] at n1 n2
      omega
    subst hba
    rw [List.isPrefixOf_cons_cons, Bool.and_eq_true]
    exact ⟨beq_self_eq_true _, pre_between p x y (fun h => h1 (.inr ⟨rfl, h⟩)) (fun h => h2 (.inr ⟨rfl, h⟩)) h3⟩
theorem pre_ge : ∀ (p y : List UInt8), p.isPrefixOf y = true → ¬ y < p
  | [], y, _ => by simp
  | a :: p, [], h => by simp at h
  | a :: p, c :: y, h => by
    rw [List.isPrefixOf_cons_cons, Bool.and_eq_true] at h
    obtain ⟨e, h3⟩ := h
    have e' : a = c := eq_of_beq e
    subst e'
    rw [List.cons_lt_cons_iff]
    rintro (h | ⟨_, h⟩)
    · rw [UInt8.lt_iff_toNat_lt] at h; omega
    · exact pre_ge p y h3 h
theorem bl_false (a b : ByteArray) : bl a b = false ↔ ¬ a.data.toList < b.data.toList := by
  rw [← bl_iff]; simp
/-- How many strings begin with a prefix. -/
def pf (d : List ByteArray) (s : ByteArray) : Nat := d.countP (hp s)
theorem pf_le (d : List ByteArray) (s : ByteArray) : pf d s ≤ d.length := List.countP_le_length
theorem pf_drop {d : List ByteArray} (s : ByteArray) : pf d s = (d.drop (lw d s)).countP (hp s) := by
  unfold pf
  conv => lhs; rw [← List.take_append_drop (lw d s) d]
  rw [List.countP_append]
  have : (d.take (lw d s)).countP (hp s) = 0 := by
    rw [List.countP_eq_zero]
    intro x hx
    obtain ⟨j, hj, rfl⟩ := List.mem_iff_getElem.1 hx
    rw [List.getElem_take]
    rw [List.length_take] at hj
    have h := (bl_iff _ _).1 (lw_low d s j (by omega) (by omega))
    intro hh
    exact pre_ge _ _ hh h
  omega
theorem pf_lw {d : List ByteArray} (s : ByteArray) : lw d s + pf d s ≤ d.length := by
  rw [pf_drop]
  have := List.countP_le_length (p := hp s) (l := d.drop (lw d s))
  rw [List.length_drop] at this
  have := lw_le d s
  omega
theorem hp_mono {d : List ByteArray} (h : Srt d) (s : ByteArray) (i j : Nat) (h1 : lw d s ≤ i) (h2 : i ≤ j) (hj : j < d.length) (hh : hp s d[j] = true) : hp s d[i] = true := by
  rcases Nat.lt_or_eq_of_le h2 with h3 | h3
  · have hl := srt_low h s i (by omega)
    rw [decide_eq_false (by omega)] at hl
    exact pre_between _ _ _ ((bl_false _ _).1 hl) ((bl_false _ _).1 (bl_asymm (srt_get h h3 hj))) hh
  · subst h3; exact hh
theorem countP_get {α : Type} (l : List α) (f : α → Bool) (p : Nat → Bool) (h : ∀ i (hi : i < l.length), p i = f l[i]) : (List.range l.length).countP p = l.countP f := by
  have e : l = (List.range l.length).attach.map (fun i => l[i.1]'(List.mem_range.1 i.2)) := by
    apply List.ext_getElem
    · simp
    · intro i h1 h2; simp
  have e2 : l.countP f = (List.range l.length).countP p := by
    conv => lhs; rw [e]
    rw [List.countP_map]
    have : (f ∘ fun i : { x // x ∈ List.range l.length } => l[i.1]'(List.mem_range.1 i.2)) = fun i => p i.1 := by
      funext i; exact (h i.1 _).symm
    rw [this]
    have h3 := List.countP_attach (l := List.range l.length) (p := p)
    exact h3
  exact e2.symm
/-- The code of a string. -/
def fd (d : List ByteArray) (s : ByteArray) : Option Nat := if d[lw d s]? = some s then some (lw d s) else none
theorem fd_mem {d : List ByteArray} (h : Srt d) {s : ByteArray} (hs : s ∈ d) : ∃ k, fd d s = some k ∧ d[k]? = some s ∧ k = lw d s := by
  obtain ⟨j, hj, e⟩ := List.mem_iff_getElem.1 hs
  have hl := srt_low h s j hj
  rw [e, bl_irrefl] at hl
  have h1 : lw d s ≤ j := by
    have := of_decide_eq_false hl.symm; omega
  have e2 : d[lw d s]? = some s := by
    rcases Nat.lt_or_eq_of_le h1 with h2 | h2
    · have := srt_get h h2 hj
      rw [e, lw_at d s (by omega)] at this; cases this
    · rw [h2, List.getElem?_eq_getElem hj, e]
  exact ⟨lw d s, by unfold fd; rw [if_pos e2], e2, rfl⟩
theorem fd_some {d : List ByteArray} {s : ByteArray} {k : Nat} (h : fd d s = some k) : d[k]? = some s ∧ k = lw d s ∧ k < d.length := by
  unfold fd at h
  by_cases e : d[lw d s]? = some s
  · rw [if_pos e] at h
    injection h with h
    subst h
    exact ⟨e, rfl, (List.getElem?_eq_some_iff.1 e).1⟩
  · rw [if_neg e] at h; cases h
theorem fd_none {d : List ByteArray} {s : ByteArray} (h : fd d s = none) : d[lw d s]? ≠ some s := by
  unfold fd at h
  intro e
  rw [if_pos e] at h; cases h
end Go.Proofs.Ytoohphhfigiicaa.Dp
