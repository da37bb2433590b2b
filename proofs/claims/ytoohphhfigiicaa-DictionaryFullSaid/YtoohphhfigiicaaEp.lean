/- Plain facts: the encoded form of a dictionary. -/
import Derived.Test.YtoohphhfigiicaaDq
namespace Go.Proofs.Ytoohphhfigiicaa.Dp
open Go

/-- How many first bytes two lists have in common. -/
def cmn : List UInt8 → List UInt8 → Nat
  | a :: l, b :: m => if a = b then cmn l m + 1 else 0
  | _, _ => 0
theorem cmn_le : ∀ l m : List UInt8, cmn l m ≤ l.length ∧ cmn l m ≤ m.length
  | [], m => by cases m <;> simp [cmn]
  | a :: l, [] => by simp [cmn]
  | a :: l, b :: m => by
    have := cmn_le l m
    unfold cmn
    split
    · simp; omega
    · simp
theorem cmn_same : ∀ (l m : List UInt8) (j : Nat), j < cmn l m → l[j]? = m[j]?
  | [], m, j, h => by cases m <;> simp [cmn] at h
  | a :: l, [], j, h => by simp [cmn] at h
  | a :: l, b :: m, j, h => by
    unfold cmn at h
    by_cases e : a = b
    · rw [if_pos e] at h
      cases j with
      | zero => simp [e]
      | succ j => simpa using cmn_same l m j (by omega)
    · rw [if_neg e] at h; omega
theorem cmn_eq : ∀ (l m : List UInt8) (n : Nat), n ≤ l.length → n ≤ m.length → (∀ j, j < n → l[j]? = m[j]?) → (n < l.length → n < m.length → l[n]? ≠ m[n]?) → cmn l m = n
  | [], m, n, h1, _, _, _ => by simp at h1; subst h1; cases m <;> rfl
  | a :: l, [], n, _, h2, _, _ => by simp at h2; subst h2; rfl
  | a :: l, b :: m, n, h1, h2, h3, h4 => by
    cases n with
    | zero =>
      unfold cmn
      rw [if_neg]
      intro e
      exact h4 (by simp) (by simp) (by simp [e])
    | succ n =>
      have e : a = b := by have := h3 0 (by omega); simpa using this
      unfold cmn
      rw [if_pos e, cmn_eq l m n (by simpa using h1) (by simpa using h2) (fun j hj => by have := h3 (j + 1) (by omega); simpa using this) (fun g1 g2 => by have := h4 (by simpa using g1) (by simpa using g2); simpa using this)]
/-- How many first bytes two strings have in common. -/
def cm (a b : ByteArray) : Nat := cmn a.data.toList b.data.toList
theorem cm_le (a b : ByteArray) : cm a b ≤ a.size ∧ cm a b ≤ b.size := by
  have := cmn_le a.data.toList b.data.toList
  unfold cm
  simpa using this
/-- How many bytes of the string at index k are not encoded. -/
def sw (d : List ByteArray) (k : Nat) : Nat := if k % 16 = 0 then 0 else cm (d.getD (k - 1) ByteArray.empty) (d.getD k ByteArray.empty)
theorem sw_le (d : List ByteArray) (k : Nat) : sw d k ≤ (d.getD k ByteArray.empty).size := by
  unfold sw
  split
  · omega
  · exact (cm_le _ _).2
/-- The bytes of the string at index k in the encoded form. -/
def item (d : List ByteArray) (k : Nat) : List UInt8 :=
  (if k % 16 = 0 then [] else [UInt8.ofNat (sw d k)]) ++ (UInt8.ofNat ((d.getD k ByteArray.empty).size - sw d k) :: (d.getD k ByteArray.empty).data.toList.drop (sw d k))
def hd2 (n : Nat) : List UInt8 := [UInt8.ofNat (n / 256), UInt8.ofNat n]
/-- The encoded form up to index k. -/
def frm (d : List ByteArray) (k : Nat) : List UInt8 := hd2 d.length ++ (List.range k).flatMap (item d)
theorem frm_succ (d : List ByteArray) (k : Nat) : frm d (k + 1) = frm d k ++ item d k := by
  unfold frm
  rw [List.range_succ, List.flatMap_append, List.append_assoc]
  simp
theorem item_len (d : List ByteArray) (k : Nat) : (item d k).length = (if k % 16 = 0 then 0 else 1) + 1 + ((d.getD k ByteArray.empty).size - sw d k) := by
  unfold item
  rw [List.length_append, List.length_cons, List.length_drop]
  have : (d.getD k ByteArray.empty).data.toList.length = (d.getD k ByteArray.empty).size := by simp
  rw [this]
  split <;> simp <;> omega
theorem frm_len (d : List ByteArray) (k : Nat) : (frm d (k + 1)).length = (frm d k).length + (item d k).length := by rw [frm_succ, List.length_append]
theorem frm_mono (d : List ByteArray) {j k : Nat} (h : j ≤ k) : (frm d j).length ≤ (frm d k).length := by
  induction k with
  | zero => rw [Nat.le_zero.1 h]; exact Nat.le_refl _
  | succ k ih =>
    rcases Nat.lt_or_eq_of_le h with h1 | h1
    · have := ih (by omega); rw [frm_len]; omega
    · rw [h1]; exact Nat.le_refl _
theorem frm_two (d : List ByteArray) : (frm d 0).length = 2 := rfl
theorem frm_bound (d : List ByteArray) (k : Nat) (hs : ∀ x ∈ d, x.size ≤ 1000) : (frm d k).length ≤ 2 + k * 1002 := by
  induction k with
  | zero => exact Nat.le_refl _
  | succ k ih =>
    have h : (d.getD k ByteArray.empty).size ≤ 1000 := by
      by_cases hk : k < d.length
      · have := hs _ (List.getElem_mem hk)
        simpa [List.getD, List.getElem?_eq_getElem hk] using this
      · simp [List.getD, List.getElem?_eq_none (by omega : d.length ≤ k)]
    have := item_len d k
    have e : (if k % 16 = 0 then 0 else 1) ≤ 1 := by split <;> omega
    rw [frm_len]
    omega
end Go.Proofs.Ytoohphhfigiicaa.Dp
