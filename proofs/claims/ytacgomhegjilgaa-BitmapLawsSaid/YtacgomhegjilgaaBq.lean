/- merge, plain: a step. -/
import Derived.Test.YtacgomhegjilgaaBm
import Derived.Test.YtacgomhegjilgaaTr
namespace Go.Proofs.Ytacgomhegjilgaa
open Ts

/-- What is left of a set at a row. -/
structure Lf (A : List Iv) (row : Int) (X : List Iv) : Prop where
  nrm : Nrm X
  ends : ∀ x ∈ X, row < x.2 ∧ x.2 ≤ 1048576
  left : ∀ n, row ≤ n → (has n A = true ↔ In n X)
  low : ∀ x ∈ X, 0 ≤ x.1
theorem stc_rn {A X : List Iv} {row : Int} (h : Lf A row X) (hr : row < 1048576) :
    row < (stc row (rn X)).2 ∧ (stc row (rn X)).2 ≤ 1048576 ∧ (∀ n, row ≤ n → n < (stc row (rn X)).2 → has n A = (stc row (rn X)).1) := by
  cases X with
  | nil =>
    refine ⟨hr, Int.le_refl _, fun n h1 _ => ?_⟩
    show has n A = false
    rw [Bool.eq_false_iff]
    intro e
    obtain ⟨x, hx, _⟩ := (h.left n h1).1 e
    cases hx
  | cons x T =>
    obtain ⟨e1, e2⟩ := h.ends x (List.mem_cons_self ..)
    have hx := h.nrm.1 x (List.mem_cons_self ..)
    have hT := (List.pairwise_cons.1 h.nrm.2).1
    show row < (if row < x.1 then (false, x.1) else (true, x.2 - 1 + 1) : Bool × Int).2 ∧ _ ∧ _
    by_cases hlt : row < x.1
    · have es : stc row (rn (x :: T)) = (false, x.1) := if_pos hlt
      rw [es, if_pos hlt]
      refine ⟨hlt, by show x.1 ≤ 1048576; omega, fun n h1 h2 => ?_⟩
      show has n A = false
      rw [Bool.eq_false_iff]
      intro e
      obtain ⟨y, hy, g1, g2⟩ := (h.left n h1).1 e
      rcases List.mem_cons.1 hy with rfl | hy
      · simp only at h2; omega
      · have := hT y hy; simp only at h2; omega
    · have es : stc row (rn (x :: T)) = (true, x.2 - 1 + 1) := if_neg hlt
      rw [es, if_neg hlt]
      refine ⟨by show row < x.2 - 1 + 1; omega, by show x.2 - 1 + 1 ≤ 1048576; omega, fun n h1 h2 => ?_⟩
      simp only at h2
      exact (h.left n h1).2 ⟨x, List.mem_cons_self .., by omega, by omega⟩
theorem skp_rn {A X : List Iv} {row en : Int} (h : Lf A row X) (h1 : row < en) (h2 : en ≤ (stc row (rn X)).2) :
    ∃ Y, skp en (rn X) = rn Y ∧ Lf A en Y ∧ Y.length ≤ X.length := by
  cases X with
  | nil => exact ⟨[], rfl, ⟨h.nrm, fun x hx => (by cases hx), fun n hn => h.left n (by omega), fun x hx => (by cases hx)⟩, Nat.le_refl _⟩
  | cons x T =>
    obtain ⟨e1, e2⟩ := h.ends x (List.mem_cons_self ..)
    have hx := h.nrm.1 x (List.mem_cons_self ..)
    obtain ⟨hT, hT2⟩ := List.pairwise_cons.1 h.nrm.2
    have hen : en ≤ x.2 := by
      by_cases hlt : row < x.1
      · have es : stc row (rn (x :: T)) = (false, x.1) := if_pos hlt
        rw [es] at h2
        simp only at h2
        omega
      · have es : stc row (rn (x :: T)) = (true, x.2 - 1 + 1) := if_neg hlt
        rw [es] at h2
        simp only at h2
        omega
    by_cases hd : x.2 - 1 < en
    · refine ⟨T, if_pos hd, ⟨⟨fun y hy => h.nrm.1 y (List.mem_cons_of_mem _ hy), hT2⟩, fun y hy => ?_, fun n hn => ?_, fun y hy => h.low y (List.mem_cons_of_mem _ hy)⟩, by simp⟩
      · have a := hT y hy
        have b := h.nrm.1 y (List.mem_cons_of_mem _ hy)
        exact ⟨by omega, (h.ends y (List.mem_cons_of_mem _ hy)).2⟩
      · rw [h.left n (by omega)]
        constructor
        · rintro ⟨y, hy, g⟩
          rcases List.mem_cons.1 hy with rfl | hy
          · omega
          · exact ⟨y, hy, g⟩
        · rintro ⟨y, hy, g⟩
          exact ⟨y, List.mem_cons_of_mem _ hy, g⟩
    · refine ⟨x :: T, if_neg hd, ⟨h.nrm, fun y hy => ?_, fun n hn => h.left n (by omega), h.low⟩, Nat.le_refl _⟩
      rcases List.mem_cons.1 hy with rfl | hy2
      · exact ⟨by omega, e2⟩
      · have a := hT y hy2
        have b := h.nrm.1 y hy
        exact ⟨by omega, (h.ends y hy).2⟩
theorem lf_rc {A X : List Iv} {row : Int} (h : Lf A row X) : Rc (rn X) := fun x hx => by
  obtain ⟨y, hy, rfl⟩ := List.mem_map.1 hx
  have a := h.ends y hy
  have b := h.low y hy
  have c := h.nrm.1 y hy
  exact ⟨⟨b, by show y.1 < 1048576; omega⟩, ⟨by show 0 ≤ y.2 - 1; omega, by show y.2 - 1 < 1048576; omega⟩, by show y.1 ≤ y.2 - 1; omega⟩
/-- What has been kept below a row. -/
structure Kp (f : Bool → Bool → Bool) (A B : List Iv) (row : Int) (N : List Iv) : Prop where
  nrm : Nrm N
  mem : ∀ n, In n N ↔ n < row ∧ f (has n A) (has n B) = true
theorem kp_step {f : Bool → Bool → Bool} {A B N : List Iv} {row en : Int} {p q : Bool} (h : Kp f A B row N) (hlt : row < en)
    (ha : ∀ n, row ≤ n → n < en → has n A = p) (hb : ∀ n, row ≤ n → n < en → has n B = q) :
    Kp f A B en (if f p q = true then jn N (row, en) else N) := by
  by_cases hf : f p q = true
  · rw [if_pos hf]
    have hN : ∀ y ∈ N, y.1 ≤ row := fun y hy => by
      have a := h.nrm.1 y hy
      have b := ((h.mem y.1).1 ⟨y, hy, by omega, a⟩).1
      omega
    obtain ⟨j1, j2, _⟩ := jn_nrm (x := (row, en)) h.nrm hlt hN
    refine ⟨j1, fun n => (j2 n).trans ?_⟩
    rw [h.mem n]
    constructor
    · rintro (⟨a, b⟩ | ⟨a, b⟩)
      · exact ⟨by omega, b⟩
      · simp only at a b
        exact ⟨b, by rw [ha n a b, hb n a b]; exact hf⟩
    · rintro ⟨a, b⟩
      by_cases hn : n < row
      · exact .inl ⟨hn, b⟩
      · exact .inr ⟨by show row ≤ n; omega, a⟩
  · rw [if_neg hf]
    refine ⟨h.nrm, fun n => (h.mem n).trans ⟨fun ⟨a, b⟩ => ⟨by omega, b⟩, fun ⟨a, b⟩ => ?_⟩⟩
    by_cases hn : n < row
    · exact ⟨hn, b⟩
    · exact absurd (by rw [ha n (by omega) a, hb n (by omega) a] at b; exact b) hf
end Go.Proofs.Ytacgomhegjilgaa
