/- Covers and Overlaps over slices that read as lists: what they say of the combined lists. -/
import Derived.Test.YtkjpficpkpfkdaaCs
import Derived.Test.YtkjpficpkpfkdaaAl
namespace Go.Proofs.Ytkjpficpkpfkdaa
open Go.ChangeShapes Go.WideShapes Go.ChangeAt Go.RowKit Ts

theorem jn_some (L : List Iv) (x : Iv) : jn L x ≠ [] := by
  rcases List.eq_nil_or_concat L with rfl | ⟨K, y, rfl⟩
  · rw [jn_nil]; simp
  · rw [List.concat_eq_append]
    by_cases h : y.2 < x.1
    · rw [jn_far K y x h]; simp
    · rw [jn_near K y x h]; simp
theorem fold_some (X : List Iv) : X.foldl jn [] = [] ↔ X = [] := by
  rcases List.eq_nil_or_concat X with rfl | ⟨K, y, rfl⟩
  · exact ⟨fun _ => rfl, fun _ => rfl⟩
  · rw [List.concat_eq_append, List.foldl_append]
    exact ⟨fun h => absurd h (jn_some _ _), fun h => by simp at h⟩
theorem kept_none (f : Bool → Bool → Bool) (X : List Pc) : kept f X = [] ↔ X.any (fun x => f x.2.1 x.2.2) = false := by
  unfold kept
  rw [List.map_eq_nil_iff, List.filter_eq_nil_iff, List.any_eq_false]
theorem any_cmb (f : Bool → Bool → Bool) (a b : List Iv) : (allPcs a b).any (fun x => f x.2.1 x.2.2) = false ↔ cmbL f a b = [] := by
  rw [← kept_none]
  exact (fold_some _).symm
def coverF : Bool → Bool → Bool := fun x y => y && !x
theorem cover_but {a b : List Iv} (ha : Nrm a) (hb : Nrm b) : cmbL coverF a b = cmbL butF b a := by
  have h1 := cmbL_spec coverF rfl a b ha hb
  have h2 := cmbL_spec butF rfl b a hb ha
  exact nrm_ext h1.1 h2.1 (fun n => (h1.2 n).trans (h2.2 n).symm)
theorem covers_sl {v u : Value} {a b : List Iv} (ha : Ok 1000 a) (hb : Ok 1000 b) (w : World) (hv : Sl w v a) (hu : Sl w u b) :
    Calls Try.prog 27 #[v, u] w fun e w' => e = .returned (.bool (decide (cmbL butF b a = []))) ∧ Below w.heap.size w w' := by
  obtain ⟨A, c, rfl, _, _, _, hR⟩ := hv
  obtain ⟨B, d, rfl, _, _, _, hS⟩ := hu
  have h := covers_any A c a (by have := ha.len; omega) B d b (by have := hb.len; omega) ha.fl hb.fl w hR hS
  have e : (if (allPcs a b).any coversP = true then false else true) = decide (cmbL butF b a = []) := by
    have h2 := any_cmb coverF a b
    rw [cover_but ha.nrm hb.nrm] at h2
    by_cases h3 : cmbL butF b a = []
    · rw [decide_eq_true h3, show (allPcs a b).any coversP = false from h2.2 h3]; rfl
    · rw [decide_eq_false h3]
      have h4 : (allPcs a b).any coversP = true := by
        cases h5 : (allPcs a b).any coversP with
        | true => rfl
        | false => exact absurd (h2.1 h5) h3
      rw [h4]; rfl
  rw [e] at h
  exact h
theorem overlaps_sl {v u : Value} {a b : List Iv} (ha : Ok 1000 a) (hb : Ok 1000 b) (w : World) (hv : Sl w v a) (hu : Sl w u b) :
    Calls Try.prog 28 #[v, u] w fun e w' => e = .returned (.bool (!decide (cmbL andF a b = []))) ∧ Below w.heap.size w w' := by
  obtain ⟨A, c, rfl, _, _, _, hR⟩ := hv
  obtain ⟨B, d, rfl, _, _, _, hS⟩ := hu
  have h := overlaps_any A c a (by have := ha.len; omega) B d b (by have := hb.len; omega) ha.fl hb.fl w hR hS
  have e : (if (allPcs a b).any overlapsP = true then true else false) = !decide (cmbL andF a b = []) := by
    have h2 := any_cmb andF a b
    by_cases h3 : cmbL andF a b = []
    · rw [decide_eq_true h3, show (allPcs a b).any overlapsP = false from h2.2 h3]; rfl
    · rw [decide_eq_false h3]
      have h4 : (allPcs a b).any overlapsP = true := by
        cases h5 : (allPcs a b).any overlapsP with
        | true => rfl
        | false => exact absurd (h2.1 h5) h3
      rw [h4]; rfl
  rw [e] at h
  exact h
theorem has_sl {v : Value} {a : List Iv} (ha : a.length ≤ 1000000) (n : Int) (w : World) (hv : Sl w v a) :
    Calls Try.prog 26 #[v, .int .i64 n] w fun e w' => e = .returned (.bool (has n a)) ∧ Below w.heap.size w w' := by
  obtain ⟨A, c, rfl, _, _, _, hR⟩ := hv
  exact (ref_has A c a ha n w hR).mono fun _ _ ⟨h, hw⟩ => ⟨h, hw ▸ Below.refl _ _⟩
theorem contains_sl {v : Value} {a : List Iv} (ha : Ok 1000 a) (n : Int) (w : World) (hv : Sl w v a) :
    Calls Try.prog 25 #[v, .int .i64 n] w fun e w' => e = .returned (.bool (has n a)) ∧ Below w.heap.size w w' := by
  obtain ⟨A, c, rfl, _, _, _, hR⟩ := hv
  exact contains_any A c a ha.nrm (by have := ha.len; omega) n w hR
end Go.Proofs.Ytkjpficpkpfkdaa
