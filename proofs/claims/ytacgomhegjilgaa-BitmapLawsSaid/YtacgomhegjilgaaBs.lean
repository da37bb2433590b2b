/- slices.Clone and slices.Sort of rows; the program's Of at rows in range. -/
import Derived.Test.YtacgomhegjilgaaBj
import Derived.Test.YtacgomhegjilgaaBo
import Derived.Test.YtacgomhegjilgaaShelf
import Derived.Sort.OwnSortedInts
namespace Go.Proofs.Ytacgomhegjilgaa
open Go.ChangeShapes Go.WideShapes Go.ChangeAt Go.RowKit Ts Go.Sort

theorem nc_getD {w : World} {B b off : Nat} {L : List Int} (h : Rs w B (some ⟨b, off, none⟩) (nC L)) : ∀ j, j < L.length → w.cell? ⟨b, off + j, none⟩ = some (.int .i64 (L.getD j 0)) := by
  intro j hj
  obtain ⟨b', off', e2, _, hc⟩ := num_at h j hj
  injection e2 with e2
  injection e2 with e3 e4
  subst e3 e4
  rw [hc]
  simp [List.getD, List.getElem?_eq_getElem hj]
theorem clone_rows (A : Option Addr) (c : Nat) (L : List Int) (hL : L.length ≤ 1000000) (w : World) (hR : Rs w w.heap.size A (nC L)) :
    Calls Try.prog 52 #[.slice A L.length c] w fun e w' => (∃ v, e = .returned v ∧ w'.ownsRow w.heap.size 3 1 v L.length (nC L)) ∧ Below w.heap.size w w' := by
  by_cases h0 : L.length = 0
  · obtain rfl : L = [] := List.eq_nil_of_length_eq_zero h0
    cases A with
    | none =>
      refine (Try.slices_Clone_int_nil 0 c w).mono ?_
      rintro e w' ⟨rfl, rfl⟩
      exact ⟨⟨_, rfl, ⟨rfl, Or.inl ⟨rfl, rfl⟩⟩⟩, Below.refl _ _⟩
    | some a =>
      refine (Try.slices_Clone_int_zero a c w).mono ?_
      rintro e w' ⟨v, rfl, ho, _, hb⟩
      exact ⟨⟨v, rfl, ho⟩, hb⟩
  · obtain ⟨b, off, rfl, _, _⟩ := num_at hR 0 (by omega)
    refine (Try.slices_Clone_int b off L.length c L w (Nat.le_refl _) (by omega) (nc_getD hR)).mono ?_
    rintro e w' ⟨v, rfl, ho, _, hb⟩
    rw [List.take_length] at ho
    exact ⟨⟨v, rfl, ho⟩, hb⟩
/-- The rows in increasing order. -/
def srI (L : List Int) : List Int := L.mergeSort fun x y => decide (x ≤ y)
theorem srI_len (L : List Int) : (srI L).length = L.length := List.length_mergeSort L
theorem srI_mem (L : List Int) (n : Int) : n ∈ srI L ↔ n ∈ L := List.mem_mergeSort
theorem srI_srt (L : List Int) : (srI L).Pairwise (fun x y => x ≤ y) := by
  have h := List.pairwise_mergeSort (le := fun x y : Int => decide (x ≤ y)) (by intro a b c; simp; omega) (by intro a b; simp; omega) L
  exact h.imp (by intro a b h; simpa using h)
theorem sort_rows (base : Nat) (v : Value) (L : List Int) (hn : L.length ≤ 1000000) (w : World) (h : w.ownsRow base 3 1 v L.length (nC L)) :
    Calls Try.prog 53 #[v] w fun e w' => e = .returned (.tuple #[]) ∧ w'.ownsRow base 3 1 v L.length (nC (srI L)) ∧ w.grownBy w' v.ownBlock := by
  have hh := h
  rcases h.2 with ⟨rfl, h0⟩ | ⟨g, cap, cur, rfl, hbase, hb, h1, h2, h3, h4⟩
  · obtain rfl : L = [] := List.eq_nil_of_length_eq_zero h0
    refine (Try.slices_Sort_int_none none 0 w).mono ?_
    rintro e w' ⟨rfl, rfl⟩
    exact ⟨rfl, by simpa [srI] using hh, ⟨rfl, rfl, rfl, Nat.le_refl _, fun _ _ _ => rfl⟩⟩
  · refine (Try.slices_Sort_int g 0 cap L w (holds_of_blockI hb (by simpa [nC] using h4)) (Array.getElem?_eq_some_iff.1 hb).1 (by omega)).mono ?_
    rintro e w' ⟨rfl, q, os, rfl⟩
    exact ⟨rfl, ownsRow_sortedI (by simp) hbase hb h1 h2 h3, grownBy_sortedI _⟩
/-- A row as an interval; as a run. -/
def pt (n : Int) : Iv := (n, n + 1)
/-- The first rows of a list, joined. -/
def jf (D : List Int) (j : Nat) : List Iv := ((D.take j).map pt).foldl jn []
theorem jf_step (D : List Int) (j : Nat) (h : j < D.length) : rn (jf D (j + 1)) = jr (rn (jf D j)) (D[j], D[j]) := by
  unfold jf
  rw [take_snoc D j h, List.map_append, List.foldl_append]
  show rn (jn _ (pt D[j])) = _
  rw [rn_jn]
  show jr _ (D[j], D[j] + 1 - 1) = _
  rw [show D[j] + 1 - 1 = D[j] by omega]
theorem jf_fold (D : List Int) (hs : D.Pairwise (fun x y => x ≤ y)) (j : Nat) : Nrm (jf D j) ∧ ∀ n, In n (jf D j) ↔ n ∈ D.take j := by
  have hp : (((D.take j).map pt)).Pairwise (fun x y => x.1 ≤ y.1) := List.pairwise_map.2 ((hs.take (i := j)).imp (fun h => h))
  obtain ⟨n1, n2⟩ := fold_nrm (S := (D.take j).map pt) (fun x hx => by
    obtain ⟨n, _, rfl⟩ := List.mem_map.1 hx
    show n < n + 1
    omega) hp
  refine ⟨n1, fun n => (n2 n).trans ?_⟩
  constructor
  · rintro ⟨x, hx, h⟩
    obtain ⟨k, hk, rfl⟩ := List.mem_map.1 hx
    have : k = n := by simp only [pt] at h; omega
    rw [← this]; exact hk
  · intro hn
    exact ⟨pt n, List.mem_map.2 ⟨n, hn, rfl⟩, by simp only [pt]; omega⟩
/-- The set of some rows, as a normal list. -/
def setL (L : List Int) : List Iv := ofL (L.map pt)
theorem setL_spec (L : List Int) : Nrm (setL L) ∧ ∀ n, In n (setL L) ↔ n ∈ L := by
  obtain ⟨a, b⟩ := ofL_spec (L.map pt)
  refine ⟨a, fun n => (b n).trans ?_⟩
  constructor
  · rintro ⟨x, hx, h⟩
    obtain ⟨k, hk, rfl⟩ := List.mem_map.1 hx
    have : k = n := by simp only [pt] at h; omega
    rw [← this]; exact hk
  · intro hn
    exact ⟨pt n, List.mem_map.2 ⟨n, hn, rfl⟩, by simp only [pt]; omega⟩
theorem jf_all (L : List Int) : jf (srI L) (srI L).length = setL L := by
  obtain ⟨a, b⟩ := jf_fold (srI L) (srI_srt L) (srI L).length
  obtain ⟨c, d⟩ := setL_spec L
  refine nrm_ext a c (fun n => (b n).trans ?_)
  rw [List.take_length, srI_mem]
  exact (d n).symm
theorem jf_len (D : List Int) (j : Nat) : (jf D j).length ≤ j := by
  induction j with
  | zero => exact Nat.le_refl _
  | succ j ih =>
    by_cases h : j < D.length
    · have h1 := congrArg List.length (jf_step D j h)
      have h2 := jr_len (rn (jf D j)) (D[j], D[j])
      rw [rn_len] at h1 h2
      omega
    · have : jf D (j + 1) = jf D j := by unfold jf; rw [List.take_of_length_le (by omega), List.take_of_length_le (by omega)]
      rw [this]; omega
/-- The runs of rows in range lie in range. -/
theorem nrm_rn {N : List Iv} (h : Nrm N) (hr : ∀ n, In n N → isR n = true) : ∀ x ∈ rn N, (0 ≤ x.1 ∧ x.1 < 1048576) ∧ (0 ≤ x.2 ∧ x.2 < 1048576) ∧ x.1 ≤ x.2 := by
  intro x hx
  obtain ⟨y, hy, rfl⟩ := List.mem_map.1 hx
  have h1 := h.1 y hy
  have a := hr y.1 ⟨y, hy, by omega, h1⟩
  have b := hr (y.2 - 1) ⟨y, hy, by omega, by omega⟩
  unfold isR at a b
  simp only [Bool.and_eq_true, decide_eq_true_eq] at a b
  refine ⟨a, b, ?_⟩
  show y.1 ≤ y.2 - 1
  omega
end Go.Proofs.Ytacgomhegjilgaa
