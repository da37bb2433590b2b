/- What Shift does, plain (written by wip/bin/gen_sf.py). -/
import Derived.Test.YtacgomhegjilgaaBg
namespace Go.Proofs.Ytacgomhegjilgaa
open Go.ChangeShapes Go.WideShapes Go.ChangeAt Go.RowKit Ts

/-- An interval, or a run, moved by a number. -/
def shI (by' : Int) (x : Iv) : Iv := (x.1 + by', x.2 + by')
def shL (by' : Int) (N : List Iv) : List Iv := N.map (shI by')
theorem shL_len (d : Int) (N : List Iv) : (shL d N).length = N.length := List.length_map _
theorem shL_rn (d : Int) (N : List Iv) : rn (shL d N) = (rn N).map (shI d) := by
  unfold rn shL
  rw [List.map_map, List.map_map]
  refine List.map_congr_left (fun x _ => ?_)
  show (x.1 + d, x.2 + d - 1) = (x.1 + d, x.2 - 1 + d)
  rw [show x.2 + d - 1 = x.2 - 1 + d by omega]
theorem shL_in (d n : Int) (N : List Iv) : In n (shL d N) ↔ In (n - d) N := by
  constructor
  · rintro ⟨x, hx, h1, h2⟩
    obtain ⟨y, hy, rfl⟩ := List.mem_map.1 hx
    simp only [shI] at h1 h2
    exact ⟨y, hy, by omega, by omega⟩
  · rintro ⟨y, hy, h1, h2⟩
    exact ⟨shI d y, List.mem_map.2 ⟨y, hy, rfl⟩, by simp only [shI]; omega, by simp only [shI]; omega⟩
theorem shL_nrm (d : Int) {N : List Iv} (h : Nrm N) : Nrm (shL d N) := by
  refine ⟨fun x hx => ?_, List.pairwise_map.2 (h.2.imp (fun h => ?_))⟩
  · obtain ⟨y, hy, rfl⟩ := List.mem_map.1 hx
    have := h.1 y hy
    simp only [shI]; omega
  · simp only [shI]; omega
/-- All rows stay rows. -/
def Fits (d : Int) (N : List Iv) : Prop := ∀ n, In n N → 0 ≤ n + d ∧ n + d < 1048576
theorem fits_iff (d : Int) {N : List Iv} (h : Nrm N) (z : Nat) (hz : N.length = z + 1) : Fits d N ↔ 0 ≤ ((rn N)[0]'(by rw [rn_len]; omega)).1 + d ∧ ((rn N)[z]'(by rw [rn_len]; omega)).2 + d < 1048576 := by
  have e0 : ((rn N)[0]'(by rw [rn_len]; omega)).1 = (N[0]'(by omega)).1 := by simp [rn, rx]
  have e1 : ((rn N)[z]'(by rw [rn_len]; omega)).2 = (N[z]'(by omega)).2 - 1 := by simp [rn, rx]
  rw [e0, e1]
  have pw := List.pairwise_iff_getElem.1 h.2
  have lt := fun (i : Nat) (hi : i < N.length) => h.1 N[i] (List.getElem_mem hi)
  constructor
  · intro hf
    have a := hf (N[0]'(by omega)).1 ⟨N[0]'(by omega), List.getElem_mem _, by omega, lt 0 (by omega)⟩
    have b := hf ((N[z]'(by omega)).2 - 1) ⟨N[z]'(by omega), List.getElem_mem _, by have := lt z (by omega); omega, by omega⟩
    omega
  · rintro ⟨a, b⟩ n ⟨x, hx, h1, h2⟩
    obtain ⟨i, hi, rfl⟩ := List.getElem_of_mem hx
    have l1 := lt i hi
    have c1 : (N[0]'(by omega)).1 ≤ N[i].1 := by
      rcases Nat.eq_zero_or_pos i with h0 | h0
      · subst h0; omega
      · have := pw 0 i (by omega) hi h0; have := lt 0 (by omega); omega
    have c2 : N[i].2 ≤ (N[z]'(by omega)).2 := by
      by_cases h0 : i = z
      · subst h0; omega
      · have := pw i z hi (by omega) (by omega); have := lt z (by omega); omega
    omega
/-- The runs of which the first j are moved. -/
def mid (d : Int) (R : List Iv) (j : Nat) : List Iv := (R.take j).map (shI d) ++ R.drop j
theorem mid_zero (d : Int) (R : List Iv) : mid d R 0 = R := rfl
theorem mid_all (d : Int) (R : List Iv) : mid d R R.length = R.map (shI d) := by unfold mid; rw [List.take_length, List.drop_length, List.append_nil]
theorem mid_len (d : Int) (R : List Iv) (j : Nat) : (mid d R j).length = R.length := by unfold mid; rw [List.length_append, List.length_map, ← List.length_append, List.take_append_drop]
theorem mid_get (d : Int) (R : List Iv) (j : Nat) (h : j < R.length) : (mid d R j)[j]'(by rw [mid_len]; exact h) = R[j] := by
  unfold mid
  rw [List.getElem_append_right (by rw [List.length_map, List.length_take]; omega)]
  simp only [List.length_map, List.length_take, List.getElem_drop]
  congr 1; omega
theorem mid_set (d : Int) (R : List Iv) (j : Nat) (h : j < R.length) : ((ivCells (mid d R j)).set (j * 2) (.int .i64 (R[j].1 + d))).set (j * 2 + 1) (.int .i64 (R[j].2 + d)) = ivCells (mid d R (j + 1)) := by
  have gen : ∀ (M T : List Iv) (y : Iv) (a b : Int), ((ivCells (M ++ y :: T)).set (M.length * 2) (.int .i64 a)).set (M.length * 2 + 1) (.int .i64 b) = ivCells (M ++ (a, b) :: T) := by
    intro M T y a b
    have e : ∀ z : Iv, ivCells (M ++ z :: T) = ivCells M ++ (.int .i64 z.1 :: .int .i64 z.2 :: ivCells T) := fun z => by
      unfold ivCells; rw [List.flatMap_append, List.flatMap_cons]; rfl
    rw [e, e, List.set_append_right _ _ (by rw [iv_cells_len]; omega), List.set_append_right _ _ (by rw [iv_cells_len]; omega)]
    rw [iv_cells_len, Nat.sub_self, show M.length * 2 + 1 - M.length * 2 = 1 by omega]
    rfl
  have e1 : mid d R j = (R.take j).map (shI d) ++ R[j] :: R.drop (j + 1) := by
    unfold mid; rw [List.drop_eq_getElem_cons h]
  have e2 : mid d R (j + 1) = (R.take j).map (shI d) ++ (R[j].1 + d, R[j].2 + d) :: R.drop (j + 1) := by
    unfold mid; rw [take_snoc R j h, List.map_append, List.append_assoc]; rfl
  have hl : ((R.take j).map (shI d)).length = j := by rw [List.length_map, List.length_take]; omega
  have := gen ((R.take j).map (shI d)) (R.drop (j + 1)) R[j] (R[j].1 + d) (R[j].2 + d)
  rw [hl] at this
  rw [e1, e2]; exact this
end Go.Proofs.Ytacgomhegjilgaa
