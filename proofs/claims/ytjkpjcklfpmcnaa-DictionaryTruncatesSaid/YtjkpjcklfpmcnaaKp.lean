/- Plain facts: what is kept of a dictionary. -/
import Derived.Test.YtjkpjcklfpmcnaaR
namespace Go.Proofs.Ytjkpjcklfpmcnaa
open Go.ChangeShapes Go.WideShapes Go.ChangeAt Go.RowKit Dp

/-- What is kept of the strings below index k. -/
def kp (D : List ByteArray) (U : List Int) : Nat → List ByteArray
  | 0 => []
  | k + 1 => kp D U k ++ (if (k : Int) ∈ U then [D.getD k ByteArray.empty] else [])
/-- What becomes of the code i. -/
def frA (D : List ByteArray) (U : List Int) (i : Nat) : Int := if (i : Int) ∈ U then ((kp D U i).length : Int) else -1
def frL (D : List ByteArray) (U : List Int) (k : Nat) : List Int := (List.range k).map (frA D U)
theorem frL_succ (D : List ByteArray) (U : List Int) (k : Nat) : frL D U (k + 1) = frL D U k ++ [frA D U k] := by
  unfold frL; rw [List.range_succ, List.map_append]; rfl
theorem kp_pre (D : List ByteArray) (U : List Int) {i n : Nat} (h : i ≤ n) : ∃ t, kp D U n = kp D U i ++ t := by
  induction n with
  | zero => obtain rfl : i = 0 := by omega
            exact ⟨[], by simp⟩
  | succ n ih =>
    rcases Nat.lt_or_eq_of_le h with h1 | h1
    · obtain ⟨t, ht⟩ := ih (by omega)
      exact ⟨t ++ (if (n : Int) ∈ U then [D.getD n ByteArray.empty] else []), by rw [kp, ht, List.append_assoc]⟩
    · subst h1; exact ⟨[], by simp⟩
theorem kp_len (D : List ByteArray) (U : List Int) (k : Nat) : (kp D U k).length ≤ k := by
  induction k with
  | zero => exact Nat.le_refl _
  | succ k ih => rw [kp, List.length_append]; split <;> simp <;> omega
theorem kp_mem (D : List ByteArray) (U : List Int) (k : Nat) (x : ByteArray) : x ∈ kp D U k ↔ ∃ i, i < k ∧ (i : Int) ∈ U ∧ x = D.getD i ByteArray.empty := by
  induction k with
  | zero => simp [kp]
  | succ k ih =>
    rw [kp, List.mem_append, ih]
    constructor
    · rintro (⟨i, h1, h2, h3⟩ | h)
      · exact ⟨i, by omega, h2, h3⟩
      · by_cases hu : (k : Int) ∈ U
        · rw [if_pos hu] at h
          exact ⟨k, by omega, hu, List.mem_singleton.1 h⟩
        · rw [if_neg hu] at h; simp at h
    · rintro ⟨i, h1, h2, h3⟩
      by_cases e : i = k
      · subst e
        rw [if_pos h2]; exact .inr (by rw [h3]; simp)
      · exact .inl ⟨i, by omega, h2, h3⟩
theorem kp_srt {D : List ByteArray} (hS : Srt D) (U : List Int) (k : Nat) (hk : k ≤ D.length) : Srt (kp D U k) := by
  induction k with
  | zero => exact srt_nil
  | succ k ih =>
    rw [kp]
    refine List.pairwise_append.2 ⟨ih (by omega), ?_, fun a ha b hb => ?_⟩
    · split
      · exact List.pairwise_singleton _ _
      · exact List.Pairwise.nil
    · obtain ⟨i, h1, _, rfl⟩ := (kp_mem D U k a).1 ha
      split at hb
      · rw [List.mem_singleton.1 hb, getD_at D i (by omega), getD_at D k (by omega)]
        exact srt_get hS h1 (by omega)
      · simp at hb
/-- All codes are codes. -/
theorem fe_zero {α : Type} {er : α → Int} {M : List α} (h : fe er M = 0) : ∀ x ∈ M, er x = 0 := by
  induction M with
  | nil => intro x hx; simp at hx
  | cons y M ih =>
    have h' : (if er y = 0 then fe er M else er y) = 0 := h
    intro x hx
    by_cases hy : er y = 0
    · rw [if_pos hy] at h'
      rcases List.mem_cons.1 hx with rfl | hx
      · exact hy
      · exact ih h' x hx
    · rw [if_neg hy] at h'; exact absurd h' hy
theorem stE_nat {D : List ByteArray} {u : Int} (h : stE D u = 0) : ∃ m : Nat, u = m ∧ m < D.length := by
  unfold stE at h
  by_cases hi : ixB u D.length = true
  · exact ixB_nat hi
  · rw [if_neg hi] at h; exact absurd h (by decide)
theorem kept_bld {D : List ByteArray} (hS : Srt D) {U : List Int} (h : fe (stE D) U = 0) : bld (U.map (stV D)) = kp D U D.length := srt_ext (bld_srt _) (kp_srt hS U _ (Nat.le_refl _)) fun x => by
  rw [bld_mem, List.mem_map, kp_mem]
  constructor
  · rintro ⟨u, hu, rfl⟩
    obtain ⟨m, rfl, hm⟩ := stE_nat (fe_zero h u hu)
    exact ⟨m, hm, hu, by unfold stV; rw [Int.toNat_natCast]⟩
  · rintro ⟨i, hi, hu, rfl⟩
    exact ⟨(i : Int), hu, by unfold stV; rw [Int.toNat_natCast]⟩
theorem kp_at {D : List ByteArray} {U : List Int} {i : Nat} (hi : i < D.length) (hu : (i : Int) ∈ U) : (kp D U D.length)[(kp D U i).length]? = some D[i] ∧ (kp D U i).length < (kp D U D.length).length := by
  obtain ⟨t, ht⟩ := kp_pre D U (show i + 1 ≤ D.length by omega)
  rw [kp, if_pos hu, getD_at D i hi, List.append_assoc] at ht
  rw [ht]
  constructor
  · simp
  · simp
theorem from_fr {D : List ByteArray} (hS : Srt D) (U : List Int) : D.map (frV (kp D U D.length)) = frL D U D.length := by
  show D.map (frV (kp D U D.length)) = (List.range D.length).map (frA D U)
  apply List.ext_getElem
  · simp
  · intro i h1 h2
    have hi : i < D.length := by simpa using h1
    rw [List.getElem_map, List.getElem_map, List.getElem_range]
    unfold frA
    by_cases hu : (i : Int) ∈ U
    · rw [if_pos hu]
      obtain ⟨g1, g2⟩ := kp_at hi hu
      have hl := (lw_some (kp_srt hS U _ (Nat.le_refl _)) _ g2).2
      have e : (kp D U D.length)[(kp D U i).length] = D[i] := by
        rw [List.getElem?_eq_getElem g2] at g1
        injection g1
      rw [e] at hl
      unfold frV; rw [hl]
    · rw [if_neg hu]
      have hn : fd (kp D U D.length) D[i] = none := by
        cases hf : fd (kp D U D.length) D[i] with
        | none => rfl
        | some k =>
          obtain ⟨hg, _, _⟩ := fd_some hf
          obtain ⟨j, hj, huj, e⟩ := (kp_mem D U _ _).1 (List.mem_of_getElem? hg)
          rw [getD_at D j hj] at e
          have hij : i = j := by
            rcases Nat.lt_trichotomy i j with h | h | h
            · have := srt_get hS h hj; rw [e, bl_irrefl] at this; cases this
            · exact h
            · have := srt_get hS h hi; rw [e, bl_irrefl] at this; cases this
          subst hij; exact absurd huj hu
      unfold frV; rw [hn]
/-- Remapping the codes leads to the same strings. -/
theorem remap_back {D : List ByteArray} {U : List Int} (h : fe (stE D) U = 0) :
    fe (rmE (frL D U D.length)) U = 0 ∧ fe (stE (kp D U D.length)) (U.map (rmV (frL D U D.length))) = 0 ∧ (U.map (rmV (frL D U D.length))).map (stV (kp D U D.length)) = U.map (stV D) := by
  have each : ∀ u ∈ U, rmE (frL D U D.length) u = 0 ∧ stE (kp D U D.length) (rmV (frL D U D.length) u) = 0 ∧ stV (kp D U D.length) (rmV (frL D U D.length) u) = stV D u := by
    intro u hu
    obtain ⟨m, rfl, hm⟩ := stE_nat (fe_zero h u hu)
    obtain ⟨g1, g2⟩ := kp_at hm hu
    have hl : (frL D U D.length).length = D.length := by simp [frL]
    have hv : rmV (frL D U D.length) (m : Int) = ((kp D U m).length : Int) := by
      unfold rmV
      rw [Int.toNat_natCast]
      unfold frL
      simp only [List.getD, List.getElem?_map, List.getElem?_range hm, Option.map_some, Option.getD_some]
      unfold frA; rw [if_pos hu]
    refine ⟨?_, ?_, ?_⟩
    · unfold rmE
      rw [hv, hl, if_pos (by unfold ixB; simp; omega), if_neg (by omega)]
    · rw [hv]
      unfold stE
      rw [if_pos (by unfold ixB; simp; omega)]
    · rw [hv]
      unfold stV
      rw [Int.toNat_natCast, Int.toNat_natCast, getD_at D m hm]
      simp [List.getD, g1]
  refine ⟨fe_all _ _ fun j _ hj => (each _ (List.getElem_mem hj)).1, fe_all _ _ fun j _ hj => ?_, ?_⟩
  · rw [List.getElem_map]
    exact (each _ (List.getElem_mem _)).2.1
  · rw [List.map_map]
    exact List.map_congr_left fun x hx => (each x hx).2.2
theorem fe_st (D : List ByteArray) (U : List Int) : fe (stE D) U = 0 ∨ fe (stE D) U = 2 := by
  induction U with
  | nil => exact .inl rfl
  | cons u U ih =>
    show (if stE D u = 0 then fe (stE D) U else stE D u) = 0 ∨ (if stE D u = 0 then fe (stE D) U else stE D u) = 2
    by_cases h : stE D u = 0
    · rw [if_pos h]; exact ih
    · rw [if_neg h]
      right
      unfold stE at h ⊢
      split
      · rename_i hi; rw [if_pos hi] at h; exact absurd rfl h
      · rfl
end Go.Proofs.Ytjkpjcklfpmcnaa
