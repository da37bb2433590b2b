/- Lists in increasing order; the reference's Runs. -/
import Derived.Test.YtacgomhegjilgaaGa
namespace Go.Proofs.Ytacgomhegjilgaa
open Go.ChangeShapes Go.WideShapes Go.ChangeAt Go.RowKit Ts

/-- A list in increasing order. -/
abbrev Inc (L : List Int) : Prop := L.Pairwise (fun x y => x < y)
theorem inc_ext {L M : List Int} (hL : Inc L) (hM : Inc M) (h : ∀ n, n ∈ L ↔ n ∈ M) : L = M := by
  induction L generalizing M with
  | nil =>
    cases M with
    | nil => rfl
    | cons y M => exact absurd ((h y).2 (List.mem_cons_self ..)) (by simp)
  | cons x L ih =>
    cases M with
    | nil => exact absurd ((h x).1 (List.mem_cons_self ..)) (by simp)
    | cons y M =>
      obtain ⟨fx, iL⟩ := List.pairwise_cons.1 hL
      obtain ⟨fy, iM⟩ := List.pairwise_cons.1 hM
      have e : x = y := by
        rcases List.mem_cons.1 ((h x).1 (List.mem_cons_self ..)) with e | a
        · exact e
        · rcases List.mem_cons.1 ((h y).2 (List.mem_cons_self ..)) with e | b
          · exact e.symm
          · have := fy x a; have := fx y b; omega
      subst e
      refine congrArg (x :: ·) (ih iL iM (fun n => ⟨fun hn => ?_, fun hn => ?_⟩))
      · rcases List.mem_cons.1 ((h n).1 (List.mem_cons_of_mem _ hn)) with e | a
        · have := fx n hn; omega
        · exact a
      · rcases List.mem_cons.1 ((h n).2 (List.mem_cons_of_mem _ hn)) with e | a
        · have := fy n hn; omega
        · exact a
theorem rowsX_mem (y : Iv) (n : Int) : n ∈ rowsX (rx y) ↔ y.1 ≤ n ∧ n < y.2 := by
  unfold rowsX rx
  dsimp only
  constructor
  · intro h
    obtain ⟨i, hi, rfl⟩ := List.mem_map.1 h
    have := List.mem_range.1 hi
    omega
  · intro h
    exact List.mem_map.2 ⟨(n - y.1).toNat, List.mem_range.2 (by omega), by omega⟩
theorem rowsX_inc (y : Iv) : Inc (rowsX y) := by
  unfold rowsX
  refine List.pairwise_map.2 (List.pairwise_lt_range.imp (fun h => ?_))
  show y.1 + _ < y.1 + _
  omega
/-- The rows of a normal list: its members, in increasing order. -/
theorem rows_spec {N : List Iv} (h : Nrm N) : Inc (rowsL (rn N)) ∧ ∀ n, n ∈ rowsL (rn N) ↔ In n N := by
  have mem : ∀ (N : List Iv) n, n ∈ rowsL (rn N) ↔ In n N := fun N n => by
    unfold rowsL rn
    rw [List.mem_flatMap]
    constructor
    · rintro ⟨x, hx, hn⟩
      obtain ⟨y, hy, rfl⟩ := List.mem_map.1 hx
      exact ⟨y, hy, (rowsX_mem y n).1 hn⟩
    · rintro ⟨y, hy, hn⟩
      exact ⟨rx y, List.mem_map.2 ⟨y, hy, rfl⟩, (rowsX_mem y n).2 hn⟩
  refine ⟨?_, mem N⟩
  induction N with
  | nil => exact List.Pairwise.nil
  | cons y N ih =>
    obtain ⟨nN, ly, fy⟩ := h.tail
    show Inc (rowsX (rx y) ++ rowsL (rn N))
    refine List.pairwise_append.2 ⟨rowsX_inc _, ih nN, fun a ha b hb => ?_⟩
    have h1 := (rowsX_mem y a).1 ha
    obtain ⟨z, hz, h2⟩ := (mem N b).1 hb
    have := fy z hz
    omega
theorem rows_eq {N : List Iv} (h : Nrm N) {L : List Int} (hL : Inc L) (hm : ∀ n, n ∈ L ↔ In n N) : rowsL (rn N) = L :=
  inc_ext (rows_spec h).1 hL (fun n => ((rows_spec h).2 n).trans (hm n).symm)
/-- A row taken in by the reference's Runs. -/
def rs1 (R : List Iv) (x : Int) : List Iv :=
  match R.reverse with
  | [] => [(x, x)]
  | z :: T => if z.2 + 1 = x then T.reverse ++ [(z.1, x)] else R ++ [(x, x)]
theorem rs1_nil (x : Int) : rs1 [] x = [(x, x)] := rfl
theorem rs1_near (K : List Iv) (z : Iv) (x : Int) (h : z.2 + 1 = x) : rs1 (K ++ [z]) x = K ++ [(z.1, x)] := by
  unfold rs1
  rw [List.reverse_append]
  show (if z.2 + 1 = x then _ else _) = _
  rw [if_pos h]
  show K.reverse.reverse ++ _ = _
  rw [List.reverse_reverse]
theorem rs1_far (K : List Iv) (z : Iv) (x : Int) (h : ¬ z.2 + 1 = x) : rs1 (K ++ [z]) x = K ++ [z] ++ [(x, x)] := by
  unfold rs1
  rw [List.reverse_append]
  show (if z.2 + 1 = x then _ else _) = _
  rw [if_neg h]
def rsL (L : List Int) (j : Nat) : List Iv := (L.take j).foldl rs1 []
theorem rsL_step (L : List Int) (j : Nat) (h : j < L.length) : rsL L (j + 1) = rs1 (rsL L j) L[j] := by
  unfold rsL
  rw [take_snoc L j h, List.foldl_append]; rfl
theorem rsL_len (L : List Int) (j : Nat) : (rsL L j).length ≤ j := by
  induction j with
  | zero => exact Nat.le_refl _
  | succ j ih =>
    by_cases h : j < L.length
    · rw [rsL_step L j h]
      rcases List.eq_nil_or_concat (rsL L j) with e | ⟨K, z, e⟩
      · rw [e, rs1_nil]; simp
      · rw [List.concat_eq_append] at e
        rw [e] at ih ⊢
        by_cases hz : z.2 + 1 = L[j]
        · rw [rs1_near K z _ hz]; simp at ih ⊢; omega
        · rw [rs1_far K z _ hz]; simp at ih ⊢; omega
    · have e : rsL L (j + 1) = rsL L j := by unfold rsL; rw [List.take_of_length_le (by omega), List.take_of_length_le (by omega)]
      rw [e]; omega
theorem rsL_jf (L : List Int) (hL : Inc L) (j : Nat) : rsL L j = rn (jf L j) := by
  induction j with
  | zero => rfl
  | succ j ih =>
    by_cases h : j < L.length
    · rw [rsL_step L j h, jf_step L j h, ih]
      obtain ⟨hn, hm⟩ := jf_fold L (hL.imp (fun h => Int.le_of_lt h)) j
      rcases List.eq_nil_or_concat (jf L j) with e | ⟨K, z, e⟩
      · rw [e]; rfl
      · rw [List.concat_eq_append] at e
        rw [e] at hn hm ⊢
        have hz := hn.1 z (by simp)
        have hin := (hm (z.2 - 1)).1 ⟨z, by simp, by omega, by omega⟩
        have hlt : z.2 - 1 < L[j] := by
          obtain ⟨q, hq, e2⟩ := List.getElem_of_mem hin
          rw [List.length_take] at hq
          rw [List.getElem_take] at e2
          have := List.pairwise_iff_getElem.1 hL q j (by omega) h (by omega)
          omega
        rw [rn_app]
        show rs1 (rn K ++ [rx z]) _ = jr (rn K ++ [rx z]) _
        have e2 : (rx z).2 = z.2 - 1 := rfl
        by_cases hz1 : (rx z).2 + 1 = L[j]
        · rw [rs1_near _ _ _ hz1, jr_near _ _ _ (by show ¬ (rx z).2 + 1 < L[j]; omega)]
          show _ ++ [_] = _ ++ [(_, max (rx z).2 L[j])]
          rw [show max (rx z).2 L[j] = L[j] by omega]
        · rw [rs1_far _ _ _ hz1, jr_far _ _ _ (by show (rx z).2 + 1 < L[j]; omega)]
    · have e : rsL L (j + 1) = rsL L j := by unfold rsL; rw [List.take_of_length_le (by omega), List.take_of_length_le (by omega)]
      have e2 : jf L (j + 1) = jf L j := by unfold jf; rw [List.take_of_length_le (by omega), List.take_of_length_le (by omega)]
      rw [e, e2, ih]
theorem rsL_all {N : List Iv} (h : Nrm N) {L : List Int} (hL : Inc L) (hm : ∀ n, n ∈ L ↔ In n N) : rsL L L.length = rn N := by
  rw [rsL_jf L hL]
  obtain ⟨a, b⟩ := jf_fold L (hL.imp (fun h => Int.le_of_lt h)) L.length
  rw [nrm_ext a h (fun n => (b n).trans (by rw [List.take_length]; exact hm n))]
theorem rsL_bd (L : List Int) (B : Int) (h : ∀ x ∈ L, -B ≤ x ∧ x ≤ B) (j : Nat) : ∀ y ∈ rsL L j, -B ≤ y.2 ∧ y.2 ≤ B := by
  induction j with
  | zero => intro y hy; exact absurd hy (by simp [rsL])
  | succ j ih =>
    by_cases hj : j < L.length
    · rw [rsL_step L j hj]
      have hx := h _ (List.getElem_mem hj)
      intro y hy
      rcases List.eq_nil_or_concat (rsL L j) with e | ⟨K, z, e⟩
      · rw [e, rs1_nil] at hy
        rw [List.mem_singleton.1 hy]; exact hx
      · rw [List.concat_eq_append] at e
        rw [e] at ih hy
        by_cases hz : z.2 + 1 = L[j]
        · rw [rs1_near K z _ hz] at hy
          rcases List.mem_append.1 hy with hy | hy
          · exact ih y (List.mem_append_left _ hy)
          · rw [List.mem_singleton.1 hy]; exact hx
        · rw [rs1_far K z _ hz] at hy
          rcases List.mem_append.1 hy with hy | hy
          · exact ih y hy
          · rw [List.mem_singleton.1 hy]; exact hx
    · have e : rsL L (j + 1) = rsL L j := by unfold rsL; rw [List.take_of_length_le (by omega), List.take_of_length_le (by omega)]
      rw [e]; exact ih
end Go.Proofs.Ytacgomhegjilgaa
