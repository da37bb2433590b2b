/- Plain facts: the long list of the law of Check. -/
import Derived.Test.YthngjfkmaphajaaRk
namespace Go.Proofs.Ythngjfkmaphajaa
open Go.ChangeShapes Go.WideShapes Go.ChangeAt Go.RowKit Ts

theorem iv_set2 (L : List Iv) (j : Nat) (h : j < L.length) (a b : Int) : ((ivCells L).set (j * 2) (.int .i64 a)).set (j * 2 + 1) (.int .i64 b) = ivCells (L.set j (a, b)) := by
  induction L generalizing j with
  | nil => simp at h
  | cons x L ih =>
    have e : ∀ y : Iv, ∀ M, ivCells (y :: M) = .int .i64 y.1 :: .int .i64 y.2 :: ivCells M := fun y M => by simp [ivCells, ivC]
    cases j with
    | zero => rw [e]; show _ = ivCells ((a, b) :: L); rw [e]; rfl
    | succ j =>
      rw [e, show (j + 1) * 2 = j * 2 + 1 + 1 by omega]
      show _ = ivCells (x :: L.set j (a, b))
      rw [e, ← ih j (by simpa using h)]
      rfl
theorem iv_zero (n : Nat) : ivCells (List.replicate n ((0, 0) : Iv)) = List.replicate (n * 2) (.int .i64 0) := by
  induction n with
  | zero => rfl
  | succ n ih =>
    rw [List.replicate_succ, show (n + 1) * 2 = n * 2 + 1 + 1 by omega, List.replicate_succ, List.replicate_succ, ← ih]
    simp [ivCells, ivC]
theorem made_zero (n : Nat) : (madeCells (Value.agg #[.int .i64 0, .int .i64 0]).cells (n * 2)).toList = ivCells (List.replicate n ((0, 0) : Iv)) := by
  rw [iv_zero]
  refine List.eq_replicate_iff.2 ⟨by rw [Array.length_toList, size_madeCells], fun v hv => ?_⟩
  unfold madeCells at hv
  rw [Array.toList_map] at hv
  obtain ⟨i, _, rfl⟩ := List.mem_map.1 hv
  have h2 := Nat.mod_lt i (show 0 < 2 by decide)
  show (#[Value.int .i64 0, .int .i64 0])[i % 2]! = _
  rcases Nat.mod_two_eq_zero_or_one i with h | h <;> rw [h] <;> rfl
/-- The list, when so many of its intervals are laid. -/
def fz (n : Nat) : Nat → List Iv
  | 0 => List.replicate n (0, 0)
  | j + 1 => (fz n j).set j (3 * (j : Int), 3 * (j : Int) + 2)
theorem fz_len (n j : Nat) : (fz n j).length = n := by
  induction j with
  | zero => simp [fz]
  | succ j ih => show ((fz n j).set j _).length = n; rw [List.length_set, ih]
theorem fz_get (n j i : Nat) (h : i < n) : (fz n j)[i]? = some (if i < j then (3 * (i : Int), 3 * (i : Int) + 2) else (0, 0)) := by
  induction j with
  | zero => simp [fz, h]
  | succ j ih =>
    show ((fz n j).set j _)[i]? = _
    by_cases e : j = i
    · subst e
      rw [List.getElem?_set_self (by rw [fz_len]; exact h), if_pos (by omega)]
    · rw [List.getElem?_set_ne e, ih]
      by_cases h2 : i < j
      · rw [if_pos h2, if_pos (by omega)]
      · rw [if_neg h2, if_neg (by omega)]
theorem fz_at (n i : Nat) (h : i < (fz n n).length) : (fz n n)[i] = (3 * (i : Int), 3 * (i : Int) + 2) := by
  have hi : i < n := by rw [fz_len] at h; exact h
  have := fz_get n n i hi
  rw [if_pos hi, List.getElem?_eq_getElem h] at this
  exact Option.some.inj this
theorem fz_chk (n : Nat) (hn : n ≤ 5000) : chkL none (fz n n) = 0 := by
  refine (chk_ok (allIn_true fun i hi => ?_)).2 ⟨fun x hx => ?_, List.pairwise_iff_getElem.2 fun i j hi hj hij => ?_⟩
  · rw [fz_at n i hi, inR_iff]
    rw [fz_len] at hi
    dsimp only
    omega
  · obtain ⟨i, hi, rfl⟩ := List.getElem_of_mem hx
    rw [fz_at n i hi]; dsimp only; omega
  · rw [fz_at n i hi, fz_at n j hj]; dsimp only; omega
end Go.Proofs.Ythngjfkmaphajaa
