/- Runs, plain: a run from its first row to its last one is the interval that ends one behind. -/
import Derived.Test.YtacgomhegjilgaaTp
namespace Go.Proofs.Ytacgomhegjilgaa.Ts

def rx (x : Iv) : Iv := (x.1, x.2 - 1)
/-- The runs of a list of intervals. -/
def rn (L : List Iv) : List Iv := L.map rx
theorem rn_len (L : List Iv) : (rn L).length = L.length := List.length_map _
theorem rn_inj {L M : List Iv} (h : rn L = rn M) : L = M := by
  have hi : ∀ x y : Iv, rx x = rx y → x = y := by
    rintro ⟨a, b⟩ ⟨c, d⟩ h
    simp only [rx, Prod.mk.injEq] at h
    exact Prod.ext h.1 (by show b = d; omega)
  exact (List.map_inj_right hi).1 h
theorem rn_app (L M : List Iv) : rn (L ++ M) = rn L ++ rn M := List.map_append
/-- A run joined to a list of runs. -/
def jr (R : List Iv) (y : Iv) : List Iv :=
  match R.reverse with
  | [] => [y]
  | z :: T => if z.2 + 1 < y.1 then R ++ [y] else T.reverse ++ [(z.1, max z.2 y.2)]
theorem jr_nil (y : Iv) : jr [] y = [y] := rfl
theorem jr_far (R : List Iv) (z y : Iv) (h : z.2 + 1 < y.1) : jr (R ++ [z]) y = R ++ [z] ++ [y] := by
  unfold jr
  rw [List.reverse_append]
  show (if z.2 + 1 < y.1 then _ else _) = _
  rw [if_pos h]
theorem jr_near (R : List Iv) (z y : Iv) (h : ¬ z.2 + 1 < y.1) : jr (R ++ [z]) y = R ++ [(z.1, max z.2 y.2)] := by
  unfold jr
  rw [List.reverse_append]
  show (if z.2 + 1 < y.1 then _ else _) = _
  rw [if_neg h]
  show R.reverse.reverse ++ _ = _
  rw [List.reverse_reverse]
theorem rn_jn (L : List Iv) (x : Iv) : rn (jn L x) = jr (rn L) (rx x) := by
  rcases List.eq_nil_or_concat L with rfl | ⟨K, y, rfl⟩
  · rfl
  · rw [List.concat_eq_append]
    by_cases h : y.2 < x.1
    · rw [jn_far K y x h, rn_app, rn_app]
      have h2 := jr_far (rn K) (rx y) (rx x) (by show y.2 - 1 + 1 < x.1; omega)
      exact h2.symm
    · rw [jn_near K y x h, rn_app, rn_app]
      refine Eq.trans ?_ (jr_near (rn K) (rx y) (rx x) (by show ¬ y.2 - 1 + 1 < x.1; omega)).symm
      show rn K ++ [(y.1, max y.2 x.2 - 1)] = rn K ++ [(y.1, max (y.2 - 1) (x.2 - 1))]
      rw [show max y.2 x.2 - 1 = max (y.2 - 1) (x.2 - 1) by omega]
theorem jr_len (R : List Iv) (y : Iv) : (jr R y).length ≤ R.length + 1 := by
  rcases List.eq_nil_or_concat R with rfl | ⟨K, z, rfl⟩
  · exact Nat.le_refl _
  · rw [List.concat_eq_append]
    by_cases h : z.2 + 1 < y.1
    · rw [jr_far K z y h]; simp
    · rw [jr_near K z y h]; simp
/-- How many rows some runs have. -/
def cnt (R : List Iv) : Int := (R.map (fun y => y.2 - y.1 + 1)).sum
theorem cnt_snoc (R : List Iv) (y : Iv) : cnt (R ++ [y]) = cnt R + (y.2 - y.1 + 1) := by
  unfold cnt; rw [List.map_append, List.sum_append]; simp
end Go.Proofs.Ytacgomhegjilgaa.Ts
