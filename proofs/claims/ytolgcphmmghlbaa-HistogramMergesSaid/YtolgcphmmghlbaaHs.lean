/- Sums over buckets are sums over values (plain). -/
import Derived.Test.YtolgcphmmghlbaaHr
namespace Go.Proofs.Ytolgcphmmghlbaa

/-- The counts of the first n buckets, with weights. -/
def wS (wt : Nat → Int) (cv : List Int) : Nat → Int
  | 0 => 0
  | n + 1 => wS wt cv n + wt n * cv.getD n 0
/-- The weights of the buckets of the first j values. -/
def wV (wt : Nat → Int) (L : List Int) : Nat → Int
  | 0 => 0
  | j + 1 => wV wt L j + wt (ix (L.getD j 0).toNat)
theorem wS_set (wt : Nat → Int) (cv : List Int) (i : Nat) (hi : i < cv.length) (n : Nat) : wS wt (cv.set i (cv.getD i 0 + 1)) n = wS wt cv n + (if i < n then wt i else 0) := by
  induction n with
  | zero => simp [wS]
  | succ n ih =>
    show wS wt (cv.set i (cv.getD i 0 + 1)) n + wt n * (cv.set i (cv.getD i 0 + 1)).getD n 0 = wS wt cv n + wt n * cv.getD n 0 + _
    rw [ih, getD_set_int]
    by_cases h : i = n
    · subst h
      simp only [hi, and_self, if_true]
      rw [if_neg (by omega), if_pos (by omega), Int.mul_add]
      omega
    · have hne : ¬ (i = n ∧ i < cv.length) := fun y => h y.1
      rw [if_neg hne]
      by_cases h2 : i < n
      · rw [if_pos h2, if_pos (by omega)]; omega
      · rw [if_neg h2, if_neg (by omega)]; omega
theorem wS_cvN (wt : Nat → Int) (L : List Int) (hV : ∀ x ∈ L, Vl x) (j : Nat) (hj : j ≤ L.length) : wS wt (cvN L j) 305 = wV wt L j := by
  induction j with
  | zero =>
    have : ∀ n, wS wt (List.replicate 305 (0 : Int)) n = 0 := by
      intro n
      induction n with
      | zero => rfl
      | succ n ih => show wS wt _ n + wt n * _ = 0; rw [ih, rep_get]; omega
    exact this 305
  | succ j ih =>
    have hlt : j < L.length := by omega
    have hv := hV _ (List.getElem_mem hlt)
    have e : L.getD j 0 = L[j] := by simp [List.getD, List.getElem?_eq_getElem hlt]
    have h5 := ix_lt (L.getD j 0).toNat (by rw [e]; have := hv.2; omega)
    show wS wt (List.set _ _ _) 305 = wV wt L j + _
    rw [wS_set _ _ _ (by rw [cvN_len]; exact h5), ih (by omega), if_pos h5]
theorem bkN_wsum (wt : Nat → Int) (cv : List Int) (n : Nat) : ((bkN cv n).map (fun y => wt y.1.toNat * y.2)).sum = wS wt cv n := by
  induction n with
  | zero => rfl
  | succ n ih =>
    have hS : bkN cv (n + 1) = if cv.getD n 0 = 0 then bkN cv n else bkN cv n ++ [((n : Int), cv.getD n 0)] := rfl
    rw [hS]
    show _ = wS wt cv n + wt n * cv.getD n 0
    by_cases h : cv.getD n 0 = 0
    · rw [if_pos h, ih, h]; omega
    · rw [if_neg h, List.map_append, List.sum_append, ih]; simp
theorem smS_sum (f : Nat → Nat) (L : List Iv) (j : Nat) (hj : j ≤ L.length) : smS f L j = ((L.take j).map (fun y => ((f y.1.toNat : Nat) : Int) * y.2)).sum := by
  induction j with
  | zero => rfl
  | succ j ih =>
    show smS f L j + ((f (L.getD j (0, 0)).1.toNat : Nat) : Int) * (L.getD j (0, 0)).2 = _
    rw [ih (by omega), getD_iv j (by omega), ← List.take_append_getElem (show j < L.length by omega), List.map_append, List.sum_append]
    simp
theorem amS_sum (f : Nat → Nat) (v : Int) (L : List Iv) (j : Nat) (hj : j ≤ L.length) : amS f L v j = ((L.take j).map (fun y => (if ((f y.1.toNat : Nat) : Int) ≤ v then 1 else 0) * y.2)).sum := by
  induction j with
  | zero => rfl
  | succ j ih =>
    show amS f L v j + (if ((f (L.getD j (0, 0)).1.toNat : Nat) : Int) ≤ v then (L.getD j (0, 0)).2 else 0) = _
    rw [ih (by omega), getD_iv j (by omega), ← List.take_append_getElem (show j < L.length by omega), List.map_append, List.sum_append]
    split <;> simp [*]
/-- The sum of the bounds of buckets of values. -/
theorem smS_bk (f : Nat → Nat) (M : List Int) (hV : ∀ x ∈ M, Vl x) : smS f (bkS M) (bkS M).length = wV (fun n => ((f n : Nat) : Int)) M M.length := by
  rw [smS_sum _ _ _ (Nat.le_refl _), List.take_length]
  exact (bkN_wsum (fun n => ((f n : Nat) : Int)) (cvN M M.length) 305).trans (wS_cvN _ M hV _ (Nat.le_refl _))
theorem amS_bk (f : Nat → Nat) (v : Int) (M : List Int) (hV : ∀ x ∈ M, Vl x) : amS f (bkS M) v (bkS M).length = wV (fun n => if ((f n : Nat) : Int) ≤ v then 1 else 0) M M.length := by
  rw [amS_sum _ _ _ _ (Nat.le_refl _), List.take_length]
  exact (bkN_wsum (fun n => if ((f n : Nat) : Int) ≤ v then (1 : Int) else 0) (cvN M M.length) 305).trans (wS_cvN _ M hV _ (Nat.le_refl _))
end Go.Proofs.Ytolgcphmmghlbaa
