/- The buckets of counts: valid, in order, their total (plain). -/
import Derived.Test.YtolgcphmmghlbaaHl
namespace Go.Proofs.Ytolgcphmmghlbaa

/-- The sum of the first n counts. -/
def sN (cv : List Int) : Nat → Int
  | 0 => 0
  | n + 1 => sN cv n + cv.getD n 0
theorem sN_set (cv : List Int) (i : Nat) (x : Int) (hi : i < cv.length) (n : Nat) : sN (cv.set i x) n = sN cv n + (if i < n then x - cv.getD i 0 else 0) := by
  induction n with
  | zero => simp [sN]
  | succ n ih =>
    show sN (cv.set i x) n + (cv.set i x).getD n 0 = sN cv n + cv.getD n 0 + _
    rw [ih, getD_set_int]
    have hL : i < cv.length := hi
    simp only [hL, and_true]
    split <;> split <;> split <;> first | omega | (subst_vars; omega)
theorem sN_cvN (L : List Int) (hV : ∀ x ∈ L, Vl x) (j : Nat) (hj : j ≤ L.length) : sN (cvN L j) 305 = (j : Int) := by
  induction j with
  | zero =>
    have : ∀ n, sN (List.replicate 305 (0 : Int)) n = 0 := by
      intro n
      induction n with
      | zero => rfl
      | succ n ih => show sN _ n + _ = 0; rw [ih, rep_get]; rfl
    exact this 305
  | succ j ih =>
    have hlt : j < L.length := by omega
    have hv := hV _ (List.getElem_mem hlt)
    have e : L.getD j 0 = L[j] := by simp [List.getD, List.getElem?_eq_getElem hlt]
    have h5 := ix_lt (L.getD j 0).toNat (by rw [e]; have := hv.2; omega)
    show sN (List.set _ _ _) 305 = _
    rw [sN_set _ _ _ (by rw [cvN_len]; exact h5), ih (by omega), if_pos h5]
    omega
theorem bkN_mem (cv : List Int) (n : Nat) (x : Iv) (h : x ∈ bkN cv n) : ∃ m : Nat, x.1 = (m : Int) ∧ m < n ∧ x.2 = cv.getD m 0 ∧ x.2 ≠ 0 := by
  induction n with
  | zero => simp [bkN] at h
  | succ n ih =>
    have hS : bkN cv (n + 1) = if cv.getD n 0 = 0 then bkN cv n else bkN cv n ++ [((n : Int), cv.getD n 0)] := rfl
    rw [hS] at h
    by_cases h0 : cv.getD n 0 = 0
    · rw [if_pos h0] at h
      obtain ⟨m, a, b, d, e⟩ := ih h
      exact ⟨m, a, by omega, d, e⟩
    · rw [if_neg h0] at h
      rcases List.mem_append.1 h with h | h
      · obtain ⟨m, a, b, d, e⟩ := ih h
        exact ⟨m, a, by omega, d, e⟩
      · rw [List.mem_singleton.1 h]
        exact ⟨n, rfl, by omega, rfl, h0⟩
theorem bkN_inc (cv : List Int) (n : Nat) : (bkN cv n).Pairwise (fun x y => x.1 < y.1) := by
  induction n with
  | zero => exact List.Pairwise.nil
  | succ n ih =>
    have hS : bkN cv (n + 1) = if cv.getD n 0 = 0 then bkN cv n else bkN cv n ++ [((n : Int), cv.getD n 0)] := rfl
    rw [hS]
    split
    · exact ih
    · refine List.pairwise_append.2 ⟨ih, List.pairwise_singleton _ _, fun x hx y hy => ?_⟩
      obtain ⟨m, a, b, _, _⟩ := bkN_mem cv n x hx
      rw [List.mem_singleton.1 hy, a]
      show (m : Int) < (n : Int)
      omega
theorem bkN_sum (cv : List Int) (n : Nat) : ((bkN cv n).map Prod.snd).sum = sN cv n := by
  induction n with
  | zero => rfl
  | succ n ih =>
    have hS : bkN cv (n + 1) = if cv.getD n 0 = 0 then bkN cv n else bkN cv n ++ [((n : Int), cv.getD n 0)] := rfl
    rw [hS]
    show _ = sN cv n + cv.getD n 0
    split
    · rw [ih]; omega
    · rw [List.map_append, List.sum_append, ih]; simp
theorem ttN_sum (L : List Iv) (j : Nat) (hj : j ≤ L.length) : ttN L j = ((L.take j).map Prod.snd).sum := by
  induction j with
  | zero => rfl
  | succ j ih =>
    show ttN L j + (L.getD j (0, 0)).2 = _
    rw [ih (by omega), getD_iv j (by omega), ← List.take_append_getElem (show j < L.length by omega), List.map_append, List.sum_append]
    simp
theorem ttN_bk (cv : List Int) (n : Nat) : ttN (bkN cv n) (bkN cv n).length = sN cv n := by
  rw [ttN_sum _ _ (Nat.le_refl _), List.take_length, bkN_sum]
theorem chk_good (L : List Iv) (p : Option Int) (t : Int) (hV : VB L) (hI : L.Pairwise (fun x y => x.1 < y.1)) (hp : ∀ q, p = some q → ∀ x ∈ L, q < x.1) (ht : t + (L.map Prod.snd).sum ≤ 1048576) : chkL p t L = 0 := by
  induction L generalizing p t with
  | nil =>
    show (if 1048576 < t then (20 : Int) else 0) = 0
    rw [if_neg (by simp at ht; omega)]
  | cons x L ih =>
    obtain ⟨a, b, c, d⟩ := hV x (List.mem_cons_self ..)
    obtain ⟨hI1, hI2⟩ := List.pairwise_cons.1 hI
    show (if (decide (0 ≤ x.1) && decide (x.1 < 305)) = false then (2 : Int) else _) = 0
    rw [if_neg (by simp; omega), if_neg, if_neg (by omega)]
    · exact ih (some x.1) (t + x.2) (fun y hy => hV y (List.mem_cons_of_mem _ hy)) hI2 (fun q hq y hy => by cases hq; exact hI1 y hy) (by simp at ht; omega)
    · cases p with
      | none => simp
      | some q => have := hp q rfl x (List.mem_cons_self ..); simp; omega
theorem vb_of (L : List Int) (hl : L.length ≤ 1000000) : VB (bkN (cvN L L.length) 305) := fun x hx => by
  obtain ⟨m, a, b, d, e⟩ := bkN_mem _ _ x hx
  have := cvN_bd L L.length m
  omega
theorem chk_of (L : List Int) (hl : L.length ≤ 1000000) (hV : ∀ x ∈ L, Vl x) : chkL none 0 (bkN (cvN L L.length) 305) = 0 := by
  refine chk_good _ _ _ (vb_of L hl) (bkN_inc _ _) (fun q hq => by cases hq) ?_
  rw [bkN_sum, sN_cvN L hV _ (Nat.le_refl _)]
  omega
theorem tot_of (L : List Int) (hV : ∀ x ∈ L, Vl x) : ttN (bkN (cvN L L.length) 305) (bkN (cvN L L.length) 305).length = (L.length : Int) := by
  rw [ttN_bk, sN_cvN L hV _ (Nat.le_refl _)]
theorem ivok_of (L : List Int) (hl : L.length ≤ 1000000) : ∀ x ∈ bkN (cvN L L.length) 305, IvOk x := fun x hx => by
  have := vb_of L hl x hx
  unfold IvOk
  omega
end Go.Proofs.Ytolgcphmmghlbaa
