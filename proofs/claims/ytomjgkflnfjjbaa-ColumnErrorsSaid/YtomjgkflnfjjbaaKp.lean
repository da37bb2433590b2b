/- ColumnCompresses, plain: how long the forms are. -/
import Derived.Test.YtomjgkflnfjjbaaKo
namespace Go.Proofs.Ytomjgkflnfjjbaa
open Go.ChangeShapes Go.WideShapes Go.ChangeAt Go.RowKit En

theorem fmB_size (k : Int) (L : List Int) : (fmB k L).size = total (ptF k L) := by
  show (whole (ptF k L)).toArray.size = _
  rw [List.size_toArray, whole_len]
theorem bsF_le (L : List Int) (j : Nat) : ∀ i, i < j → (bsF L j).2.size ≤ (fmB ((i : Int) + 1) L).size := by
  induction j with
  | zero => intro i hi; omega
  | succ j ih =>
    intro i hi
    by_cases h : j = 0 ∨ (fmB ((j : Int) + 1) L).size < (bsF L j).2.size
    · have e : bsF L (j + 1) = _ := if_pos h
      rw [e]
      dsimp only
      by_cases hij : i = j
      · subst hij; exact Nat.le_refl _
      · have := ih i (by omega)
        omega
    · have e : bsF L (j + 1) = _ := if_neg h
      rw [e]
      by_cases hij : i = j
      · subst hij; omega
      · exact ih i (by omega)
theorem num_short (x : Int) (k : Nat) (hk : k ≤ 8) (h : x.natAbs < 2 ^ (8 * k)) : (num x).length ≤ 1 + k := by
  rw [num_len]
  have := Lib.bitLen_le x.natAbs (8 * k) (by omega) h
  unfold sz
  omega
/-- A constant list, and one that grows evenly. -/
def smL (a : Int) (n : Nat) : List Int := List.replicate n a
def evL (a b : Int) (n : Nat) : List Int := (List.range n).map fun (i : Nat) => a + (i : Int) * b
theorem smL_snoc (a : Int) (n : Nat) : smL a (n + 1) = smL a n ++ [a] := List.replicate_succ'
theorem evL_snoc (a b : Int) (n : Nat) : evL a b (n + 1) = evL a b n ++ [a + (n : Int) * b] := by simp [evL, List.range_succ]
theorem smL_len (a : Int) (n : Nat) : (smL a n).length = n := List.length_replicate
theorem evL_len (a b : Int) (n : Nat) : (evL a b n).length = n := by simp [evL]
theorem evL_get (a b : Int) (n j : Nat) (h : j < n) : (evL a b n).getD j 0 = a + (j : Int) * b := by
  simp [evL, List.getD, h]
theorem smL_get (a : Int) (n j : Nat) (h : j < n) : (smL a n).getD j 0 = a := by
  simp [smL, List.getD, h]
theorem rlF_sm (a : Int) (n : Nat) : ∀ j, j < n → rlF (smL a n) (j + 1) = [(a, (j : Int) + 1)] := by
  intro j
  induction j with
  | zero =>
    intro hj
    rw [rlF_new _ 0 (Or.inl rfl), smL_get a n 0 hj]; rfl
  | succ j ih =>
    intro hj
    have h1 := ih (by omega)
    rw [rlF_same _ (j + 1) (by
      rintro (h | h)
      · omega
      · rw [smL_get a n (j + 1) hj, show j + 1 - 1 = j from rfl, smL_get a n j (by omega)] at h; exact h rfl) [] a ((j : Int) + 1) h1]
    simp
theorem size3 (a : Int) (n : Nat) (hn : n ≤ 200) (ha : -2147483648 ≤ a ∧ a ≤ 2147483647) : (fmB 3 (smL a n)).size ≤ 14 := by
  rw [fmB_size]
  show total (prR (rlF (smL a n) (smL a n).length) [num 3] (rlF (smL a n) (smL a n).length).length) ≤ 14
  rw [smL_len]
  have n3 := num_short 3 1 (by omega) (by decide)
  have na := num_short a 4 (by omega) (by omega)
  cases n with
  | zero =>
    show total (num ((0 : Nat) : Int) :: [num 3]) ≤ 14
    have n0 := num_short ((0 : Nat) : Int) 1 (by omega) (by decide)
    rw [total_cons, total_cons, show total [] = 0 from rfl]
    omega
  | succ n =>
    rw [rlF_sm a (n + 1) n (by omega)]
    show total (num ((n : Int) + 1) :: num a :: num ((1 : Nat) : Int) :: [num 3]) ≤ 14
    have n1 := num_short ((1 : Nat) : Int) 1 (by omega) (by decide)
    have n2 := num_short ((n : Int) + 1) 1 (by omega) (by omega)
    rw [total_cons, total_cons, total_cons, total_cons, show total [] = 0 from rfl]
    omega
theorem prL_short (n : Nat) (L : List Int) (fs : List (List UInt8)) (m : Nat) (h0 : (num (L.getD 0 0)).length ≤ 5) (h1 : ∀ j, j < m → 0 < j → (num (L.getD j 0)).length ≤ 3) (hn : (num (n : Int)).length ≤ 2) : ∀ j, j ≤ m → total (prL n L fs j) ≤ total fs + 2 + (if j = 0 then 0 else 2) + 3 * j := by
  intro j
  induction j with
  | zero =>
    intro _
    show total (num (n : Int) :: fs) ≤ _
    rw [total_cons, if_pos rfl]; omega
  | succ j ih =>
    intro hj
    have := ih (by omega)
    show total (num (L.getD j 0) :: prL n L fs j) ≤ _
    rw [total_cons, if_neg (by omega)]
    by_cases e : j = 0
    · subst e
      rw [if_pos rfl] at this
      omega
    · rw [if_neg e] at this
      have := h1 j (by omega) (by omega)
      omega
theorem size2 (a b : Int) (n : Nat) (hn : n ≤ 200) (ha : -2147483648 ≤ a ∧ a ≤ 2147483647) (hb : -32768 ≤ b ∧ b ≤ 32767) : (fmB 2 (evL a b n)).size ≤ 10 + 3 * n := by
  rw [fmB_size]
  show total (prL (evL a b n).length (dlL 0 (evL a b n)) [num 2] (evL a b n).length) ≤ _
  rw [evL_len]
  have n2 := num_short 2 1 (by omega) (by decide)
  have hg : ∀ j, j < n → (dlL 0 (evL a b n)).getD j 0 = if j = 0 then a else b := by
    intro j hj
    have hl : j < (evL a b n).length := by rw [evL_len]; exact hj
    rw [dlL_get 0 _ j hl]
    have e : (evL a b n)[j] = a + (j : Int) * b := by
      have := evL_get a b n j hj
      rwa [show (evL a b n).getD j 0 = (evL a b n)[j] by simp [List.getD, List.getElem?_eq_getElem hl]] at this
    rw [e]
    cases j with
    | zero => simp
    | succ k =>
      show a + ((k + 1 : Nat) : Int) * b - (evL a b n).getD k 0 = _
      rw [evL_get a b n k (by omega), if_neg (by omega), Int.natCast_add, Int.add_mul]
      omega
  have := prL_short n (dlL 0 (evL a b n)) [num 2] n (by
      by_cases h0 : 0 < n
      · rw [hg 0 h0, if_pos rfl]; exact num_short a 4 (by omega) (by omega)
      · have : (dlL 0 (evL a b n)).length = 0 := by rw [dlL_len, evL_len]; omega
        rw [List.eq_nil_of_length_eq_zero this]; exact num_short 0 4 (by omega) (by decide))
    (fun j hj h0 => by rw [hg j hj, if_neg (by omega)]; exact num_short b 2 (by omega) (by omega)) (num_short (n : Int) 1 (by omega) (by omega)) n (Nat.le_refl _)
  rw [total_cons, show total [] = 0 from rfl] at this
  by_cases e : n = 0
  · subst e; simp at this ⊢; omega
  · rw [if_neg e] at this; omega
theorem chkV_of {L : List Int} (h1 : L.length ≤ 4096) (h2 : Vs L) : chkV L = 0 := by
  unfold chkV
  rw [if_neg (by omega), if_neg]
  intro h
  obtain ⟨x, hx, hv⟩ := List.any_eq_true.1 h
  have := h2 x hx
  unfold inV at hv
  simp at hv
  omega
theorem sm_ok (a : Int) (n : Nat) (hn : n ≤ 200) (ha : -2147483648 ≤ a ∧ a ≤ 2147483647) : chkV (smL a n) = 0 := by
  refine chkV_of (by rw [smL_len]; omega) (fun x hx => ?_)
  have := (List.mem_replicate.1 hx).2
  omega
theorem ev_ok (a b : Int) (n : Nat) (hn : n ≤ 200) (ha : -2147483648 ≤ a ∧ a ≤ 2147483647) (hb : -32768 ≤ b ∧ b ≤ 32767) : chkV (evL a b n) = 0 := by
  refine chkV_of (by rw [evL_len]; omega) (fun x hx => ?_)
  obtain ⟨i, hi, rfl⟩ := List.mem_map.1 hx
  have hi2 := List.mem_range.1 hi
  have h1 : (i : Int) * b ≤ 200 * 32767 := by
    rcases Int.lt_or_le b 0 with h | h
    · have := Int.mul_nonpos_of_nonneg_of_nonpos (show (0 : Int) ≤ (i : Int) by omega) (show b ≤ 0 by omega); omega
    · exact Int.mul_le_mul (by omega) hb.2 h (by omega)
  have h2 : -(200 * 32768) ≤ (i : Int) * b := by
    rcases Int.lt_or_le b 0 with h | h
    · have := Int.mul_le_mul (show (i : Int) ≤ 200 by omega) (show -b ≤ 32768 by omega) (by omega) (by omega)
      rw [Int.mul_neg] at this; omega
    · have := Int.mul_nonneg (show (0 : Int) ≤ (i : Int) by omega) h; omega
  omega
end Go.Proofs.Ytomjgkflnfjjbaa
