/- The bucket of a rank (plain). -/
import Derived.Test.YtolgcphmmghlbaaHt
namespace Go.Proofs.Ytolgcphmmghlbaa

theorem ix_mono1 (v : Nat) (h : v + 1 ≤ 1099511627776) : ix v ≤ ix (v + 1) := by
  have := ix_next (v + 1) (by omega) h
  rw [show v + 1 - 1 = v by omega] at this
  omega
theorem ix_mono (u v : Nat) (h : u ≤ v) (hv : v ≤ 1099511627776) : ix u ≤ ix v := by
  induction v with
  | zero => rw [show u = 0 by omega]; omega
  | succ v ih =>
    by_cases he : u = v + 1
    · subst he; omega
    · have h1 := ih (by omega) (by omega)
      have h2 := ix_mono1 v (by omega)
      omega
/-- The counts of the first n buckets, added. -/
theorem ioL_append (A B : List Iv) (r : Int) (h : ∀ j, j ≤ A.length → ((A.take j).map Prod.snd).sum < r) : ioL (A ++ B) r = ioL B (r - (A.map Prod.snd).sum) := by
  induction A generalizing r with
  | nil => simp
  | cons x A ih =>
    have h1 := h 1 (by simp)
    simp at h1
    show (if r - x.2 ≤ 0 then x.1 else ioL (A ++ B) (r - x.2)) = _
    rw [if_neg (by omega), ih (r - x.2) (fun j hj => by
      have := h (j + 1) (by simp; omega)
      rw [List.take_succ_cons, List.map_cons, List.sum_cons] at this
      omega)]
    congr 1
    simp
    omega
theorem ioL_bk (cv : List Int) (h0 : ∀ i, 0 ≤ cv.getD i 0) (n : Nat) (r : Int) (h1 : sN cv n < r) (h2 : r ≤ sN cv n + cv.getD n 0) (m : Nat) (hm : n < m) : ioL (bkN cv m) r = (n : Int) := by
  have hmono : ∀ i, sN cv i ≤ sN cv (i + 1) := fun i => by
    have := h0 i
    show _ ≤ sN cv i + cv.getD i 0
    omega
  have hT : ∀ (m : Nat) (j : Nat), j ≤ (bkN cv m).length → (((bkN cv m).take j).map Prod.snd).sum ≤ sN cv m := by
    intro m j hj
    have e : (((bkN cv m).take j).map Prod.snd).sum + (((bkN cv m).drop j).map Prod.snd).sum = sN cv m := by
      rw [← bkN_sum, ← List.sum_append, ← List.map_append, List.take_append_drop]
    have hp : 0 ≤ (((bkN cv m).drop j).map Prod.snd).sum := by
      have : ∀ (l : List Iv), (∀ x ∈ l, 0 ≤ x.2) → 0 ≤ (l.map Prod.snd).sum := by
        intro l
        induction l with
        | nil => intro _; simp
        | cons a l ih =>
          intro h
          have := ih (fun x hx => h x (List.mem_cons_of_mem _ hx))
          have := h a (List.mem_cons_self ..)
          simp; omega
      refine this _ (fun x hx => ?_)
      obtain ⟨i, _, _, e, _⟩ := bkN_mem cv m x (List.mem_of_mem_drop hx)
      rw [e]; exact h0 i
    omega
  induction m with
  | zero => omega
  | succ m ih =>
    have hS : bkN cv (m + 1) = if cv.getD m 0 = 0 then bkN cv m else bkN cv m ++ [((m : Int), cv.getD m 0)] := rfl
    by_cases he : n = m
    · subst he
      rw [hS, if_neg (by omega), ioL_append _ _ _ (fun j hj => by have := hT n j hj; omega), bkN_sum]
      show (if r - sN cv n - cv.getD n 0 ≤ 0 then (n : Int) else _) = _
      rw [if_pos (by omega)]
    · have := ih (by omega)
      rw [hS]
      by_cases hz : cv.getD m 0 = 0
      · rw [if_pos hz]; exact this
      · rw [if_neg hz]
        have key : ∀ (A B : List Iv) (r : Int), r ≤ (A.map Prod.snd).sum → 0 < r → ioL (A ++ B) r = ioL A r := by
          intro A B
          induction A with
          | nil => intro r h1 h2; simp at h1; omega
          | cons x A ih =>
            intro r h1 h2
            simp at h1
            show (if r - x.2 ≤ 0 then x.1 else ioL (A ++ B) (r - x.2)) = (if r - x.2 ≤ 0 then x.1 else ioL A (r - x.2))
            by_cases h : r - x.2 ≤ 0
            · rw [if_pos h, if_pos h]
            · rw [if_neg h, if_neg h]; exact ih _ (by omega) (by omega)
        have hsm : ∀ i, n + 1 ≤ i → sN cv (n + 1) ≤ sN cv i := by
          intro i hi
          induction i with
          | zero => omega
          | succ i ih =>
            by_cases h : n + 1 = i + 1
            · rw [h]; omega
            · have := ih (by omega); have := hmono i; omega
        have h3 : sN cv (n + 1) = sN cv n + cv.getD n 0 := rfl
        have h4 := hsm m (by omega)
        have h5 : 0 ≤ sN cv n := by
          clear h1 h2 ih this hS he hm hz h3 h4 hsm key
          induction n with
          | zero => exact Int.le_refl _
          | succ n ih => have := hmono n; omega
        rw [key _ _ _ (by rw [bkN_sum]; omega) (by omega)]
        exact this
/-- How many of the first j values are less than v, and how many equal it. -/
def ltV (v : Int) (M : List Int) : Nat → Int
  | 0 => 0
  | j + 1 => ltV v M j + (if M.getD j 0 < v then 1 else 0)
def eqV (v : Int) (M : List Int) : Nat → Int
  | 0 => 0
  | j + 1 => eqV v M j + (if M.getD j 0 = v then 1 else 0)
/-- Values in the buckets below n. -/
theorem sN_below (M : List Int) (hV : ∀ x ∈ M, Vl x) (n : Nat) (j : Nat) (hj : j ≤ M.length) : sN (cvN M j) n = wV (fun k => if k < n then 1 else 0) M j := by
  induction j with
  | zero =>
    have : ∀ n, sN (List.replicate 305 (0 : Int)) n = 0 := by
      intro n
      induction n with
      | zero => rfl
      | succ n ih => show sN _ n + _ = 0; rw [ih, rep_get]; omega
    exact this n
  | succ j ih =>
    have hlt : j < M.length := by omega
    have hv := hV _ (List.getElem_mem hlt)
    have e : M.getD j 0 = M[j] := by simp [List.getD, List.getElem?_eq_getElem hlt]
    have h5 := ix_lt (M.getD j 0).toNat (by rw [e]; have := hv.2; omega)
    show sN (List.set _ _ _) n = wV _ M j + _
    rw [sN_set _ _ _ (by rw [cvN_len]; exact h5), ih (by omega)]
    have hz : ∀ z : Int, z + 1 - z = 1 := fun z => by omega
    rw [hz]
theorem rank_at (M : List Int) (hV : ∀ x ∈ M, Vl x) (i : Nat) (hi : i < M.length) (r : Int) (h1 : ltV (M.getD i 0) M M.length < r) (h2 : r ≤ ltV (M.getD i 0) M M.length + eqV (M.getD i 0) M M.length) :
    ioL (bkS M) r = ((ix (M.getD i 0).toNat : Nat) : Int) := by
  have hvi := hV _ (List.getElem_mem hi)
  have ei : M.getD i 0 = M[i] := by simp [List.getD, List.getElem?_eq_getElem hi]
  rw [← ei] at hvi
  obtain ⟨v, hv⟩ : ∃ v : Nat, M.getD i 0 = (v : Int) := ⟨(M.getD i 0).toNat, by have := hvi.1; omega⟩
  have hv5 := ix_lt v (by have := hvi.2; omega)
  rw [hv] at h1 h2 ⊢
  rw [show ((v : Int)).toNat = v by omega]
  have hb1 : ∀ j, j ≤ M.length → wV (fun k => if k < ix v then 1 else 0) M j ≤ ltV (v : Int) M j := by
    intro j
    induction j with
    | zero => intro _; exact Int.le_refl _
    | succ j ih =>
      intro hj
      have hlt : j < M.length := by omega
      have hx := hV _ (List.getElem_mem hlt)
      have e : M.getD j 0 = M[j] := by simp [List.getD, List.getElem?_eq_getElem hlt]
      rw [← e] at hx
      have := ih (by omega)
      show wV _ M j + (if ix (M.getD j 0).toNat < ix v then 1 else 0) ≤ ltV (v : Int) M j + (if M.getD j 0 < (v : Int) then 1 else 0)
      by_cases h : M.getD j 0 < (v : Int)
      · rw [if_pos h]; split <;> omega
      · have := ix_mono v (M.getD j 0).toNat (by omega) (by have := hx.2; omega)
        rw [if_neg h, if_neg (by omega)]; omega
  have hb2 : ∀ j, j ≤ M.length → ltV (v : Int) M j + eqV (v : Int) M j ≤ wV (fun k => if k < ix v + 1 then 1 else 0) M j := by
    intro j
    induction j with
    | zero => intro _; exact Int.le_refl _
    | succ j ih =>
      intro hj
      have hlt : j < M.length := by omega
      have hx := hV _ (List.getElem_mem hlt)
      have e : M.getD j 0 = M[j] := by simp [List.getD, List.getElem?_eq_getElem hlt]
      rw [← e] at hx
      have := ih (by omega)
      show ltV (v : Int) M j + (if M.getD j 0 < (v : Int) then 1 else 0) + (eqV (v : Int) M j + (if M.getD j 0 = (v : Int) then 1 else 0)) ≤ wV _ M j + (if ix (M.getD j 0).toNat < ix v + 1 then 1 else 0)
      by_cases h : M.getD j 0 ≤ (v : Int)
      · have := ix_mono (M.getD j 0).toNat v (by omega) (by have := hvi.2; omega)
        rw [if_pos (show ix (M.getD j 0).toNat < ix v + 1 by omega)]
        split <;> split <;> omega
      · rw [if_neg (by omega), if_neg (by omega)]
        split <;> omega
  have hs1 := sN_below M hV (ix v) M.length (Nat.le_refl _)
  have hs2 := sN_below M hV (ix v + 1) M.length (Nat.le_refl _)
  have h3 := hb1 M.length (Nat.le_refl _)
  have h4 := hb2 M.length (Nat.le_refl _)
  have hS : sN (cvN M M.length) (ix v + 1) = sN (cvN M M.length) (ix v) + (cvN M M.length).getD (ix v) 0 := rfl
  have h0 : ∀ k, 0 ≤ (cvN M M.length).getD k 0 := fun k => (cvN_bd M M.length k).1
  exact ioL_bk _ h0 (ix v) r (by omega) (by omega) 305 hv5
/-- Every rank has a bucket. -/
theorem ioL_some (cv : List Int) (h0 : ∀ i, 0 ≤ cv.getD i 0) (r : Int) (h1 : 0 < r) (m : Nat) (h2 : r ≤ sN cv m) : ∃ n, n < m ∧ ioL (bkN cv m) r = (n : Int) := by
  have : ∃ n, n < m ∧ sN cv n < r ∧ r ≤ sN cv n + cv.getD n 0 := by
    induction m with
    | zero => exact absurd (show r ≤ 0 from h2) (by omega)
    | succ m ih =>
      by_cases h : r ≤ sN cv m
      · obtain ⟨n, a, b⟩ := ih h
        exact ⟨n, by omega, b⟩
      · exact ⟨m, by omega, by omega, h2⟩
  obtain ⟨n, a, b, c⟩ := this
  exact ⟨n, a, ioL_bk cv h0 n r b c m a⟩
theorem cnt_bd (v : Int) (M : List Int) (j : Nat) : 0 ≤ ltV v M j ∧ 0 ≤ eqV v M j ∧ ltV v M j + eqV v M j ≤ (j : Int) := by
  induction j with
  | zero => exact ⟨Int.le_refl _, Int.le_refl _, Int.le_refl _⟩
  | succ j ih =>
    obtain ⟨a, b, c⟩ := ih
    show 0 ≤ ltV v M j + (if M.getD j 0 < v then 1 else 0) ∧ 0 ≤ eqV v M j + (if M.getD j 0 = v then 1 else 0) ∧ ltV v M j + (if M.getD j 0 < v then 1 else 0) + (eqV v M j + (if M.getD j 0 = v then 1 else 0)) ≤ ((j + 1 : Nat) : Int)
    refine ⟨by split <;> omega, by split <;> omega, ?_⟩
    split <;> split <;> omega
end Go.Proofs.Ytolgcphmmghlbaa
