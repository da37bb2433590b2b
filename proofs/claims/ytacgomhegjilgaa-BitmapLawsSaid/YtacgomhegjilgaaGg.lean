/- Contains, Rank, Select of runs, by their rows. -/
import Derived.Test.YtacgomhegjilgaaGf
namespace Go.Proofs.Ytacgomhegjilgaa
open Go.ChangeShapes Go.WideShapes Go.ChangeAt Go.RowKit Ts

/-- Runs one behind the other. -/
def Chn (R : List Iv) : Prop := (∀ x ∈ R, x.1 ≤ x.2) ∧ R.Pairwise (fun x y => x.2 < y.1)
theorem nrm_chn {N : List Iv} (h : Nrm N) : Chn (rn N) := by
  refine ⟨fun x hx => ?_, ?_⟩
  · obtain ⟨y, hy, rfl⟩ := List.mem_map.1 hx
    have := h.1 y hy
    show y.1 ≤ y.2 - 1
    omega
  · exact List.pairwise_map.2 (h.2.imp (fun {a b} hxy => by show a.2 - 1 < b.1; omega))
theorem Chn.tail {x : Iv} {R : List Iv} (h : Chn (x :: R)) : Chn R ∧ x.1 ≤ x.2 ∧ ∀ y ∈ R, x.2 < y.1 :=
  ⟨⟨fun y hy => h.1 y (List.mem_cons_of_mem _ hy), (List.pairwise_cons.1 h.2).2⟩, h.1 x (List.mem_cons_self ..), (List.pairwise_cons.1 h.2).1⟩
theorem chn_asc {R : List Iv} (h : Chn R) : Asc R := by
  induction R with
  | nil => exact List.Pairwise.nil
  | cons x R ih =>
    obtain ⟨t, _, f⟩ := h.tail
    refine List.pairwise_cons.2 ⟨fun y hy => ?_, ih t⟩
    have := f y hy
    have := t.1 y hy
    omega
theorem rx_mem (x : Iv) (n : Int) : n ∈ rowsX x ↔ x.1 ≤ n ∧ n ≤ x.2 := by
  have := rowsX_mem (x.1, x.2 + 1) n
  rw [show rx (x.1, x.2 + 1) = x by simp [rx]] at this
  rw [this]
  dsimp only
  omega
theorem rl_cons (x : Iv) (R : List Iv) : rowsL (x :: R) = rowsX x ++ rowsL R := by unfold rowsL; simp
theorem rl_low {x : Iv} {R : List Iv} (h : ∀ y ∈ R, x.2 < y.1) (n : Int) (hn : n ∈ rowsL R) : x.2 < n := by
  obtain ⟨y, hy, h2⟩ := List.mem_flatMap.1 hn
  have := h y hy
  have := (rx_mem y n).1 h2
  omega
theorem fnd_lt {n : Int} {x : Iv} {R : List Iv} (h : x.2 < n) : fnd n (x :: R) = fnd n R + 1 := by
  unfold fnd; rw [List.takeWhile_cons, if_pos (by simpa using h)]; rfl
theorem fnd_ge {n : Int} {x : Iv} {R : List Iv} (h : ¬ x.2 < n) : fnd n (x :: R) = 0 := by
  unfold fnd; rw [List.takeWhile_cons, if_neg (by simpa using h)]; rfl
theorem cns_rows {R : List Iv} (h : Chn R) (n : Int) : cns n R = decide (n ∈ rowsL R) := by
  induction R with
  | nil => rfl
  | cons x R ih =>
    obtain ⟨t, hx, f⟩ := h.tail
    rw [rl_cons]
    by_cases h1 : x.2 < n
    · have e : cns n (x :: R) = cns n R := by unfold cns; rw [fnd_lt h1]; rfl
      rw [e, ih t]
      refine decide_eq_decide.2 ⟨fun h => List.mem_append_right _ h, fun h => ?_⟩
      rcases List.mem_append.1 h with h | h
      · have := (rx_mem x n).1 h; omega
      · exact h
    · have e : cns n (x :: R) = decide (x.1 ≤ n) := by unfold cns; rw [fnd_ge h1]; rfl
      rw [e]
      refine decide_eq_decide.2 ⟨fun h => List.mem_append_left _ ((rx_mem x n).2 (by omega)), fun h => ?_⟩
      rcases List.mem_append.1 h with h | h
      · exact ((rx_mem x n).1 h).1
      · have := rl_low f n h; omega
theorem rkN_app (n : Int) (L M : List Int) : rkN n (L ++ M) = rkN n L + rkN n M := by unfold rkN; rw [List.countP_append]
theorem rkN_all {n : Int} {L : List Int} (h : ∀ x ∈ L, x < n) : rkN n L = L.length := by
  unfold rkN; exact List.countP_eq_length.2 (fun x hx => by simpa using h x hx)
theorem rkN_none {n : Int} {L : List Int} (h : ∀ x ∈ L, ¬ x < n) : rkN n L = 0 := by
  unfold rkN; exact List.countP_eq_zero.2 (fun x hx => by simpa using h x hx)
theorem rkN_rg (n a : Int) (k : Nat) (h1 : a ≤ n) (h2 : n ≤ a + (k : Int)) : (rkN n ((List.range k).map (fun i : Nat => a + (i : Int))) : Int) = n - a := by
  induction k with
  | zero => have : n = a := by omega
            subst this; simp [rkN]
  | succ k ih =>
    rw [List.range_succ, List.map_append, rkN_app]
    by_cases hk : n ≤ a + (k : Int)
    · have e : rkN n (List.map (fun i : Nat => a + (i : Int)) [k]) = 0 := rkN_none (fun x hx => by simp at hx; omega)
      rw [e, Nat.add_zero]; exact ih hk
    · have e1 : rkN n (List.map (fun i : Nat => a + (i : Int)) [k]) = 1 := rkN_all (fun x hx => by simp at hx; omega)
      have e2 : rkN n ((List.range k).map (fun i : Nat => a + (i : Int))) = ((List.range k).map (fun i : Nat => a + (i : Int))).length := rkN_all (fun x hx => by
        obtain ⟨i, hi, rfl⟩ := List.mem_map.1 hx
        have := List.mem_range.1 hi
        omega)
      rw [e1, e2, List.length_map, List.length_range]
      omega
theorem rkN_x (n : Int) (x : Iv) (h1 : x.1 ≤ n) (h2 : n ≤ x.2 + 1) : (rkN n (rowsX x) : Int) = n - x.1 := by
  unfold rowsX
  exact rkN_rg n x.1 _ h1 (by omega)
theorem rkr_rows {R : List Iv} (h : Chn R) (n : Int) : rkr n R = (rkN n (rowsL R) : Nat) := by
  induction R with
  | nil => rfl
  | cons x R ih =>
    obtain ⟨t, hx, f⟩ := h.tail
    rw [rl_cons, rkN_app]
    by_cases h1 : x.2 < n
    · have e : rkr n (x :: R) = (x.2 - x.1 + 1) + rkr n R := by
        unfold rkr
        rw [fnd_lt h1, List.take_succ_cons, List.getElem?_cons_succ]
        have : cnt (x :: List.take (fnd n R) R) = (x.2 - x.1 + 1) + cnt (List.take (fnd n R) R) := by unfold cnt; rw [List.map_cons, List.sum_cons]
        rw [this]; omega
      rw [e, ih t, rkN_all (L := rowsX x) (fun y hy => by have := (rx_mem x y).1 hy; omega), rowsX_len]
      omega
    · have e0 : rkN n (rowsL R) = 0 := rkN_none (fun y hy => by have := rl_low f y hy; omega)
      have e : rkr n (x :: R) = if x.1 < n then n - x.1 else 0 := by
        unfold rkr
        rw [fnd_ge h1, List.take_zero]
        show cnt [] + _ = _
        rw [show cnt [] = 0 from rfl, Int.zero_add]
        rfl
      rw [e, e0, Nat.add_zero]
      by_cases h2 : x.1 < n
      · rw [if_pos h2, rkN_x n x (by omega) (by omega)]
      · rw [if_neg h2, rkN_none (fun y hy => by have := (rx_mem x y).1 hy; omega)]; rfl
theorem sel_rows {R : List Iv} (h : ∀ x ∈ R, x.1 ≤ x.2) (k : Int) (hk : 0 ≤ k) : sel k R = match (rowsL R)[k.toNat]? with | some n => (n, true) | none => (0, false) := by
  induction R generalizing k with
  | nil => rfl
  | cons x R ih =>
    have hx := h x (List.mem_cons_self ..)
    rw [rl_cons]
    show (if k < x.2 - x.1 + 1 then (x.1 + k, true) else sel (k - (x.2 - x.1 + 1)) R) = _
    have hl := rowsX_len x
    by_cases h1 : k < x.2 - x.1 + 1
    · rw [if_pos h1, List.getElem?_append_left (by omega)]
      have e : (rowsX x)[k.toNat]? = some (x.1 + k) := by
        unfold rowsX
        rw [List.getElem?_map, List.getElem?_range (by omega)]
        show some (x.1 + ((k.toNat : Nat) : Int)) = _
        rw [Int.toNat_of_nonneg hk]
      rw [e]
    · rw [if_neg h1, ih (fun y hy => h y (List.mem_cons_of_mem _ hy)) _ (by omega), List.getElem?_append_right (by omega), hl]
      rw [show (k - (x.2 - x.1 + 1)).toNat = k.toNat - (x.2 - x.1 + 1).toNat by omega]
theorem selR_in {R : List Iv} (h : ∀ x ∈ R, x.1 ≤ x.2) (k : Nat) (hk : k < (rowsL R).length) : selR (k : Int) R = ((rowsL R)[k], true) := by
  unfold selR
  rw [if_neg (by omega), sel_rows h _ (by omega), Int.toNat_natCast, List.getElem?_eq_getElem hk]
theorem selR_out {R : List Iv} (h : ∀ x ∈ R, x.1 ≤ x.2) (k : Int) (hk : ¬ (0 ≤ k ∧ k < ((rowsL R).length : Int))) : selR k R = (0, false) := by
  unfold selR
  by_cases h0 : k < 0
  · rw [if_pos h0]
  · rw [if_neg h0, sel_rows h _ (by omega), List.getElem?_eq_none (by omega)]
theorem rkN_at {L : List Int} (h : Inc L) (k : Nat) (hk : k < L.length) : rkN L[k] L = k := by
  have e : L = L.take k ++ L.drop k := (List.take_append_drop k L).symm
  have h1 : rkN L[k] (L.take k) = k := by
    rw [rkN_all (fun x hx => ?_), List.length_take]
    · omega
    · obtain ⟨i, hi, rfl⟩ := List.getElem_of_mem hx
      rw [List.length_take] at hi
      rw [List.getElem_take]
      exact List.pairwise_iff_getElem.1 h i k (by omega) hk (by omega)
  have h2 : rkN L[k] (L.drop k) = 0 := rkN_none (fun x hx => by
    obtain ⟨i, hi, rfl⟩ := List.getElem_of_mem hx
    rw [List.length_drop] at hi
    rw [List.getElem_drop]
    rcases Nat.eq_zero_or_pos i with rfl | hp
    · simp
    · have := List.pairwise_iff_getElem.1 h k (k + i) hk (by omega) (by omega)
      omega)
  obtain ⟨x, hx⟩ : ∃ x, x = L[k] := ⟨_, rfl⟩
  rw [← hx] at h1 h2 ⊢
  rw [e, rkN_app]
  omega
end Go.Proofs.Ytacgomhegjilgaa
