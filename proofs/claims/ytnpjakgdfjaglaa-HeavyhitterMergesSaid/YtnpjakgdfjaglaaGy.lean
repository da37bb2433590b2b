/- The law's put: plain facts. -/
import Derived.Test.YtnpjakgdfjaglaaGx
namespace Go.Proofs.Ytnpjakgdfjaglaa
open Go

theorem pt_skip {L : List Ct} {k : ByteArray} (v : Int) (j : Nat) (hj : j ≤ L.length) (h : ∀ i (hi : i < L.length), i < j → bl L[i].1 k = true) : pt L k v = L.take j ++ pt (L.drop j) k v := by
  induction j generalizing L with
  | zero => rfl
  | succ j ih =>
    cases L with
    | nil => simp at hj
    | cons p L =>
      have h0 : bl p.1 k = true := h 0 (by simp) (by omega)
      rw [pt, if_neg (bl_not h0), if_pos h0, List.take_succ_cons, List.drop_succ_cons, List.cons_append]
      rw [ih (by simpa using hj) fun i hi hj => h (i + 1) (by simpa using hi) (by omega)]
theorem gt_above {L : List Ct} {k : ByteArray} (hS : Sd L) (h : ∀ (h0 : 0 < L.length), bl k L[0].1 = true) : gt L k = 0 := by
  refine gt_none fun e => ?_
  cases L with
  | nil => simp [hs] at e
  | cons p L =>
    have h0 := h (by simp)
    have h0 : bl k p.1 = true := h0
    obtain ⟨h1, _⟩ := List.pairwise_cons.1 hS
    rcases (hs_cons _ _ _).1 e with e | e
    · exact bl_not h0 e
    · obtain ⟨q, hq, eq⟩ := List.mem_map.1 e
      have := bl_trans h0 (h1 q hq)
      rw [eq, bl_irrefl] at this; cases this
/-- A new key. -/
theorem put_new {L : List Ct} {k : ByteArray} (hS : Sd L) (n : Int) (j : Nat) (hj : j ≤ L.length) (h : ∀ i (hi : i < L.length), i < j → bl L[i].1 k = true) (h2 : ∀ (hl : j < L.length), bl k L[j].1 = true) : adC L k n = L.take j ++ (k, n) :: L.drop j := by
  have hg : gt L k = 0 := by
    rw [gt_skip j fun i hi hij => bl_not (h i hi hij)]
    refine gt_above (hS.sublist (List.drop_sublist _ _)) fun h0 => ?_
    rw [List.length_drop] at h0
    rw [List.getElem_drop]; exact h2 (by omega)
  rw [adC, hg, Int.zero_add, pt_skip n j hj h]
  congr 1
  by_cases hl : j < L.length
  · have e := h2 hl
    rw [List.drop_eq_getElem_cons hl, pt, if_neg (fun x => bl_not e x.symm), if_neg (by rw [bl_asymm e]; decide)]
  · rw [List.drop_eq_nil_of_le (by omega)]; rfl
/-- A key that is there. -/
theorem put_old {L : List Ct} {k : ByteArray} (n : Int) (j : Nat) (hj : j < L.length) (h : ∀ i (hi : i < L.length), i < j → bl L[i].1 k = true) (e : L[j].1 = k) : adC L k n = L.take j ++ (k, L[j].2 + n) :: L.drop (j + 1) := by
  rw [adC, gt_first j hj (fun i hi hij => bl_not (h i hi hij)) e, pt_skip _ j (by omega) h, List.drop_eq_getElem_cons hj, pt, if_pos e]
end Go.Proofs.Ytnpjakgdfjaglaa
