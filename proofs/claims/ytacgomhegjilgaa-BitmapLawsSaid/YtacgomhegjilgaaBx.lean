/- find: by sort.Search. -/
import Derived.Test.YtacgomhegjilgaaBr
import Derived.Test.YtacgomhegjilgaaSea
namespace Go.Proofs.Ytacgomhegjilgaa
open Go.ChangeShapes Go.WideShapes Go.ChangeAt Go.RowKit Ts Go.Sort

theorem below_grow (w : World) (n : Nat) (os : Array Obj) : Below w.heap.size w (grow (w.drewN n) os) :=
  ⟨rfl, rfl, rfl, by show w.heap.size ≤ (w.heap ++ os).size; rw [Array.size_append]; omega, fun i hi => by
    show (w.heap ++ os)[i]? = _
    rw [Array.getElem?_append_left hi]⟩
/-- How many runs end before a row. -/
def fnd (n : Int) (R : List Iv) : Nat := (R.takeWhile (fun x => decide (x.2 < n))).length
theorem fnd_le (n : Int) (R : List Iv) : fnd n R ≤ R.length := (List.takeWhile_prefix _).length_le
/-- Runs in increasing order of their ends. -/
def Asc (R : List Iv) : Prop := R.Pairwise (fun x y => x.2 < y.2)
theorem fnd_at {n : Int} {R : List Iv} (h : Asc R) (k : Nat) (hk : k < R.length) : R[k].2 < n ↔ k < fnd n R := by
  induction R generalizing k with
  | nil => exact absurd hk (by simp)
  | cons x R ih =>
    obtain ⟨h1, h2⟩ := List.pairwise_cons.1 h
    unfold fnd
    rw [List.takeWhile_cons]
    by_cases hx : x.2 < n
    · rw [if_pos (by simpa using hx)]
      cases k with
      | zero => simp [hx]
      | succ k =>
        have := ih h2 k (by simpa using hk)
        simpa [fnd] using this
    · rw [if_neg (by simpa using hx)]
      have : ¬ ((x :: R)[k].2 < n) := by
        cases k with
        | zero => exact hx
        | succ k =>
          have := h1 _ (List.getElem_mem (show k < R.length by simpa using hk))
          simp only [List.getElem_cons_succ]
          omega
      simp [this]
theorem countP_lt (f : Nat → Bool) (n m : Nat) (hm : m ≤ n) (h : ∀ i, i < n → f i = decide (i < m)) : (List.range n).countP f = m := by
  have e : (List.range n).countP f = (List.range n).countP (fun i => decide (i < m)) := List.countP_congr (fun i hi => by rw [h i (by simpa using hi)])
  rw [e]
  clear e h
  induction n with
  | zero => simp; omega
  | succ n ih =>
    rw [List.range_succ, List.countP_append]
    by_cases hc : m ≤ n
    · rw [ih hc]; simp; omega
    · obtain rfl : m = n + 1 := by omega
      have : (List.range n).countP (fun i => decide (i < n + 1)) = n := by
        rw [List.countP_eq_length.2 (fun i hi => by simp at hi ⊢; omega)]; simp
      rw [this]; simp
set_option maxHeartbeats 400000 in
theorem find1_any (a b : Nat) (A : Option Addr) (cap : Nat) (L : List Iv) (n : Int) (k : Nat) (hk : k < L.length) (_hL : L.length ≤ 1000000) (w : World) (h1 : w.cell? ⟨a, 0, none⟩ = some (.slice A L.length cap)) (h2 : w.cell? ⟨b, 0, none⟩ = some (.int .i64 n)) (hR : Rs w w.heap.size A (ivCells L)) :
    Calls Try.prog 79 #[.int .i64 k, .pointer (some ⟨a, 0, none⟩), .pointer (some ⟨b, 0, none⟩)] w fun e w' => e = .returned (.bool (!decide (L[k].2 < n))) ∧ ∃ q, w' = w.drewN q := by
  obtain ⟨g, off, rfl, hb, hc0, hc1⟩ := iv_at hR k hk
  obtain ⟨x, hx⟩ : ∃ x, x = L[k] := ⟨_, rfl⟩
  rw [← hx] at hc0 hc1 ⊢
  clear hx hR
  obtain ⟨x1, x2⟩ := x
  dsimp only at hc0 hc1 ⊢
  have hE : (!decide (x2 < n)) = decide (n ≤ x2) := by
    by_cases h : x2 < n
    · rw [decide_eq_true h, decide_eq_false (by omega)]; rfl
    · rw [decide_eq_false h, decide_eq_true (by omega)]; rfl
  rw [hE]
  clear hE
  go_enter Try.func79, Try.ntmps79
  go_wp2_with fail
  go_quiet (fail)
  (refine (by assumption : ∀ _ _, _ → _) _ _ ?_)
  go_wp2_with fail
  go_ret
  exact ⟨rfl, _, rfl⟩
set_option maxHeartbeats 400000 in
theorem find_any {v : Value} {L : List Iv} (hL : L.length ≤ 90000) (hS : Asc L) (n : Int) (w : World) (hv : Sl w v L) :
    Calls Try.prog 59 #[.agg #[v], .int .i64 n] w fun e w' => e = .returned (.int .i64 (fnd n L : Nat)) ∧ Below w.heap.size w w' := by
  obtain ⟨A, cap, rfl, _, _, hA, hR⟩ := hv
  have HS := Lib.hid hS
  have HR := Lib.hid hR
  clear hS hR hA
  have hp : ∀ W : World, W = (w.alloc (.cells #[.slice A L.length cap] 26)).alloc (.cells #[.int .i64 n] 3) → Calls Try.prog 78 #[.int .i64 (L.length : Nat), .func (.func 79) #[] #[.pointer (some ⟨w.heap.size, 0, none⟩), .pointer (some ⟨w.heap.size + 1, 0, none⟩)]] W fun e w' => e = .returned (.int .i64 (fnd n L : Nat)) ∧ Below W.heap.size W w' := by
    intro W hW
    have hc1 : W.cell? ⟨w.heap.size, 0, none⟩ = some (.slice A L.length cap) := by rw [hW]; simp [go_sem]
    have hc2 : W.cell? ⟨w.heap.size + 1, 0, none⟩ = some (.int .i64 n) := by rw [hW]; simp [go_sem]
    have hl1 : w.heap.size < W.heap.size := by rw [hW]; simp; omega
    have hl2 : w.heap.size + 1 < W.heap.size := by rw [hW]; simp
    have hBW : Below w.heap.size w W := by rw [hW]; exact ((Below.refl _ _).alloc (Nat.le_refl _) _).alloc (by simp) _
    have hRW : Rs W W.heap.size A (ivCells L) := (HR.out.below hBW).more hBW.size
    have hcnt : (List.range L.length).countP (fun i => !(!decide ((L.getD i (0, 0)).2 < n))) = fnd n L := countP_lt _ _ _ (fnd_le n L) (fun i hi => by
      rw [Bool.not_not]
      have := fnd_at (n := n) HS.out i hi
      rw [show L.getD i (0, 0) = L[i] by simp [List.getD, List.getElem?_eq_getElem hi]]
      exact decide_eq_decide.2 this)
    have h := Any.sort_Search Try.search 79 #[.pointer (some ⟨w.heap.size, 0, none⟩), .pointer (some ⟨w.heap.size + 1, 0, none⟩)] L.length (fun i => !decide ((L.getD i (0, 0)).2 < n)) W (enters_of Try.func79 (by kernel_rfl) rfl) (by omega)
      (fun m os i hi => by
        have hB := below_grow W m os
        have hh := find1_any w.heap.size (w.heap.size + 1) A cap L n i hi (by omega) (grow (W.drewN m) os) ((hB.cell (p := ⟨w.heap.size, 0, none⟩) hl1).trans hc1) ((hB.cell (p := ⟨w.heap.size + 1, 0, none⟩) hl2).trans hc2) ((hRW.below hB).more hB.size)
        refine hh.mono ?_
        rintro e w' ⟨rfl, q, rfl⟩
        refine ⟨by simp [List.getD, List.getElem?_eq_getElem hi], q, #[], by rw [grow_empty]⟩)
      (fun x y hxy hy h => by
        have hx : x < L.length := by omega
        simp only [List.getD, List.getElem?_eq_getElem hx, List.getElem?_eq_getElem hy, Option.getD_some] at h ⊢
        have e1 := fnd_at (n := n) HS.out x hx
        have e2 := fnd_at (n := n) HS.out y hy
        simp only [Bool.not_eq_true', decide_eq_false_iff_not] at h ⊢
        rw [e1] at h
        rw [e2]
        omega)
    rw [hcnt] at h
    refine h.mono ?_
    rintro e w' ⟨rfl, q, os, rfl⟩
    exact ⟨rfl, below_grow W q os⟩
  have HP := Lib.hid hp
  clear hp
  go_enter Try.func59, Try.ntmps59
  go_wp2_with fail
  refine (HP.out _ rfl).mono ?_
  rintro e w1 ⟨rfl, hB⟩
  have HB := Lib.hid (Below.trans (((Below.refl w.heap.size w).alloc (Nat.le_refl _) (.cells #[.slice A L.length cap] 26)).alloc (by simp) (.cells #[.int .i64 n] 3)) (hB.mono (by simp; omega)))
  clear hB
  go_wp2_with fail
  go_ret
  exact ⟨rfl, HB.out⟩
end Go.Proofs.Ytacgomhegjilgaa
