/- The forms of the first three kinds. -/
import Derived.Test.YtomjgkflnfjjbaaKi
namespace Go.Proofs.Ytomjgkflnfjjbaa
open Go.ChangeShapes Go.WideShapes Go.ChangeAt Go.RowKit En

theorem getD_bd {L : List Int} {a b : Int} (h : ∀ x ∈ L, a ≤ x ∧ x ≤ b) (h0 : a ≤ 0 ∧ 0 ≤ b) (j : Nat) : a ≤ L.getD j 0 ∧ L.getD j 0 ≤ b := by
  by_cases hj : j < L.length
  · have e : L.getD j 0 = L[j] := by simp [List.getD, List.getElem?_eq_getElem hj]
    rw [e]; exact h _ (List.getElem_mem hj)
  · have e : L.getD j 0 = 0 := by simp [List.getD, List.getElem?_eq_none (Nat.le_of_not_lt hj)]
    rw [e]; exact h0
theorem prL_pos (n : Nat) (hn : n ≤ 4096) (L : List Int) (hL : ∀ x ∈ L, -9223372036854775808 ≤ x ∧ x ≤ 9223372036854775807) (k : Int) (hk : 1 ≤ k ∧ k ≤ 4) (j : Nat) : ∀ f ∈ prL n L [num k] j, 0 < f.length := by
  induction j with
  | zero =>
    intro f hf
    have h1 := (num_bounds (n : Int) (by omega) (by omega)).1
    have h2 := (num_bounds k (by omega) (by omega)).1
    rcases List.mem_cons.1 hf with rfl | hf
    · omega
    · obtain rfl := List.mem_singleton.1 hf; omega
  | succ j ih =>
    intro f hf
    have hb := getD_bd hL (by omega) j
    rcases List.mem_cons.1 hf with rfl | hf
    · have := (num_bounds (L.getD j 0) hb.1 hb.2).1; omega
    · exact ih f hf
theorem num_small (k : Int) (hk : 1 ≤ k ∧ k ≤ 4) : total [num k] ≤ 9 := by
  have := (num_bounds k (by omega) (by omega)).2
  rw [total_cons]
  show _ + total [] ≤ 9
  have h0 : total [] = 0 := rfl
  omega
theorem wide {L : List Int} (h : Vs L) : ∀ x ∈ L, -9223372036854775808 ≤ x ∧ x ≤ 9223372036854775807 := fun x hx => by have := h x hx; omega
theorem form_plain (A : Option Addr) (c : Nat) (L : List Int) (hl : L.length ≤ 4096) (hL : Vs L) (w : World) (hR : Rd (Value.int .i64) w A L) :
    Calls Try.prog 29 #[.agg (layV 1), .slice A L.length c] w fun e w' => e = .returned (.string ⟨(whole (prL L.length L [num 1] L.length)).toArray⟩) ∧ Below w.heap.size w w' := by
  have ht := num_small 1 (by omega)
  have h2 := prL_total L.length hl L (wide hL) [num 1] L.length
  exact form_any 56 57 1 (by omega) _ (prL_pos L.length hl L (wide hL) 1 (by omega) L.length) (by omega) A L.length c w
    (fun g W hg hB hW => write_plain w g hg [num 1] A c L hl hL (by omega) W hB hW hR) (enters_of Try.func56 (by kernel_rfl) rfl)
theorem form_delta (A : Option Addr) (c : Nat) (L : List Int) (hl : L.length ≤ 4096) (hL : Vs L) (w : World) (hR : Rd (Value.int .i64) w A L) :
    Calls Try.prog 29 #[.agg (layV 2), .slice A L.length c] w fun e w' => e = .returned (.string ⟨(whole (prL L.length (dlL 0 L) [num 2] L.length)).toArray⟩) ∧ Below w.heap.size w w' := by
  have ht := num_small 2 (by omega)
  have h2 := prL_total L.length hl (dlL 0 L) (dlL_bd hL) [num 2] L.length
  exact form_any 58 59 2 (by omega) _ (prL_pos L.length hl (dlL 0 L) (dlL_bd hL) 2 (by omega) L.length) (by omega) A L.length c w
    (fun g W hg hB hW => write_delta w g hg [num 2] A c L hl hL (by omega) W hB hW hR) (enters_of Try.func58 (by kernel_rfl) rfl)
theorem prR_pos (R : List Iv) (hn : R.length ≤ 4096) (hR : ∀ y ∈ R, -1152921504606846976 ≤ y.1 ∧ y.1 ≤ 1152921504606846976 ∧ 1 ≤ y.2 ∧ y.2 ≤ (4096 : Int)) (k : Int) (hk : 1 ≤ k ∧ k ≤ 4) (j : Nat) : ∀ f ∈ prR R [num k] j, 0 < f.length := by
  induction j with
  | zero =>
    intro f hf
    have h1 := (num_bounds (R.length : Int) (by omega) (by omega)).1
    have h2 := (num_bounds k (by omega) (by omega)).1
    rcases List.mem_cons.1 hf with rfl | hf
    · omega
    · obtain rfl := List.mem_singleton.1 hf; omega
  | succ j ih =>
    intro f hf
    have hb : -1152921504606846976 ≤ (R.getD j (0, 0)).1 ∧ (R.getD j (0, 0)).1 ≤ 1152921504606846976 ∧ 0 ≤ (R.getD j (0, 0)).2 ∧ (R.getD j (0, 0)).2 ≤ (4096 : Int) := by
      by_cases hj : j < R.length
      · have e : R.getD j (0, 0) = R[j] := by simp [List.getD, List.getElem?_eq_getElem hj]
        rw [e]
        have := hR _ (List.getElem_mem hj)
        omega
      · have e : R.getD j (0, 0) = (0, 0) := by simp [List.getD, List.getElem?_eq_none (Nat.le_of_not_lt hj)]
        rw [e]; decide
    rcases List.mem_cons.1 hf with rfl | hf
    · have := (num_bounds (R.getD j (0, 0)).2 (by omega) (by omega)).1; omega
    · rcases List.mem_cons.1 hf with rfl | hf
      · have := (num_bounds (R.getD j (0, 0)).1 (by omega) (by omega)).1; omega
      · exact ih f hf
theorem form_runs (A : Option Addr) (c : Nat) (L : List Int) (hl : L.length ≤ 4096) (hL : Vs L) (w : World) (hR : Rd (Value.int .i64) w A L) :
    Calls Try.prog 29 #[.agg (layV 3), .slice A L.length c] w fun e w' => e = .returned (.string ⟨(whole (prR (rlF L L.length) [num 3] (rlF L L.length).length)).toArray⟩) ∧ Below w.heap.size w w' := by
  have ht := num_small 3 (by omega)
  have hln := rlF_len L L.length
  have hbd : ∀ y ∈ rlF L L.length, -1152921504606846976 ≤ y.1 ∧ y.1 ≤ 1152921504606846976 ∧ 1 ≤ y.2 ∧ y.2 ≤ (4096 : Int) := fun y hy => by
    have := rlF_bd hL L.length y hy; omega
  have h2 := prR_total (rlF L L.length) (by omega) hbd [num 3] (rlF L L.length).length
  exact form_any 60 61 3 (by omega) _ (prR_pos (rlF L L.length) (by omega) hbd 3 (by omega) _) (by omega) A L.length c w
    (fun g W hg hB hW => write_runs w g hg [num 3] A c L hl hL (by omega) W hB hW hR) (enters_of Try.func60 (by kernel_rfl) rfl)
end Go.Proofs.Ytomjgkflnfjjbaa
