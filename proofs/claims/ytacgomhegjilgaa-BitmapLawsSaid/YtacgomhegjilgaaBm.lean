/- The closures of And, Or and AndNot; stretch, skip. -/
import Derived.Test.YtacgomhegjilgaaBl
namespace Go.Proofs.Ytacgomhegjilgaa
open Go.ChangeShapes Go.WideShapes Go.ChangeAt Go.RowKit Ts

set_option maxRecDepth 100000 in
theorem and_cl (p q : Bool) (w : World) : Calls Try.prog 61 #[.bool p, .bool q] w fun e w' => e = .returned (.bool (p && q)) ∧ w' = w := by
  cases p <;> cases q <;>
  · go_enter Try.func61, Try.ntmps61
    go_wp2_with fail
    go_ret
    exact ⟨rfl, rfl⟩
set_option maxRecDepth 100000 in
theorem or_cl (p q : Bool) (w : World) : Calls Try.prog 62 #[.bool p, .bool q] w fun e w' => e = .returned (.bool (p || q)) ∧ w' = w := by
  cases p <;> cases q <;>
  · go_enter Try.func62, Try.ntmps62
    go_wp2_with fail
    go_ret
    exact ⟨rfl, rfl⟩
set_option maxRecDepth 100000 in
theorem but_cl (p q : Bool) (w : World) : Calls Try.prog 63 #[.bool p, .bool q] w fun e w' => e = .returned (.bool (p && !q)) ∧ w' = w := by
  cases p <;> cases q <;>
  · go_enter Try.func63, Try.ntmps63
    go_wp2_with fail
    go_ret
    exact ⟨rfl, rfl⟩
/-- What stretch returns. -/
def stc (row : Int) : List Iv → Bool × Int
  | [] => (false, 1048576)
  | x :: _ => if row < x.1 then (false, x.1) else (true, x.2 + 1)
def skp (row : Int) : List Iv → List Iv
  | [] => []
  | x :: T => if x.2 < row then T else x :: T
set_option maxRecDepth 100000 in
set_option maxHeartbeats 1000000 in
theorem stretch_any {v : Value} {L : List Iv} (hb : Rc L) (row : Int) (w : World) (hv : Sl w v L) :
    Calls Try.prog 80 #[v, .int .i64 row] w fun e w' => e = .returned (.tuple #[.bool (stc row L).1, .int .i64 (stc row L).2]) ∧ Below w.heap.size w w' := by
  obtain ⟨A, c, rfl, hc1, hc2, hA, hR⟩ := hv
  cases L with
  | nil =>
    clear hR hA hb
    go_enter Try.func80, Try.ntmps80
    go_wp2_with fail
    go_ret2
    exact ⟨rfl, Below.refl _ _⟩
  | cons x T =>
    have hbx := hb x (List.mem_cons_self ..)
    obtain ⟨b, off, rfl, hbb, h0, h1⟩ := iv_at hR 0 (by simp)
    simp only [List.getElem_cons_zero, Nat.zero_mul, Nat.add_zero] at h0 h1
    obtain ⟨x1, x2⟩ := x
    dsimp only at h0 h1 hbx
    have hw : IntKind.i64.wrap (x2 + 1) = x2 + 1 := by simp only [IntKind.wrap_i64]; omega
    have hl0 : ¬ ((((x1, x2) :: T).length : Nat) : Int) = 0 := by rw [List.length_cons]; omega
    have hl1 : (0 : Int) < (((x1, x2) :: T).length : Nat) := by simp
    obtain ⟨n, hn⟩ : ∃ n, n = ((x1, x2) :: T).length := ⟨_, rfl⟩
    rw [← hn] at hl0 hl1 hc1 ⊢
    clear hn hR hA hb
    by_cases hlt : row < x1
    · have hs : stc row ((x1, x2) :: T) = (false, x1) := if_pos hlt
      rw [hs]
      go_enter Try.func80, Try.ntmps80
      go_wp2_with fail
      go_region
      all_goals
        go_wp2_with fail
        go_ret2
        exact ⟨rfl, Below.drew (Below.refl _ _)⟩
    · have hs : stc row ((x1, x2) :: T) = (true, x2 + 1) := if_neg hlt
      rw [hs]
      go_enter Try.func80, Try.ntmps80
      go_wp2_with fail
      go_region
      all_goals
        go_wp2_with fail
        go_ret2
        exact ⟨rfl, Below.drew (Below.refl _ _)⟩
set_option maxRecDepth 100000 in
set_option maxHeartbeats 1000000 in
theorem skip_any {v : Value} {L : List Iv} (hl : L.length ≤ 90000) (row : Int) (w0 w : World) (hW : Below w0.heap.size w0 w) (hv : Sl w0 v L) :
    Calls Try.prog 81 #[v, .int .i64 row] w fun e w' => (∃ r, e = .returned r ∧ Sl w0 r (skp row L)) ∧ w' = w := by
  have hv' := hv
  obtain ⟨A, c, rfl, hc1, hc2, hA, hR⟩ := hv
  cases L with
  | nil =>
    have HS : Hid (Sl w0 (.slice A 0 c) []) := Lib.hid hv'
    clear hR hA hv'
    go_enter Try.func81, Try.ntmps81
    go_wp2_with fail
    go_ret
    exact ⟨⟨_, rfl, HS.out⟩, rfl⟩
  | cons x T =>
    obtain ⟨b, off, rfl, hbb, h0, h1⟩ := iv_at (hR.below hW) 0 (by simp)
    simp only [List.getElem_cons_zero, Nat.zero_mul, Nat.add_zero] at h0 h1
    obtain ⟨x1, x2⟩ := x
    dsimp only at h0 h1
    have hl1 : (0 : Int) < (((x1, x2) :: T).length : Nat) := by simp
    have hT : T.length = ((x1, x2) :: T).length - 1 := by simp
    have HT : Hid (Sl w0 (.slice (some ⟨b, off + 2, none⟩) T.length (c - 1)) T) := Lib.hid ⟨_, _, rfl, by rw [List.length_cons] at hc1; omega, by omega, (fun e => by cases e), fun j hj => by
      have hj2 : j + 2 < (ivCells ((x1, x2) :: T)).length := by rw [iv_cells_len] at hj ⊢; rw [List.length_cons]; omega
      obtain ⟨b', off', e1, e2, e3⟩ := hR (j + 2) hj2
      cases e1
      refine ⟨b, off + 2, rfl, e2, ?_⟩
      rw [show off + 2 + j = off + (j + 2) by omega, e3]
      rfl⟩
    have HS := Lib.hid hv'
    obtain ⟨n, hn⟩ : ∃ n, n = ((x1, x2) :: T).length := ⟨_, rfl⟩
    rw [← hn] at hl1 hc1 hT hl HS ⊢
    have HT0 : Hid (c = 1 → Sl w0 (.slice (some ⟨b, off, none⟩) (n - 1) 0) T) := Lib.hid (fun hc => by
      have h0 : T.length = 0 := by omega
      obtain rfl : T = [] := List.eq_nil_of_length_eq_zero h0
      exact ⟨some ⟨b, off, none⟩, 0, by rw [← hT], Nat.le_refl _, by omega, (fun e => by cases e), Rs.nil⟩)
    rw [hT] at HT
    have hn1 : (1 : Int) ≤ (n : Int) := by omega
    have hnc : (n : Int) ≤ (c : Int) := by omega
    clear hn hR hA hv'
    by_cases hlt : x2 < row
    · have hs : skp row ((x1, x2) :: T) = T := if_pos hlt
      rw [hs]
      go_enter Try.func81, Try.ntmps81
      go_wp2_with fail
      · go_ret
        exact ⟨⟨_, rfl, HT0.out (by omega)⟩, rfl⟩
      · go_ret
        exact ⟨⟨_, rfl, HT.out⟩, rfl⟩
    · have hs : skp row ((x1, x2) :: T) = (x1, x2) :: T := if_neg hlt
      rw [hs]
      go_enter Try.func81, Try.ntmps81
      go_wp2_with fail
      go_ret
      exact ⟨⟨_, rfl, HS.out⟩, rfl⟩
end Go.Proofs.Ytacgomhegjilgaa
