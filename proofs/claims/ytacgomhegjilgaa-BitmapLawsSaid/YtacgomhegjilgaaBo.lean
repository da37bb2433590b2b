/- isRow, slices.ContainsFunc over the rows. -/
import Derived.Test.YtacgomhegjilgaaBg
namespace Go.Proofs.Ytacgomhegjilgaa
open Go.ChangeShapes Go.WideShapes Go.ChangeAt Go.RowKit Ts

def isR (n : Int) : Bool := decide (0 ≤ n) && decide (n < 1048576)
set_option maxRecDepth 100000 in
theorem isRow_any (n : Int) (w : World) : Calls Try.prog 51 #[.int .i64 n] w fun e w' => e = .returned (.bool (isR n)) ∧ w' = w := by
  unfold isR
  by_cases h : 0 ≤ n
  · rw [decide_eq_true h, Bool.true_and]
    go_enter Try.func51, Try.ntmps51
    go_wp2_with fail
    go_ret
    exact ⟨rfl, rfl⟩
  · rw [decide_eq_false h, Bool.false_and]
    have h' : n < 0 := by omega
    go_enter Try.func51, Try.ntmps51
    go_wp2_with fail
    go_ret
    exact ⟨rfl, rfl⟩
set_option maxRecDepth 100000 in
theorem of_cl (n : Int) (w : World) : Calls Try.prog 50 #[.int .i64 n] w fun e w' => e = .returned (.bool (!isR n)) ∧ w' = w := by
  have H := Lib.hid (isRow_any n w)
  go_enter Try.func50, Try.ntmps50
  go_wp2_with fail
  refine H.out.mono ?_
  rintro e w1 ⟨rfl, rfl⟩
  go_wp2_with fail
  go_ret
  exact ⟨rfl, rfl⟩
set_option maxRecDepth 100000 in
theorem index_any (A : Option Addr) (c : Nat) (L : List Int) (hl : L.length ≤ 1000000) (w : World) (hR : Rs w w.heap.size A (nC L)) :
    Calls Try.prog 75 #[.slice A L.length c, .func (.func 50) #[] #[]] w fun e w' => (∃ k : Int, e = .returned (.int .i64 k) ∧ (decide (0 ≤ k) = L.any (fun x => !isR x))) ∧ w' = w := by
  have HR := Lib.hid hR
  have HC := Lib.hid (fun n W => of_cl n W)
  clear hR
  go_enter Try.func75, Try.ntmps75
  go_wp2_with fail
  go_loopw [8] (fun iv wr => ∃ j : Nat, j ≤ L.length ∧ iv = .int .i64 (j : Int) ∧ Hid (∀ q (h : q < L.length), q < j → isR L[q] = true) ∧ wr = w) (fun iv _ => L.length - (intOf iv).toNat)
  case atStart => exact ⟨0, Nat.zero_le _, rfl, Lib.hid (fun q _ hq => absurd hq (by omega)), rfl⟩
  case round =>
    obtain ⟨j, hj, rfl, hall, rfl⟩ := hrel
    by_cases hlt : j < L.length
    · obtain ⟨g, off, rfl, hg, d0⟩ := num_at HR.out j hlt
      obtain ⟨x, hx⟩ : ∃ x, x = L[j] := ⟨_, rfl⟩
      rw [← hx] at d0
      have HX := Lib.hid hx
      clear hx
      have hjl : (j : Int) < (L.length : Int) := by omega
      have hj0 : (0 : Int) ≤ (j : Int) := by omega
      have hw1 : IntKind.i64.wrap ((j : Int) + 1) = (j : Int) + 1 := by simp only [IntKind.wrap_i64]; omega
      have H1 := HC.out x wr
      cases hr : isR x with
      | true =>
        rw [hr] at H1
        have HH := Lib.hid H1
        clear H1
        go_wp2_with fail
        go_at_call 50
        refine HH.out.mono ?_
        rintro e w1 ⟨rfl, hw⟩
        have hw2 := hw.symm
        subst hw2
        clear hw HH
        go_wp2_with fail
        go_roundw
        case rel =>
          refine ⟨j + 1, by omega, by go_num, Lib.hid (fun q hq hqj => ?_), trivial⟩
          by_cases e : q = j
          · subst e; rw [← HX.out]; exact hr
          · exact hall.out q hq (by omega)
        case measure => simp [intOf]; omega
      | false =>
        rw [hr] at H1
        have HH := Lib.hid H1
        clear H1
        have hany : L.any (fun x => !isR x) = true := List.any_eq_true.2 ⟨L[j], List.getElem_mem hlt, by rw [← HX.out, hr]; rfl⟩
        have HA := Lib.hid hany
        clear hany
        go_wp2_with fail
        go_at_call 50
        refine HH.out.mono ?_
        rintro e w1 ⟨rfl, hw⟩
        have hw2 := hw.symm
        subst hw2
        clear hw HH
        go_wp2_with fail
        go_ret
        exact ⟨⟨_, rfl, by rw [HA.out]; exact decide_eq_true hj0⟩, rfl⟩
    · obtain rfl : j = L.length := by omega
      have hany : L.any (fun x => !isR x) = false := List.any_eq_false.2 (fun x hx => by
        obtain ⟨q, hq, rfl⟩ := List.getElem_of_mem hx
        rw [hall.out q hq hq]; simp)
      have HA := Lib.hid hany
      clear hany
      go_wp2_with fail
      go_ret
      exact ⟨⟨_, rfl, by rw [HA.out]; rfl⟩, rfl⟩
set_option maxRecDepth 100000 in
theorem contains_any (A : Option Addr) (c : Nat) (L : List Int) (hl : L.length ≤ 1000000) (w : World) (hR : Rs w w.heap.size A (nC L)) :
    Calls Try.prog 49 #[.slice A L.length c, .func (.func 50) #[] #[]] w fun e w' => e = .returned (.bool (L.any (fun x => !isR x))) ∧ w' = w := by
  have H := Lib.hid (index_any A c L hl w hR)
  obtain ⟨b, hb⟩ : ∃ b, b = L.any (fun x => !isR x) := ⟨_, rfl⟩
  rw [← hb] at H ⊢
  clear hR hb
  go_enter Try.func49, Try.ntmps49
  go_wp2_with fail
  refine H.out.mono ?_
  rintro e w1 ⟨⟨k, rfl, hk⟩, rfl⟩
  go_wp2_with fail
  go_ret
  exact ⟨by rw [← hk]; rfl, rfl⟩
end Go.Proofs.Ytacgomhegjilgaa
