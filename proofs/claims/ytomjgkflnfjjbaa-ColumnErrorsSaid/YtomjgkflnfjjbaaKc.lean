/- check: whether a column can hold some values. -/
import Derived.Test.YtomjgkflnfjjbaaKb
namespace Go.Proofs.Ytomjgkflnfjjbaa
open Go.ChangeShapes Go.WideShapes Go.ChangeAt Go.RowKit En

def inV (n : Int) : Bool := decide (-1152921504606846976 ≤ n) && decide (n ≤ 1152921504606846976)
set_option maxRecDepth 100000 in
theorem ck_cl (n : Int) (w : World) : Calls Try.prog 45 #[.int .i64 n] w fun e w' => e = .returned (.bool (!inV n)) ∧ w' = w := by
  unfold inV
  by_cases h : -1152921504606846976 ≤ n
  · rw [decide_eq_true h, Bool.true_and]
    by_cases h2 : n ≤ 1152921504606846976
    · rw [decide_eq_true h2]
      have h' : ¬ n < -1152921504606846976 := by omega
      have h2' : ¬ n > 1152921504606846976 := by omega
      go_enter Try.func45, Try.ntmps45
      go_wp2_with fail
      go_ret
      exact ⟨rfl, rfl⟩
    · rw [decide_eq_false h2]
      have h' : ¬ n < -1152921504606846976 := by omega
      have h2' : n > 1152921504606846976 := by omega
      go_enter Try.func45, Try.ntmps45
      go_wp2_with fail
      go_ret
      exact ⟨rfl, rfl⟩
  · rw [decide_eq_false h, Bool.false_and]
    have h' : n < -1152921504606846976 := by omega
    go_enter Try.func45, Try.ntmps45
    go_wp2_with fail
    go_ret
    exact ⟨rfl, rfl⟩
set_option maxRecDepth 100000 in
theorem index_any (A : Option Addr) (c : Nat) (L : List Int) (hl : L.length ≤ 1000000) (w : World) (hR : Rd (Value.int .i64) w A L) :
    Calls Try.prog 55 #[.slice A L.length c, .func (.func 45) #[] #[]] w fun e w' => (∃ k : Int, e = .returned (.int .i64 k) ∧ (decide (0 ≤ k) = L.any (fun x => !inV x))) ∧ w' = w := by
  have HR := Lib.hid hR
  have HC := Lib.hid (fun n W => ck_cl n W)
  clear hR
  go_enter Try.func55, Try.ntmps55
  go_wp2_with fail
  go_loopw [8] (fun iv wr => ∃ j : Nat, j ≤ L.length ∧ iv = .int .i64 (j : Int) ∧ Hid (∀ q (h : q < L.length), q < j → inV L[q] = true) ∧ wr = w) (fun iv _ => L.length - (intOf iv).toNat)
  case atStart => exact ⟨0, Nat.zero_le _, rfl, Lib.hid (fun q _ hq => absurd hq (by omega)), rfl⟩
  case round =>
    obtain ⟨j, hj, rfl, hall, rfl⟩ := hrel
    by_cases hlt : j < L.length
    · obtain ⟨g, off, rfl, hg, d0⟩ := int_at HR.out j hlt
      obtain ⟨x, hx⟩ : ∃ x, x = L[j] := ⟨_, rfl⟩
      rw [← hx] at d0
      have HX := Lib.hid hx
      clear hx
      have hjl : (j : Int) < (L.length : Int) := by omega
      have hj0 : (0 : Int) ≤ (j : Int) := by omega
      have hw1 : IntKind.i64.wrap ((j : Int) + 1) = (j : Int) + 1 := by simp only [IntKind.wrap_i64]; omega
      have H1 := HC.out x wr
      cases hr : inV x with
      | true =>
        rw [hr] at H1
        have HH := Lib.hid H1
        clear H1
        go_wp2_with fail
        go_at_call 45
        refine HH.out.mono ?_
        rintro e w1 ⟨rfl, hw⟩
        have hw2 := hw.symm
        subst hw2
        clear hw HH
        go_wp2_with fail
        go_roundw
        case rel =>
          refine ⟨j + 1, by omega, by go_num, Lib.hid (fun q hq hqj => ?_), trivial⟩
          by_cases e : q = j
          · subst e; rw [← HX.out]; exact hr
          · exact hall.out q hq (by omega)
        case measure => simp [intOf]; omega
      | false =>
        rw [hr] at H1
        have HH := Lib.hid H1
        clear H1
        have hany : L.any (fun x => !inV x) = true := List.any_eq_true.2 ⟨L[j], List.getElem_mem hlt, by rw [← HX.out, hr]; rfl⟩
        have HA := Lib.hid hany
        clear hany
        go_wp2_with fail
        go_at_call 45
        refine HH.out.mono ?_
        rintro e w1 ⟨rfl, hw⟩
        have hw2 := hw.symm
        subst hw2
        clear hw HH
        go_wp2_with fail
        go_ret
        exact ⟨⟨_, rfl, by rw [HA.out]; exact decide_eq_true hj0⟩, rfl⟩
    · obtain rfl : j = L.length := by omega
      have hany : L.any (fun x => !inV x) = false := List.any_eq_false.2 (fun x hx => by
        obtain ⟨q, hq, rfl⟩ := List.getElem_of_mem hx
        rw [hall.out q hq hq]; simp)
      have HA := Lib.hid hany
      clear hany
      go_wp2_with fail
      go_ret
      exact ⟨⟨_, rfl, by rw [HA.out]; rfl⟩, rfl⟩
set_option maxRecDepth 100000 in
theorem contains_any (A : Option Addr) (c : Nat) (L : List Int) (hl : L.length ≤ 1000000) (w : World) (hR : Rd (Value.int .i64) w A L) :
    Calls Try.prog 44 #[.slice A L.length c, .func (.func 45) #[] #[]] w fun e w' => e = .returned (.bool (L.any (fun x => !inV x))) ∧ w' = w := by
  have H := Lib.hid (index_any A c L hl w hR)
  obtain ⟨b, hb⟩ : ∃ b, b = L.any (fun x => !inV x) := ⟨_, rfl⟩
  rw [← hb] at H ⊢
  clear hR hb
  go_enter Try.func44, Try.ntmps44
  go_wp2_with fail
  refine H.out.mono ?_
  rintro e w1 ⟨⟨k, rfl, hk⟩, rfl⟩
  go_wp2_with fail
  go_ret
  exact ⟨by rw [← hk]; rfl, rfl⟩
/-- What check answers. -/
def chkV (L : List Int) : Int := if 4096 < L.length then 6 else if L.any (fun x => !inV x) = true then 2 else 0
theorem chkV_ok {L : List Int} (h : chkV L = 0) : L.length ≤ 4096 ∧ Vs L := by
  unfold chkV at h
  by_cases h1 : 4096 < L.length
  · rw [if_pos h1] at h; exact absurd h (by decide)
  · rw [if_neg h1] at h
    by_cases h2 : L.any (fun x => !inV x) = true
    · rw [if_pos h2] at h; exact absurd h (by decide)
    · refine ⟨by omega, fun x hx => ?_⟩
      have h3 : inV x = true := by
        cases e : inV x with
        | true => rfl
        | false => exact absurd (List.any_eq_true.2 ⟨x, hx, by rw [e]; rfl⟩) h2
      unfold inV at h3
      rw [Bool.and_eq_true, decide_eq_true_eq, decide_eq_true_eq] at h3
      exact h3
set_option maxRecDepth 100000 in
theorem check_any (A : Option Addr) (c : Nat) (L : List Int) (hl : L.length ≤ 1000000) (w : World) (hR : Rd (Value.int .i64) w A L) :
    Calls Try.prog 26 #[.slice A L.length c] w fun e w' => e = .returned (.int .i64 (chkV L)) ∧ w' = w := by
  have H := Lib.hid (contains_any A c L hl w hR)
  clear hR
  unfold chkV
  obtain ⟨b, hb⟩ : ∃ b, b = L.any (fun x => !inV x) := ⟨_, rfl⟩
  rw [← hb] at H ⊢
  clear hb
  by_cases h1 : 4096 < L.length
  · rw [if_pos h1]
    have h2 : (L.length : Int) > 4096 := by omega
    go_enter Try.func26, Try.ntmps26
    go_wp2_with fail
    go_ret
    exact ⟨rfl, rfl⟩
  · rw [if_neg h1]
    have h2 : ¬ (L.length : Int) > 4096 := by omega
    go_enter Try.func26, Try.ntmps26
    go_wp2_with fail
    refine H.out.mono ?_
    rintro e w1 ⟨rfl, rfl⟩
    clear H
    cases b with
    | true =>
      go_wp2_with fail
      go_ret
      exact ⟨rfl, rfl⟩
    | false =>
      go_wp2_with fail
      go_ret
      exact ⟨rfl, rfl⟩
end Go.Proofs.Ytomjgkflnfjjbaa
