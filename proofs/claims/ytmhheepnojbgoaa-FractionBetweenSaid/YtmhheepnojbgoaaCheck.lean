/- What the two Check functions, is and Neg return. -/
import Derived.Test.YtmhheepnojbgoaaMake
namespace Go.Proofs.Ytmhheepnojbgoaa
open Go.ChangeShapes Go.WideShapes Go.ChangeAt Go.RowKit Pl

theorem bcell {W w1 : World} (hb : Below W.heap.size W w1) : (∀ b o, b < W.heap.size → w1.cell? ⟨b, o, none⟩ = W.cell? ⟨b, o, none⟩) ∧ (∀ b o, b < W.heap.size → w1.frozen? ⟨b, o, none⟩ = W.frozen? ⟨b, o, none⟩) :=
  ⟨fun b o h => hb.cell (p := ⟨b, o, none⟩) h, fun b o h => hb.frozen (p := ⟨b, o, none⟩) h⟩

theorem canon_false {n d : Int} (h : ¬ (1 ≤ d ∧ d ≤ 1048576 ∧ -1048576 ≤ n ∧ n ≤ 1048576)) : canonB n d = false := by
  unfold canonB; rw [decide_eq_false_iff_not]; rintro ⟨a, b, c, e, -⟩; exact h ⟨a, b, c, e⟩
theorem canon_gcd {n d : Int} (h : 1 ≤ d ∧ d ≤ 1048576 ∧ -1048576 ≤ n ∧ n ≤ 1048576) : canonB n d = (((Nat.gcd n.natAbs d.natAbs : Nat) : Int) == 1) := by
  obtain ⟨a, b, c, e⟩ := h
  rw [Bool.eq_iff_iff]; unfold canonB canon; simp [a, b, c, e]; omega

set_option maxHeartbeats 1000000 in
theorem rcheck_any (n d : Int) (h1 : -9223372036854775808 ≤ n) (h2 : n ≤ 9223372036854775807) (h3 : -9223372036854775808 ≤ d) (h4 : d ≤ 9223372036854775807) (w : World) :
    Calls Try.prog 12 #[.agg #[.int .i64 n, .int .i64 d]] w fun e w' => e = .returned (.bool (canonB n d)) ∧ Below w.heap.size w w' := by
  by_cases c1 : 1 ≤ d
  · by_cases c2 : d ≤ 1048576
    · by_cases c3 : -1048576 ≤ n
      · by_cases c4 : n ≤ 1048576
        · rw [canon_gcd ⟨c1, c2, c3, c4⟩]
          go_enter Try.func12, Try.ntmps12
          go_wp2_with fail
          go_quiet ((first | (go_at_call 47; exact Calls.quiet_of_same ((rmagnitude_any _ (by omega) (by omega) _).mono fun _ _ h => ⟨h.1, h.2.symm⟩)) | (go_at_call 46; exact Calls.quiet_of (rdivisor_any _ _ (by omega) (by omega) _))))
          go_wp2
          go_ret
          exact ⟨rfl, by (repeat' (first | (with_reducible exact Below.refl _ _) | (with_reducible assumption) | (with_reducible refine Below.alloc ?_ ?_ _) | (with_reducible refine below_drewN ?_ _) | (with_reducible refine Below.drew ?_) | (with_reducible refine Below.setCell ?_ ?_ _) | go_size))⟩
        · rw [canon_false (by omega)]
          have b4 : decide (n ≤ 1048576) = false := by simpa using c4
          go_enter Try.func12, Try.ntmps12
          go_wp2_with fail
          go_quiet (fail)
          go_wp2
          go_ret
          exact ⟨rfl, by (repeat' (first | (with_reducible exact Below.refl _ _) | (with_reducible assumption) | (with_reducible refine Below.alloc ?_ ?_ _) | (with_reducible refine below_drewN ?_ _) | (with_reducible refine Below.drew ?_) | (with_reducible refine Below.setCell ?_ ?_ _) | go_size))⟩
      · rw [canon_false (by omega)]
        have b4 : decide (-1048576 ≤ n) = false := by simpa using c3
        go_enter Try.func12, Try.ntmps12
        go_wp2_with fail
        go_quiet (fail)
        go_wp2
        go_ret
        exact ⟨rfl, by (repeat' (first | (with_reducible exact Below.refl _ _) | (with_reducible assumption) | (with_reducible refine Below.alloc ?_ ?_ _) | (with_reducible refine below_drewN ?_ _) | (with_reducible refine Below.drew ?_) | (with_reducible refine Below.setCell ?_ ?_ _) | go_size))⟩
    · rw [canon_false (by omega)]
      have b4 : decide (d ≤ 1048576) = false := by simpa using c2
      go_enter Try.func12, Try.ntmps12
      go_wp2_with fail
      go_quiet (fail)
      go_wp2
      go_ret
      exact ⟨rfl, by (repeat' (first | (with_reducible exact Below.refl _ _) | (with_reducible assumption) | (with_reducible refine Below.alloc ?_ ?_ _) | (with_reducible refine below_drewN ?_ _) | (with_reducible refine Below.drew ?_) | (with_reducible refine Below.setCell ?_ ?_ _) | go_size))⟩
  · rw [canon_false (by omega)]
    have b4 : decide (1 ≤ d) = false := by simpa using c1
    go_enter Try.func12, Try.ntmps12
    go_wp2_with fail
    go_quiet (fail)
    go_wp2
    go_ret
    exact ⟨rfl, by (repeat' (first | (with_reducible exact Below.refl _ _) | (with_reducible assumption) | (with_reducible refine Below.alloc ?_ ?_ _) | (with_reducible refine below_drewN ?_ _) | (with_reducible refine Below.drew ?_) | (with_reducible refine Below.setCell ?_ ?_ _) | go_size))⟩

theorem check_any (n d : Int) (h1 : -9223372036854775808 ≤ n) (h2 : n ≤ 9223372036854775807) (h3 : -9223372036854775808 ≤ d) (h4 : d ≤ 9223372036854775807) (w : World) :
    Calls Try.prog 14 #[.agg #[.int .i64 n, .int .i64 d]] w fun e w' => e = .returned (.int .i64 (if canonB n d then 0 else 3)) ∧ Below w.heap.size w w' := by
  by_cases hd : d = 0
  · subst hd
    rw [canon_false (by omega), if_neg (by simp)]
    go_enter Try.func14, Try.ntmps14
    go_wp2_with fail
    refine (make_zero n _).mono ?_
    rintro e w' ⟨rfl, hb⟩
    obtain ⟨hc, hf⟩ := bcell hb
    have hz : w.heap.size < w'.heap.size := by have := hb.size; simp at this; omega
    go_wp2
    go_ret
    exact ⟨rfl, ((Below.refl _ _).alloc (Nat.le_refl _) _).trans ((hb.mono (by simp)).alloc (by simp at *; omega) _)⟩
  · by_cases hcn : canon n d
    · obtain ⟨e1, e2, e3⟩ := mk_canon hcn
      have hB : canonB n d = true := by simpa [canonB] using hcn
      rw [hB, if_pos rfl]
      have E1 := Lib.hid e1
      have E2 := Lib.hid e2
      have E3 := Lib.hid e3
      clear e1 e2 e3 hB hcn
      go_enter Try.func14, Try.ntmps14
      go_wp2_with fail
      refine (make_any n d h1 h2 h3 h4 hd _).mono ?_
      rintro e w' ⟨rfl, hb⟩
      rw [E1.out, E2.out, E3.out]
      obtain ⟨hc, hf⟩ := bcell hb
      have hz : w.heap.size < w'.heap.size := by have := hb.size; simp at this; omega
      go_wp2
      go_ret
      exact ⟨rfl, ((Below.refl _ _).alloc (Nat.le_refl _) _).trans ((hb.mono (by simp)).alloc (by simp at *; omega) _)⟩
    · have hB : canonB n d = false := by simpa [canonB] using hcn
      rw [hB, if_neg (by simp)]
      have hx := (not_congr (check_iff n d)).2 hcn
      have Hx := Lib.hid hx
      clear hx hB hcn
      go_enter Try.func14, Try.ntmps14
      go_wp2_with fail
      refine (make_any n d h1 h2 h3 h4 hd _).mono ?_
      rintro e w' ⟨rfl, hb⟩
      obtain ⟨hc, hf⟩ := bcell hb
      have hz : w.heap.size < w'.heap.size := by have := hb.size; simp at this; omega
      have Hx2 := Hx
      generalize mkN n d = N at *
      generalize mkD n d = D at *
      generalize mkE n d = E at *
      by_cases hE : E = 0
      · have bE : (E != 0) = false := by simp [hE]
        subst hE
        by_cases hN : N = n
        · subst hN
          have hD : (D == d) = false := by have := Hx.out; simp at this; simpa using this
          have hD2 : ¬ D = d := by simpa using hD
          go_wp2
          go_ret
          exact ⟨rfl, ((Below.refl _ _).alloc (Nat.le_refl _) _).trans ((hb.mono (by simp)).alloc (by simp at *; omega) _)⟩
        · have hD : (N == n) = false := by simpa using hN
          go_wp2
          go_ret
          exact ⟨rfl, ((Below.refl _ _).alloc (Nat.le_refl _) _).trans ((hb.mono (by simp)).alloc (by simp at *; omega) _)⟩
      · have bE : (E != 0) = true := by simp [hE]
        go_wp2
        go_ret
        exact ⟨rfl, ((Below.refl _ _).alloc (Nat.le_refl _) _).trans ((hb.mono (by simp)).alloc (by simp at *; omega) _)⟩

theorem is_any (a b c d e : Int) (k : Bool) (w : World) :
    Calls Try.prog 17 #[.agg #[.int .i64 a, .int .i64 b], .int .i64 e, .agg #[.int .i64 c, .int .i64 d], .bool k] w fun e' w' => e' = .returned (.bool (if k then (a == c && b == d && e == 0) else (a == 0 && b == 0 && e == 20))) ∧ Below w.heap.size w w' := by
  cases k
  · go_enter Try.func17, Try.ntmps17
    go_wp2
    all_goals go_ret
    all_goals exact ⟨by simp [*], by (repeat' (first | (with_reducible exact Below.refl _ _) | (with_reducible assumption) | (with_reducible refine Below.alloc ?_ ?_ _) | (with_reducible refine below_drewN ?_ _) | (with_reducible refine Below.drew ?_) | (with_reducible refine Below.setCell ?_ ?_ _) | go_size))⟩
  · go_enter Try.func17, Try.ntmps17
    go_wp2
    all_goals go_ret
    all_goals exact ⟨by simp [*], by (repeat' (first | (with_reducible exact Below.refl _ _) | (with_reducible assumption) | (with_reducible refine Below.alloc ?_ ?_ _) | (with_reducible refine below_drewN ?_ _) | (with_reducible refine Below.drew ?_) | (with_reducible refine Below.setCell ?_ ?_ _) | go_size))⟩
end Go.Proofs.Ytmhheepnojbgoaa
