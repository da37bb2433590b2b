
/- What the two Check functions, is and Neg return. -/
import Derived.Test.YtokapficojgkgaaDoorMake
namespace Go.Proofs.YtokapficojgkgaaDoor
open Go.ChangeShapes Go.WideShapes Go.ChangeAt Go.RowKit Pl

theorem bcell {W w1 : World} (hb : Below W.heap.size W w1) : (∀ b o, b < W.heap.size → w1.cell? ⟨b, o, none⟩ = W.cell? ⟨b, o, none⟩) ∧ (∀ b o, b < W.heap.size → w1.frozen? ⟨b, o, none⟩ = W.frozen? ⟨b, o, none⟩) :=
  ⟨fun b o h => hb.cell (p := ⟨b, o, none⟩) h, fun b o h => hb.frozen (p := ⟨b, o, none⟩) h⟩

theorem canon_false {n d : Int} (h : ¬ (1 ≤ d ∧ d ≤ 1048576 ∧ -1048576 ≤ n ∧ n ≤ 1048576)) : canonB n d = false := by
  unfold canonB; rw [decide_eq_false_iff_not]; rintro ⟨a, b, c, e, -⟩; exact h ⟨a, b, c, e⟩
theorem canon_gcd {n d : Int} (h : 1 ≤ d ∧ d ≤ 1048576 ∧ -1048576 ≤ n ∧ n ≤ 1048576) : canonB n d = (((Nat.gcd n.natAbs d.natAbs : Nat) : Int) == 1) := by
  obtain ⟨a, b, c, e⟩ := h
  rw [Bool.eq_iff_iff]; unfold canonB canon; simp [a, b, c, e]; omega

set_option maxHeartbeats 1000000 in
theorem rcheck_any (n d : Int) (h1 : -9223372036854775808 ≤ n) (h2 : n ≤ 9223372036854775807) (h3 : -9223372036854775808 ≤ d) (h4 : d ≤ 9223372036854775807) (w : World) :
    Calls Tryd.prog 6 #[.agg #[.int .i64 n, .int .i64 d]] w fun e w' => e = .returned (.bool (canonB n d)) ∧ Below w.heap.size w w' := by
  by_cases c1 : 1 ≤ d
  · by_cases c2 : d ≤ 1048576
    · by_cases c3 : -1048576 ≤ n
      · by_cases c4 : n ≤ 1048576
        · rw [canon_gcd ⟨c1, c2, c3, c4⟩]
          go_enter Tryd.func6, Tryd.ntmps6
          go_wp2_with fail
          go_quiet ((first | (go_at_call 17; exact Calls.quiet_of_same ((rmagnitude_any _ (by omega) (by omega) _).mono fun _ _ h => ⟨h.1, h.2.symm⟩)) | (go_at_call 16; exact Calls.quiet_of (rdivisor_any _ _ (by omega) (by omega) _))))
          go_wp2
          go_ret
          exact ⟨rfl, by (repeat' (first | (with_reducible exact Below.refl _ _) | (with_reducible assumption) | (with_reducible refine Below.alloc ?_ ?_ _) | (with_reducible refine below_drewN ?_ _) | (with_reducible refine Below.drew ?_) | (with_reducible refine Below.setCell ?_ ?_ _) | go_size))⟩
        · rw [canon_false (by omega)]
          have b4 : decide (n ≤ 1048576) = false := by simpa using c4
          go_enter Tryd.func6, Tryd.ntmps6
          go_wp2_with fail
          go_quiet (fail)
          go_wp2
          go_ret
          exact ⟨rfl, by (repeat' (first | (with_reducible exact Below.refl _ _) | (with_reducible assumption) | (with_reducible refine Below.alloc ?_ ?_ _) | (with_reducible refine below_drewN ?_ _) | (with_reducible refine Below.drew ?_) | (with_reducible refine Below.setCell ?_ ?_ _) | go_size))⟩
      · rw [canon_false (by omega)]
        have b4 : decide (-1048576 ≤ n) = false := by simpa using c3
        go_enter Tryd.func6, Tryd.ntmps6
        go_wp2_with fail
        go_quiet (fail)
        go_wp2
        go_ret
        exact ⟨rfl, by (repeat' (first | (with_reducible exact Below.refl _ _) | (with_reducible assumption) | (with_reducible refine Below.alloc ?_ ?_ _) | (with_reducible refine below_drewN ?_ _) | (with_reducible refine Below.drew ?_) | (with_reducible refine Below.setCell ?_ ?_ _) | go_size))⟩
    · rw [canon_false (by omega)]
      have b4 : decide (d ≤ 1048576) = false := by simpa using c2
      go_enter Tryd.func6, Tryd.ntmps6
      go_wp2_with fail
      go_quiet (fail)
      go_wp2
      go_ret
      exact ⟨rfl, by (repeat' (first | (with_reducible exact Below.refl _ _) | (with_reducible assumption) | (with_reducible refine Below.alloc ?_ ?_ _) | (with_reducible refine below_drewN ?_ _) | (with_reducible refine Below.drew ?_) | (with_reducible refine Below.setCell ?_ ?_ _) | go_size))⟩
  · rw [canon_false (by omega)]
    have b4 : decide (1 ≤ d) = false := by simpa using c1
    go_enter Tryd.func6, Tryd.ntmps6
    go_wp2_with fail
    go_quiet (fail)
    go_wp2
    go_ret
    exact ⟨rfl, by (repeat' (first | (with_reducible exact Below.refl _ _) | (with_reducible assumption) | (with_reducible refine Below.alloc ?_ ?_ _) | (with_reducible refine below_drewN ?_ _) | (with_reducible refine Below.drew ?_) | (with_reducible refine Below.setCell ?_ ?_ _) | go_size))⟩

end Go.Proofs.YtokapficojgkgaaDoor
