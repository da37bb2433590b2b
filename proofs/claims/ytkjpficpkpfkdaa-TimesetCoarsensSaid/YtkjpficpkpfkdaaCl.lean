/- Division rounding down: the program's cell, the reference's Floor. -/
import Derived.Test.YtkjpficpkpfkdaaTt
import Derived.Test.YtkjpficpkpfkdaaGn
namespace Go.Proofs.Ytkjpficpkpfkdaa
open Go.ChangeShapes Go.WideShapes Go.ChangeAt Go.RowKit Ts

theorem ediv_of {q n s : Int} (hs : 0 < s) (h1 : q * s ≤ n) (h2 : n < q * s + s) : n / s = q := by
  have a := (Int.le_ediv_iff_mul_le hs).2 h1
  have b := (Int.ediv_lt_iff_lt_mul hs).2 (show n < (q + 1) * s by rw [Int.add_mul, Int.one_mul]; exact h2)
  omega
/-- What a division that truncates says about the one that rounds down. -/
theorem quo_facts (n s : Int) (hs : 0 < s) : ∃ q p, n.tdiv s = q ∧ q * s = p ∧ s * q = p ∧ n.tmod s = n - p ∧ (0 ≤ n → 0 ≤ q ∧ q ≤ n ∧ 0 ≤ p ∧ p ≤ n) ∧ (n < 0 → n ≤ q ∧ q ≤ 0 ∧ n ≤ p ∧ p ≤ 0) ∧ ((p ≤ n ∧ n / s = q) ∨ (n < p ∧ n / s = q - 1)) := by
  refine ⟨n.tdiv s, n.tdiv s * s, rfl, rfl, Int.mul_comm _ _, by rw [Int.tmod_def, Int.mul_comm], ?_, ?_, ?_⟩
  · intro h
    rw [Int.tdiv_eq_ediv_of_nonneg h]
    have h1 := Int.ediv_nonneg h (Int.le_of_lt hs)
    have h2 := Int.ediv_le_self s h
    have h3 := Int.ediv_mul_le n (show s ≠ 0 by omega)
    exact ⟨h1, h2, Int.mul_nonneg h1 (Int.le_of_lt hs), h3⟩
  · intro h
    obtain ⟨m, rfl⟩ : ∃ m, n = -m := ⟨-n, by omega⟩
    have hm : 0 ≤ m := by omega
    rw [Int.neg_tdiv, Int.tdiv_eq_ediv_of_nonneg hm]
    have h1 := Int.ediv_nonneg hm (Int.le_of_lt hs)
    have h2 := Int.ediv_le_self s hm
    have h3 := Int.ediv_mul_le m (show s ≠ 0 by omega)
    have h4 := Int.mul_nonneg h1 (Int.le_of_lt hs)
    rw [Int.neg_mul]
    omega
  · by_cases h : 0 ≤ n
    · left
      rw [Int.tdiv_eq_ediv_of_nonneg h]
      exact ⟨Int.ediv_mul_le n (by omega), rfl⟩
    · obtain ⟨m, rfl⟩ : ∃ m, n = -m := ⟨-n, by omega⟩
      have hm : 0 ≤ m := by omega
      rw [Int.neg_tdiv, Int.tdiv_eq_ediv_of_nonneg hm, Int.neg_mul]
      have h3 := Int.ediv_mul_le m (show s ≠ 0 by omega)
      have h4 := Int.lt_ediv_add_one_mul_self m hs
      rw [Int.add_mul, Int.one_mul] at h4
      by_cases e : m / s * s = m
      · left
        exact ⟨by omega, ediv_of hs (by rw [Int.neg_mul]; omega) (by rw [Int.neg_mul]; omega)⟩
      · right
        refine ⟨by omega, ediv_of hs ?_ ?_⟩
        · rw [Int.sub_mul, Int.neg_mul, Int.one_mul]; omega
        · rw [Int.sub_mul, Int.neg_mul, Int.one_mul]; omega
set_option maxRecDepth 100000 in
theorem cell_any (n s : Int) (hs : 0 < s) (hs2 : s ≤ 2000000000000000) (h1 : -2000000000000000 ≤ n) (h2 : n ≤ 2000000000000000) (w : World) :
    Calls Try.prog 67 #[.int .i64 n, .int .i64 s] w fun e w' => e = .returned (.int .i64 (n / s)) ∧ w' = w := by
  obtain ⟨q, p, hq, hp, _, _, f1, f2, f3⟩ := quo_facts n s hs
  have b1 : -2000000000000000 ≤ q ∧ q ≤ 2000000000000000 ∧ -2000000000000000 ≤ p ∧ p ≤ 2000000000000000 := by
    by_cases h : 0 ≤ n
    · have := f1 h; omega
    · have := f2 (by omega); omega
  have hs0 : ¬ s = 0 := by omega
  have w1 : IntKind.i64.wrap q = q := by simp only [IntKind.wrap_i64]; omega
  have w2 : IntKind.i64.wrap p = p := by simp only [IntKind.wrap_i64]; omega
  have w3 : IntKind.i64.wrap (q - 1) = q - 1 := by simp only [IntKind.wrap_i64]; omega
  clear f1 f2
  rcases f3 with ⟨h, e⟩ | ⟨h, e⟩
  · rw [e]
    have h' : ¬ n < p := by omega
    go_enter Try.func67, Try.ntmps67
    go_wp2_with fail
    go_ret
    exact ⟨rfl, rfl⟩
  · rw [e]
    go_enter Try.func67, Try.ntmps67
    go_wp2_with fail
    go_ret
    exact ⟨rfl, rfl⟩
set_option maxRecDepth 100000 in
theorem floor_any (n s : Int) (hs : 0 < s) (hs2 : s ≤ 2000000000000000) (h1 : -2000000000000000 ≤ n) (h2 : n ≤ 2000000000000000) (w : World) :
    Calls Try.prog 68 #[.int .i64 n, .int .i64 s] w fun e w' => e = .returned (.int .i64 (n / s)) ∧ w' = w := by
  obtain ⟨q, p, hq, hp, _, hm, f1, f2, f3⟩ := quo_facts n s hs
  have b1 : -2000000000000000 ≤ q ∧ q ≤ 2000000000000000 ∧ -2000000000000000 ≤ p ∧ p ≤ 2000000000000000 := by
    by_cases h : 0 ≤ n
    · have := f1 h; omega
    · have := f2 (by omega); omega
  have hs0 : ¬ s = 0 := by omega
  have w1 : IntKind.i64.wrap q = q := by simp only [IntKind.wrap_i64]; omega
  have w3 : IntKind.i64.wrap (q - 1) = q - 1 := by simp only [IntKind.wrap_i64]; omega
  have w4 : IntKind.i64.wrap (n - p) = n - p := by simp only [IntKind.wrap_i64]; omega
  clear f1 f2
  rcases f3 with ⟨h, e⟩ | ⟨h, e⟩
  · rw [e]
    have h' : ¬ n - p < 0 := by omega
    go_enter Try.func68, Try.ntmps68
    go_wp2_with fail
    go_ret
    exact ⟨rfl, rfl⟩
  · rw [e]
    have h' : n - p < 0 := by omega
    go_enter Try.func68, Try.ntmps68
    go_wp2_with fail
    go_ret
    exact ⟨rfl, rfl⟩
end Go.Proofs.Ytkjpficpkpfkdaa
