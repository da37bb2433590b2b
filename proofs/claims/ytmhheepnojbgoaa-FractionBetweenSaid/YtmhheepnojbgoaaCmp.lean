/- What the arithmetic of fractions returns. -/
import Derived.Test.YtmhheepnojbgoaaCheck
namespace Go.Proofs.Ytmhheepnojbgoaa
open Go.ChangeShapes Go.WideShapes Go.ChangeAt Go.RowKit Pl

/-- The sign of a difference. -/
def sg (x y : Int) : Int := if x < y then -1 else if y < x then 1 else 0
theorem sg_lt {x y : Int} (h : x < y) : sg x y = -1 := if_pos h
theorem sg_gt {x y : Int} (h : y < x) : sg x y = 1 := by unfold sg; rw [if_neg (by omega), if_pos h]
theorem sg_eq {x y : Int} (h : x = y) : sg x y = 0 := by unfold sg; rw [if_neg (by omega), if_neg (by omega)]

theorem cmp_any (x y : Int) (w : World) :
    Calls Try.prog 50 #[.int .i64 x, .int .i64 y] w fun e w' => e = .returned (.int .i64 (sg x y)) ∧ w = w' := by
  rcases Int.lt_trichotomy x y with h | h | h
  · rw [sg_lt h]
    have t1 : decide (x < y) = true := by simpa using h
    go_enter Try.func50, Try.ntmps50
    go_wp2
    go_ret
    exact ⟨rfl, rfl⟩
  · rw [sg_eq h]
    subst h
    go_enter Try.func50, Try.ntmps50
    go_wp2
    go_ret
    exact ⟨rfl, rfl⟩
  · rw [sg_gt h]
    have t1 : decide (x < y) = false := by simp; omega
    have t2 : decide (y < x) = true := by simpa using h
    go_enter Try.func50, Try.ntmps50
    go_wp2
    go_ret
    exact ⟨rfl, rfl⟩

theorem compare_any (n d p q : Int) (h1 : -1048576 ≤ n) (h2 : n ≤ 1048576) (h3 : 1 ≤ d) (h4 : d ≤ 1048576) (h5 : -1048576 ≤ p) (h6 : p ≤ 1048576) (h7 : 1 ≤ q) (h8 : q ≤ 1048576) (w : World) :
    Calls Try.prog 20 #[.agg #[.int .i64 n, .int .i64 d], .agg #[.int .i64 p, .int .i64 q]] w fun e w' => e = .returned (.int .i64 (sg (n * q) (p * d))) ∧ Below w.heap.size w w' := by
  obtain ⟨a1, a2⟩ := prod_bd h1 h2 (show -1048576 ≤ q by omega) h8
  obtain ⟨a3, a4⟩ := prod_bd h5 h6 (show -1048576 ≤ d by omega) h4
  by_cases hne : n = p
  · subst hne
    by_cases hd : d = q
    · subst hd
      rw [sg_eq rfl]
      go_enter Try.func20, Try.ntmps20
      go_wp2
      go_ret
      exact ⟨rfl, by (repeat' (first | (with_reducible exact Below.refl _ _) | (with_reducible assumption) | (with_reducible refine Below.alloc ?_ ?_ _) | (with_reducible refine below_drewN ?_ _) | (with_reducible refine Below.drew ?_) | (with_reducible refine Below.setCell ?_ ?_ _) | go_size))⟩
    · have hne' : (d == q) = false := by simpa using hd
      go_enter Try.func20, Try.ntmps20
      go_wp2_with fail
      refine (cmp_any _ _ _).mono ?_
      rintro e w' ⟨rfl, rfl⟩
      go_wp2_with fail
      go_ret
      exact ⟨rfl, by (repeat' (first | (with_reducible exact Below.refl _ _) | (with_reducible assumption) | (with_reducible refine Below.alloc ?_ ?_ _) | (with_reducible refine below_drewN ?_ _) | (with_reducible refine Below.drew ?_) | (with_reducible refine Below.setCell ?_ ?_ _) | go_size))⟩
  · have hne' : (n == p) = false := by simpa using hne
    go_enter Try.func20, Try.ntmps20
    go_wp2_with fail
    refine (cmp_any _ _ _).mono ?_
    rintro e w' ⟨rfl, rfl⟩
    go_wp2_with fail
    go_ret
    exact ⟨rfl, by (repeat' (first | (with_reducible exact Below.refl _ _) | (with_reducible assumption) | (with_reducible refine Below.alloc ?_ ?_ _) | (with_reducible refine below_drewN ?_ _) | (with_reducible refine Below.drew ?_) | (with_reducible refine Below.setCell ?_ ?_ _) | go_size))⟩

theorem rcompare_any (n d p q : Int) (h1 : -1048576 ≤ n) (h2 : n ≤ 1048576) (h3 : 1 ≤ d) (h4 : d ≤ 1048576) (h5 : -1048576 ≤ p) (h6 : p ≤ 1048576) (h7 : 1 ≤ q) (h8 : q ≤ 1048576) (w : World) :
    Calls Try.prog 19 #[.agg #[.int .i64 n, .int .i64 d], .agg #[.int .i64 p, .int .i64 q]] w fun e w' => e = .returned (.int .i64 (sg (n * q) (p * d))) ∧ Below w.heap.size w w' := by
  obtain ⟨a1, a2⟩ := prod_bd h1 h2 (show -1048576 ≤ q by omega) h8
  obtain ⟨a3, a4⟩ := prod_bd h5 h6 (show -1048576 ≤ d by omega) h4
  rcases Int.lt_trichotomy (n * q) (p * d) with h | h | h
  · rw [sg_lt h]
    go_enter Try.func19, Try.ntmps19
    go_wp2_with fail
    go_quiet (fail)
    go_wp2
    go_ret
    exact ⟨rfl, by (repeat' (first | (with_reducible exact Below.refl _ _) | (with_reducible assumption) | (with_reducible refine Below.alloc ?_ ?_ _) | (with_reducible refine below_drewN ?_ _) | (with_reducible refine Below.drew ?_) | (with_reducible refine Below.setCell ?_ ?_ _) | go_size))⟩
  · rw [sg_eq h]
    have u1 : ¬ n * q < p * d := by omega
    have u2 : ¬ p * d < n * q := by omega
    clear h
    go_enter Try.func19, Try.ntmps19
    go_wp2_with fail
    go_quiet (fail)
    go_wp2
    go_ret
    exact ⟨rfl, by (repeat' (first | (with_reducible exact Below.refl _ _) | (with_reducible assumption) | (with_reducible refine Below.alloc ?_ ?_ _) | (with_reducible refine below_drewN ?_ _) | (with_reducible refine Below.drew ?_) | (with_reducible refine Below.setCell ?_ ?_ _) | go_size))⟩
  · rw [sg_gt h]
    have u1 : ¬ n * q < p * d := by omega
    go_enter Try.func19, Try.ntmps19
    go_wp2_with fail
    go_quiet (fail)
    go_wp2
    go_ret
    exact ⟨rfl, by (repeat' (first | (with_reducible exact Below.refl _ _) | (with_reducible assumption) | (with_reducible refine Below.alloc ?_ ?_ _) | (with_reducible refine below_drewN ?_ _) | (with_reducible refine Below.drew ?_) | (with_reducible refine Below.setCell ?_ ?_ _) | go_size))⟩

theorem sign_any (n d : Int) (w : World) :
    Calls Try.prog 21 #[.agg #[.int .i64 n, .int .i64 d]] w fun e w' => e = .returned (.int .i64 (sg n 0)) ∧ Below w.heap.size w w' := by
  go_enter Try.func21, Try.ntmps21
  go_wp2_with fail
  refine (cmp_any _ _ _).mono ?_
  rintro e w' ⟨rfl, rfl⟩
  go_wp2_with fail
  go_ret
  exact ⟨rfl, by (repeat' (first | (with_reducible exact Below.refl _ _) | (with_reducible assumption) | (with_reducible refine Below.alloc ?_ ?_ _) | (with_reducible refine below_drewN ?_ _) | (with_reducible refine Below.drew ?_) | (with_reducible refine Below.setCell ?_ ?_ _) | go_size))⟩

theorem min_any (n d p q : Int) (h1 : -1048576 ≤ n) (h2 : n ≤ 1048576) (h3 : 1 ≤ d) (h4 : d ≤ 1048576) (h5 : -1048576 ≤ p) (h6 : p ≤ 1048576) (h7 : 1 ≤ q) (h8 : q ≤ 1048576) (w : World) :
    Calls Try.prog 23 #[.agg #[.int .i64 n, .int .i64 d], .agg #[.int .i64 p, .int .i64 q]] w fun e w' => e = .returned (.agg #[.int .i64 (if sg (n * q) (p * d) = 1 then p else n), .int .i64 (if sg (n * q) (p * d) = 1 then q else d)]) ∧ Below w.heap.size w w' := by
  by_cases hs : sg (n * q) (p * d) = 1
  · have hs' : 0 < sg (n * q) (p * d) := by omega
    rw [if_pos hs, if_pos hs]
    clear hs
    go_enter Try.func23, Try.ntmps23
    go_wp2_with fail
    refine (compare_any n d p q h1 h2 h3 h4 h5 h6 h7 h8 _).mono ?_
    rintro e w' ⟨rfl, hb⟩
    obtain ⟨hchb, hfhb⟩ := bcell hb
    have hzhb := hb.size
    simp at hzhb
    have hzhb0 : w.heap.size < w'.heap.size := by omega
    have hzhb1 : w.heap.size + 1 < w'.heap.size := by omega
    have hzhb2 : w.heap.size + 1 + 1 < w'.heap.size := by omega
    have hBhb : Below w.heap.size w w' := Below.trans (by (repeat' (first | (with_reducible exact Below.refl _ _) | (with_reducible assumption) | (with_reducible refine Below.alloc ?_ ?_ _) | (with_reducible refine below_drewN ?_ _) | (with_reducible refine Below.drew ?_) | (with_reducible refine Below.setCell ?_ ?_ _) | go_size))) (hb.mono (by go_size))
    clear hb hzhb
    go_wp2
    refine bodyPost_ret (v := .agg #[.int .i64 p, .int .i64 q]) (by simp [results, Try.results23, go_sem, *]) rfl ⟨rfl, by (repeat' (first | (with_reducible exact Below.refl _ _) | (with_reducible assumption) | (with_reducible refine Below.alloc ?_ ?_ _) | (with_reducible refine below_drewN ?_ _) | (with_reducible refine Below.drew ?_) | (with_reducible refine Below.setCell ?_ ?_ _) | go_size))⟩
  · have hs' : sg (n * q) (p * d) ≤ 0 := by unfold sg at *; split <;> (try split) <;> simp_all
    rw [if_neg hs, if_neg hs]
    clear hs
    go_enter Try.func23, Try.ntmps23
    go_wp2_with fail
    refine (compare_any n d p q h1 h2 h3 h4 h5 h6 h7 h8 _).mono ?_
    rintro e w' ⟨rfl, hb⟩
    obtain ⟨hchb, hfhb⟩ := bcell hb
    have hzhb := hb.size
    simp at hzhb
    have hzhb0 : w.heap.size < w'.heap.size := by omega
    have hzhb1 : w.heap.size + 1 < w'.heap.size := by omega
    have hzhb2 : w.heap.size + 1 + 1 < w'.heap.size := by omega
    have hBhb : Below w.heap.size w w' := Below.trans (by (repeat' (first | (with_reducible exact Below.refl _ _) | (with_reducible assumption) | (with_reducible refine Below.alloc ?_ ?_ _) | (with_reducible refine below_drewN ?_ _) | (with_reducible refine Below.drew ?_) | (with_reducible refine Below.setCell ?_ ?_ _) | go_size))) (hb.mono (by go_size))
    clear hb hzhb
    go_wp2
    refine bodyPost_ret (v := .agg #[.int .i64 n, .int .i64 d]) (by simp [results, Try.results23, go_sem, *]) rfl ⟨rfl, by (repeat' (first | (with_reducible exact Below.refl _ _) | (with_reducible assumption) | (with_reducible refine Below.alloc ?_ ?_ _) | (with_reducible refine below_drewN ?_ _) | (with_reducible refine Below.drew ?_) | (with_reducible refine Below.setCell ?_ ?_ _) | go_size))⟩

theorem max_any (n d p q : Int) (h1 : -1048576 ≤ n) (h2 : n ≤ 1048576) (h3 : 1 ≤ d) (h4 : d ≤ 1048576) (h5 : -1048576 ≤ p) (h6 : p ≤ 1048576) (h7 : 1 ≤ q) (h8 : q ≤ 1048576) (w : World) :
    Calls Try.prog 24 #[.agg #[.int .i64 n, .int .i64 d], .agg #[.int .i64 p, .int .i64 q]] w fun e w' => e = .returned (.agg #[.int .i64 (if sg (n * q) (p * d) = -1 then p else n), .int .i64 (if sg (n * q) (p * d) = -1 then q else d)]) ∧ Below w.heap.size w w' := by
  by_cases hs : sg (n * q) (p * d) = -1
  · have hs' : sg (n * q) (p * d) < 0 := by omega
    rw [if_pos hs, if_pos hs]
    clear hs
    go_enter Try.func24, Try.ntmps24
    go_wp2_with fail
    refine (compare_any n d p q h1 h2 h3 h4 h5 h6 h7 h8 _).mono ?_
    rintro e w' ⟨rfl, hb⟩
    obtain ⟨hchb, hfhb⟩ := bcell hb
    have hzhb := hb.size
    simp at hzhb
    have hzhb0 : w.heap.size < w'.heap.size := by omega
    have hzhb1 : w.heap.size + 1 < w'.heap.size := by omega
    have hzhb2 : w.heap.size + 1 + 1 < w'.heap.size := by omega
    have hBhb : Below w.heap.size w w' := Below.trans (by (repeat' (first | (with_reducible exact Below.refl _ _) | (with_reducible assumption) | (with_reducible refine Below.alloc ?_ ?_ _) | (with_reducible refine below_drewN ?_ _) | (with_reducible refine Below.drew ?_) | (with_reducible refine Below.setCell ?_ ?_ _) | go_size))) (hb.mono (by go_size))
    clear hb hzhb
    go_wp2
    refine bodyPost_ret (v := .agg #[.int .i64 p, .int .i64 q]) (by simp [results, Try.results24, go_sem, *]) rfl ⟨rfl, by (repeat' (first | (with_reducible exact Below.refl _ _) | (with_reducible assumption) | (with_reducible refine Below.alloc ?_ ?_ _) | (with_reducible refine below_drewN ?_ _) | (with_reducible refine Below.drew ?_) | (with_reducible refine Below.setCell ?_ ?_ _) | go_size))⟩
  · have hs' : 0 ≤ sg (n * q) (p * d) := by unfold sg at *; split <;> (try split) <;> simp_all
    rw [if_neg hs, if_neg hs]
    clear hs
    go_enter Try.func24, Try.ntmps24
    go_wp2_with fail
    refine (compare_any n d p q h1 h2 h3 h4 h5 h6 h7 h8 _).mono ?_
    rintro e w' ⟨rfl, hb⟩
    obtain ⟨hchb, hfhb⟩ := bcell hb
    have hzhb := hb.size
    simp at hzhb
    have hzhb0 : w.heap.size < w'.heap.size := by omega
    have hzhb1 : w.heap.size + 1 < w'.heap.size := by omega
    have hzhb2 : w.heap.size + 1 + 1 < w'.heap.size := by omega
    have hBhb : Below w.heap.size w w' := Below.trans (by (repeat' (first | (with_reducible exact Below.refl _ _) | (with_reducible assumption) | (with_reducible refine Below.alloc ?_ ?_ _) | (with_reducible refine below_drewN ?_ _) | (with_reducible refine Below.drew ?_) | (with_reducible refine Below.setCell ?_ ?_ _) | go_size))) (hb.mono (by go_size))
    clear hb hzhb
    go_wp2
    refine bodyPost_ret (v := .agg #[.int .i64 n, .int .i64 d]) (by simp [results, Try.results24, go_sem, *]) rfl ⟨rfl, by (repeat' (first | (with_reducible exact Below.refl _ _) | (with_reducible assumption) | (with_reducible refine Below.alloc ?_ ?_ _) | (with_reducible refine below_drewN ?_ _) | (with_reducible refine Below.drew ?_) | (with_reducible refine Below.setCell ?_ ?_ _) | go_size))⟩
end Go.Proofs.Ytmhheepnojbgoaa
