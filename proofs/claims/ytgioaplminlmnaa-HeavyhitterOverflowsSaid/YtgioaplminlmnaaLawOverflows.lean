/- HeavyhitterOverflows: for any two numbers the law returns true (written by wip/bin/gen_lo22.py). No condition. -/
import Derived.Test.YtgioaplminlmnaaHa
import Derived.Test.YtgioaplminlmnaaGw
import Derived.Deep.RegionHeld3
namespace Go.Proofs.Ytgioaplminlmnaa.lawOverflows
open Go.ChangeShapes Go.WideShapes Go.ChangeAt Go.RowKit Go.Joins

theorem u32_bd {a : Int} (h : (Lit.int .u32 a).wf = true) : 0 ≤ a ∧ a ≤ 4294967295 := by
  simp only [Lit.wf, IntKind.min, IntKind.max, IntKind.signed, IntKind.bits, Bool.and_eq_true] at h
  simpa using h
theorem ex_ad {t n : Int} (hn : 1 ≤ n ∧ n ≤ 4294967296) (_hp : 0 < t) : adR ⟨2, t, 0, [(ka, 5)]⟩ kb n = if 1125899906842624 - t < n then (su0, 20) else (⟨2, t + n, 0, [(ka, 5), (kb, n)]⟩, 0) := by
  unfold adR adS
  rw [if_neg (by rw [nm_b]; decide), if_neg (by omega)]
  split
  · rfl
  · rw [if_neg (fun h => by have := h.2; simp at this)]
    simp [adC, pt, gt, ne_ab, ab]
theorem ex_mg {t n : Int} : mgR ⟨2, t, 0, [(ka, 5)]⟩ ⟨2, n, 0, [(kb, 1)]⟩ = if 1125899906842624 < t + n then (su0, 20) else (⟨2, t + n, 0, [(ka, 5), (kb, 1)]⟩, 0) := by
  unfold mgR mgS
  have e : coC ([(ka, 5)] ++ [(kb, 1)]) = [(ka, 5), (kb, 1)] := coC_sd (sd_two ab)
  simp only [e]
  rw [if_neg (by simp), if_neg (by simp : ¬ ((2 : Int) < ([(ka, 5), (kb, 1)] : List Ct).length))]
  simp
theorem one_lit (w : World) (k : ByteArray) (m : Int) : SlV (w.alloc (.cells #[.string k, .int .i64 m] 27)) (.slice (some ⟨w.heap.size, 0, none⟩) 1 1) [(k, m)] := by
  refine ⟨_, 1, rfl, Nat.le_refl _, (fun e => nomatch e), fun j hj => ?_⟩
  simp at hj
  subst hj
  exact ⟨_, 0, _, rfl, Deep.blk_alloc_new w _, rfl, rfl⟩
theorem fit_one (k : ByteArray) (hk : k.size ≤ 1000) (m : Int) (hm : 0 ≤ m ∧ m ≤ 1000) : Fit22 [(k, m)] := fit_ex _ (by intro p hp; simp at hp; rw [hp]; exact hm.1) (by simp [sm]; omega) (by intro p hp; simp at hp; rw [hp]; exact hk) (by simp)
theorem fit_two : Fit22 ([(ka, 5)] ++ [(kb, 1)]) := fit_ex _ (by simp [Nn]) (by simp [sm]) (by simp; decide) (by simp)
theorem nb_t {t : Int} (h : 0 ≤ t ∧ t ≤ 1125899906842624) (cs : List Ct) : Nb ⟨2, t, 0, cs⟩ := ⟨⟨by simp, by simp⟩, ⟨by show -1152921504606846976 ≤ t; omega, by show t ≤ 1152921504606846976; omega⟩, by simp, by simp⟩
theorem add_x (t n : Int) (ht : 0 < t ∧ t ≤ 1125899906842624) (hn : 1 ≤ n ∧ n ≤ 4294967296) (u : Value) (w : World) (hu : SlV w u [(ka, 5)]) : Calls Try.prog 19 #[.agg #[.int .i64 2, .int .i64 t, .int .i64 0, u], .string ⟨#[98]⟩, .int .i64 n] w fun e w' => (∃ x, e = .returned (.tuple #[x, .int .i64 (if 1125899906842624 - t < n then 20 else 0)]) ∧ SuV w' x (if 1125899906842624 - t < n then su0 else ⟨2, t + n, 0, [(ka, 5), (kb, n)]⟩)) ∧ Below w.heap.size w w' := by
  have h := add_any _ ⟨2, t, 0, [(ka, 5)]⟩ kb n (by decide) (by simp) (fit_one ka (by decide) 5 (by omega)) (sd_one _) (nb_t ⟨by omega, ht.2⟩ _) w ⟨u, rfl, hu⟩
  rw [ex_ad hn ht.1] at h
  split at h <;> rename_i h1
  · simp only [if_pos h1]; exact h
  · simp only [if_neg h1]; exact h
theorem mrg_x (t n : Int) (ht : 0 < t ∧ t ≤ 1125899906842624) (hn : 1 ≤ n ∧ n ≤ 4294967296) (u v : Value) (w : World) (hu : SlV w u [(ka, 5)]) (hv : SlV w v [(kb, 1)]) : Calls Try.prog 27 #[.agg #[.int .i64 2, .int .i64 t, .int .i64 0, u], .agg #[.int .i64 2, .int .i64 n, .int .i64 0, v]] w fun e w' => (∃ x, e = .returned (.tuple #[x, .int .i64 (if 1125899906842624 < t + n then 20 else 0)]) ∧ SuV w' x (if 1125899906842624 < t + n then su0 else ⟨2, t + n, 0, [(ka, 5), (kb, 1)]⟩)) ∧ Below w.heap.size w w' := by
  have h := merge_any _ _ ⟨2, t, 0, [(ka, 5)]⟩ ⟨2, n, 0, [(kb, 1)]⟩ (by simp) (by simp) fit_two (nb_t ⟨by omega, ht.2⟩ _) (nb_t ⟨by omega, by omega⟩ _) (by simp) w ⟨u, rfl, hu⟩ ⟨v, rfl, hv⟩
  rw [ex_mg] at h
  split at h <;> rename_i h1
  · simp only [if_pos h1]; exact h
  · simp only [if_neg h1]; exact h
theorem add_b (t n : Int) (ht : 0 < t ∧ t ≤ 1125899906842624) (hn : 1 ≤ n ∧ n ≤ 4294967296) (ho : 1125899906842624 - t < n) (u : Value) (w : World) (hu : SlV w u [(ka, 5)]) : Calls Try.prog 19 #[.agg #[.int .i64 2, .int .i64 t, .int .i64 0, u], .string ⟨#[98]⟩, .int .i64 n] w fun e w' => (∃ A c, e = .returned (.tuple #[.agg #[.int .i64 0, .int .i64 0, .int .i64 0, .slice A 0 c], .int .i64 20]) ∧ SlV w' (.slice A 0 c) []) ∧ Below w.heap.size w w' := by
  refine (add_x t n ht hn u w hu).mono ?_
  rw [if_pos ho, if_pos ho]
  rintro e w' ⟨⟨v, rfl, u, rfl, h⟩, hb⟩
  obtain ⟨A, c, rfl, _⟩ := id h
  exact ⟨⟨A, c, rfl, h⟩, hb⟩
theorem add_g (t n : Int) (ht : 0 < t ∧ t ≤ 1125899906842624) (hn : 1 ≤ n ∧ n ≤ 4294967296) (ho : ¬ 1125899906842624 - t < n) (u : Value) (w : World) (hu : SlV w u [(ka, 5)]) : Calls Try.prog 19 #[.agg #[.int .i64 2, .int .i64 t, .int .i64 0, u], .string ⟨#[98]⟩, .int .i64 n] w fun e w' => (∃ A c, e = .returned (.tuple #[.agg #[.int .i64 2, .int .i64 (t + n), .int .i64 0, .slice A 2 c], .int .i64 0]) ∧ SlV w' (.slice A 2 c) [(ka, 5), (kb, n)]) ∧ Below w.heap.size w w' := by
  refine (add_x t n ht hn u w hu).mono ?_
  rw [if_neg ho, if_neg ho]
  rintro e w' ⟨⟨v, rfl, u, rfl, h⟩, hb⟩
  obtain ⟨A, c, rfl, _⟩ := id h
  exact ⟨⟨A, c, rfl, h⟩, hb⟩
theorem mrg_b (t n : Int) (ht : 0 < t ∧ t ≤ 1125899906842624) (hn : 1 ≤ n ∧ n ≤ 4294967296) (ho : 1125899906842624 < t + n) (u v : Value) (w : World) (hu : SlV w u [(ka, 5)]) (hv : SlV w v [(kb, 1)]) : Calls Try.prog 27 #[.agg #[.int .i64 2, .int .i64 t, .int .i64 0, u], .agg #[.int .i64 2, .int .i64 n, .int .i64 0, v]] w fun e w' => (∃ A c, e = .returned (.tuple #[.agg #[.int .i64 0, .int .i64 0, .int .i64 0, .slice A 0 c], .int .i64 20]) ∧ SlV w' (.slice A 0 c) []) ∧ Below w.heap.size w w' := by
  refine (mrg_x t n ht hn u v w hu hv).mono ?_
  rw [if_pos ho, if_pos ho]
  rintro e w' ⟨⟨v, rfl, u, rfl, h⟩, hb⟩
  obtain ⟨A, c, rfl, _⟩ := id h
  exact ⟨⟨A, c, rfl, h⟩, hb⟩
theorem mrg_g (t n : Int) (ht : 0 < t ∧ t ≤ 1125899906842624) (hn : 1 ≤ n ∧ n ≤ 4294967296) (ho : ¬ 1125899906842624 < t + n) (u v : Value) (w : World) (hu : SlV w u [(ka, 5)]) (hv : SlV w v [(kb, 1)]) : Calls Try.prog 27 #[.agg #[.int .i64 2, .int .i64 t, .int .i64 0, u], .agg #[.int .i64 2, .int .i64 n, .int .i64 0, v]] w fun e w' => (∃ A c, e = .returned (.tuple #[.agg #[.int .i64 2, .int .i64 (t + n), .int .i64 0, .slice A 2 c], .int .i64 0]) ∧ SlV w' (.slice A 2 c) [(ka, 5), (kb, 1)]) ∧ Below w.heap.size w w' := by
  refine (mrg_x t n ht hn u v w hu hv).mono ?_
  rw [if_neg ho, if_neg ho]
  rintro e w' ⟨⟨v, rfl, u, rfl, h⟩, hb⟩
  obtain ⟨A, c, rfl, _⟩ := id h
  exact ⟨⟨A, c, rfl, h⟩, hb⟩
theorem eq_zero (A : Option Addr) (c : Nat) (w : World) (h : SlV w (.slice A 0 c) []) : Calls Try.prog 15 #[.agg #[.int .i64 0, .int .i64 0, .int .i64 0, .slice A 0 c], .agg #[.int .i64 0, .int .i64 0, .int .i64 0, .slice none 0 0]] w fun e w' => e = .returned (.bool true) ∧ Below w.heap.size w w' := by
  have := equal_any _ _ su0 su0 (by simp [su0]) w ⟨_, rfl, h⟩ ⟨_, rfl, CRempty⟩
  rwa [show eqS su0 su0 = true by simp [eqS]] at this
theorem eq_same (u v : Value) (t n : Int) (w : World) (h : SlV w u [(ka, 5), (kb, n)]) (h2 : SlV w v [(ka, 5), (kb, n)]) : Calls Try.prog 15 #[.agg #[.int .i64 2, .int .i64 (t + n), .int .i64 0, u], .agg #[.int .i64 2, .int .i64 (t + n), .int .i64 0, v]] w fun e w' => e = .returned (.bool true) ∧ Below w.heap.size w w' := by
  have := equal_any _ _ ⟨2, t + n, 0, [(ka, 5), (kb, n)]⟩ ⟨2, t + n, 0, [(ka, 5), (kb, n)]⟩ (by simp) w ⟨u, rfl, h⟩ ⟨v, rfl, h2⟩
  rwa [show eqS ⟨2, t + n, 0, [(ka, 5), (kb, n)]⟩ ⟨2, t + n, 0, [(ka, 5), (kb, n)]⟩ = true by simp [eqS]] at this
theorem radd_x (t n : Int) (ht : 0 < t ∧ t ≤ 1125899906842624) (hn : 1 ≤ n ∧ n ≤ 4294967296) (b : Nat) (w : World) (hu : SlV w (.slice (some ⟨b, 0, none⟩) 1 1) [(ka, 5)]) : Calls Try.prog 21 #[.agg #[.int .i64 2, .int .i64 t, .int .i64 0, .slice (some ⟨b, 0, none⟩) 1 1], .string ⟨#[98]⟩, .int .i64 n] w fun e w' => (∃ A c, e = .returned (.agg #[.int .i64 2, .int .i64 (t + n), .int .i64 0, .slice A 2 c]) ∧ SlV w' (.slice A 2 c) [(ka, 5), (kb, n)]) ∧ Below w.heap.size w w' := by
  have e : adC [(ka, 5)] kb n = [(ka, 5), (kb, n)] := by simp [adC, pt, gt, ne_ab, ab]
  have g : gt [(ka, 5)] kb = 0 := by simp [gt, ne_ab]
  have h := radd_few (.agg #[.int .i64 2, .int .i64 t, .int .i64 0, .slice (some ⟨b, 0, none⟩) 1 1]) ⟨2, t, 0, [(ka, 5)]⟩ kb n (sd_one _) (by simp) (by show -9223372036854775808 ≤ gt [(ka, 5)] kb + n ∧ _; rw [g]; omega) (fun m t' l A x c he ad ea => by
    simp at he
    obtain ⟨_, _, _, he, _⟩ := he
    rw [← he] at ea
    injection ea with ea
    exact ⟨b, 0, ea.symm⟩) (.inr (by simp)) (by show -9223372036854775808 ≤ t + n ∧ t + n ≤ _; omega) w ⟨_, rfl, hu⟩
  simp only [e] at h
  refine h.mono ?_
  rintro e w' ⟨⟨v, rfl, u, rfl, h⟩, hb⟩
  obtain ⟨A, c, rfl, _⟩ := id h
  exact ⟨⟨A, c, rfl, h⟩, hb⟩
set_option maxRecDepth 100000 in
set_option maxHeartbeats 8000000 in
theorem walk (w : World) (a0 : Int) (wa0 : (Lit.int .u32 a0).wf = true) (a1 : Int) (wa1 : (Lit.int .u32 a1).wf = true) :
    Calls Try.prog 11 #[.int .u32 a0, .int .u32 a1] w fun e w' => e = .returned (.bool true) ∧ Below w.heap.size w w' := by
  obtain ⟨a2, a3⟩ := u32_bd wa0
  obtain ⟨a4, a5⟩ := u32_bd wa1
  have hc0 : IntKind.i64.wrap a0 = a0 := by simp only [IntKind.wrap_i64]; omega
  have hc1 : IntKind.i64.wrap a1 = a1 := by simp only [IntKind.wrap_i64]; omega
  have hc2 : IntKind.i64.wrap (1 + a1) = 1 + a1 := by simp only [IntKind.wrap_i64]; omega
  have hc3 : IntKind.i64.wrap (1125899906842624 - a0) = 1125899906842624 - a0 := by simp only [IntKind.wrap_i64]; omega
  have hN : 1 ≤ 1 + a1 ∧ 1 + a1 ≤ 4294967296 := by omega
  have hT : 0 < 1125899906842624 - a0 ∧ 1125899906842624 - a0 ≤ 1125899906842624 := by omega
  have hG : (1125899906842624 - (1125899906842624 - a0) < 1 + a1) ↔ a0 < 1 + a1 := by omega
  have hG2 : (1125899906842624 < 1125899906842624 - a0 + (1 + a1)) ↔ a0 < 1 + a1 := by omega
  have hTN : (1125899906842624 - a0) + (1 + a1) ≤ 2251799813685248 ∧ 0 ≤ (1125899906842624 - a0) + (1 + a1) := by omega
  obtain ⟨n, hn⟩ : ∃ n, n = 1 + a1 := ⟨_, rfl⟩
  obtain ⟨t, ht⟩ : ∃ t, t = 1125899906842624 - a0 := ⟨_, rfl⟩
  rw [← hn] at hc2 hN hG hG2 hTN
  rw [← ht] at hc3 hT hG hG2 hTN
  have hwn : IntKind.i64.wrap (t + n) = t + n := by simp only [IntKind.wrap_i64]; omega
  have EN := Lib.hid hn
  have ET := Lib.hid ht
  have HGh := Lib.hid (And.intro hG hG2)
  have HTh := Lib.hid hT
  have HNh := Lib.hid hN
  rw [hn] at hc2
  rw [ht] at hc3
  clear wa0 wa1 hG hG2 hn ht hT hN a2 a4
  go_enter Try.func11, Try.ntmps11
  go_wp2_with fail
  refine (known_any _).mono ?_
  rintro e w1 ⟨rfl, hb⟩
  have HB1 := Lib.hid hb
  have hz1 := hb.size
  clear hb
  obtain ⟨W2, hW2⟩ : ∃ W2, W2 = (w1.alloc (.cells #[.string ⟨#[97]⟩, .int .i64 5] 27)).alloc (.cells #[.int .i64 2, .int .i64 t, .int .i64 0, .slice (some ⟨w1.heap.size, 0, none⟩) 1 1] 24) := ⟨_, rfl⟩
  have HW2 := Lib.hid hW2
  have HB2 : Hid (Below w.heap.size w W2) := Lib.hid (by rw [hW2]; exact (HB1.out.alloc hz1 _).alloc (by simp; omega) _)
  have HG6 : Hid (W2.heap[w1.heap.size + 1]? = some (.cells #[.int .i64 2, .int .i64 t, .int .i64 0, .slice (some ⟨w1.heap.size, 0, none⟩) 1 1] 24 (0, 0))) := Lib.hid (by rw [hW2]; exact blk_over _ _ _)
  have HS6 : Hid (SlV W2 (.slice (some ⟨w1.heap.size, 0, none⟩) 1 1) [(ka, 5)]) := Lib.hid ((one_lit w1 ka 5).below (by rw [hW2]; exact (Below.refl _ _).alloc (Nat.le_refl _) _))
  clear hW2
  go_wp2_with fail
  rw [← EN.out, ← ET.out, ← HW2.out]
  by_cases hov : a0 < n
  · have o1 := HGh.out.1.2 hov
    have o2 := HGh.out.2.2 hov
    have hgt : decide (a0 < 1 + a1) = true := by rw [← EN.out]; simpa using hov
    refine (add_b t n HTh.out HNh.out o1 _ _ HS6.out).mono ?_
    rintro e w3 ⟨⟨A3, c3, rfl, hs⟩, hb⟩
    have HB3 : Hid (Below W2.heap.size W2 w3) := Lib.hid hb
    have HS3 := Lib.hid hs
    clear hb hs
    have HC6 : Hid (∀ W, Below W2.heap.size W2 W → (W.cell? ⟨w1.heap.size + 1, 0, none⟩ = some (.int .i64 2) ∧ W.cell? ⟨w1.heap.size + 1, 1, none⟩ = some (.int .i64 t) ∧ W.cell? ⟨w1.heap.size + 1, 2, none⟩ = some (.int .i64 0) ∧ W.cell? ⟨w1.heap.size + 1, 3, none⟩ = some (.slice (some ⟨w1.heap.size, 0, none⟩) 1 1))) := Lib.hid (fun W h => by
      have hg := (h.block (w1.heap.size + 1) (Array.getElem?_eq_some_iff.1 HG6.out).1).trans HG6.out
      exact ⟨cell_of_row _ _ 0 _ _ _ hg, cell_of_row _ _ 1 _ _ _ hg, cell_of_row _ _ 2 _ _ _ hg, cell_of_row _ _ 3 _ _ _ hg⟩)
    obtain ⟨W5, hW5⟩ : ∃ W5, W5 = (w3.alloc (.cells #[.int .i64 0, .int .i64 0, .int .i64 0, .slice A3 0 c3] 24)).alloc (.cells #[.string ⟨#[98]⟩, .int .i64 1] 27) := ⟨_, rfl⟩
    have HW5 := Lib.hid hW5
    have HB35 : Hid (Below w3.heap.size w3 W5) := Lib.hid (by rw [hW5]; exact ((Below.refl _ _).alloc (Nat.le_refl _) _).alloc (by simp) _)
    have HB5 := Lib.hid (HB3.out.trans (HB35.out.mono HB3.out.size))
    have HG7 : Hid (W5.heap[w3.heap.size]? = some (.cells #[.int .i64 0, .int .i64 0, .int .i64 0, .slice A3 0 c3] 24 (0, 0))) := Lib.hid (by rw [hW5]; exact blk_under _ _ _)
    have HS5 : Hid (SlV W5 (.slice (some ⟨w3.heap.size + 1, 0, none⟩) 1 1) [(kb, 1)]) := Lib.hid (by
      rw [hW5]
      have := one_lit (w3.alloc (.cells #[.int .i64 0, .int .i64 0, .int .i64 0, .slice A3 0 c3] 24)) kb 1
      rwa [World.size_alloc] at this)
    have HS7 := Lib.hid (HS3.out.below HB35.out)
    clear hW5
    obtain ⟨q0, q1, q2, q3⟩ := HC6.out _ HB3.out
    obtain ⟨p0, p1, p2, p3⟩ := HC6.out (w3.alloc (.cells #[.int .i64 0, .int .i64 0, .int .i64 0, .slice A3 0 c3] 24)) (HB3.out.alloc HB3.out.size _)
    have hl6 : w1.heap.size + 1 < w3.heap.size := by have := (Array.getElem?_eq_some_iff.1 HG6.out).1; have := HB3.out.size; omega
    go_wp2_with fail
    try rw [← EN.out]
    rw [← HW5.out]
    refine (mrg_b t n HTh.out HNh.out o2 _ _ _ (HS6.out.below HB5.out) HS5.out).mono ?_
    rintro e w6 ⟨⟨A6, c6, rfl, hs⟩, hb⟩
    have HB6 : Hid (Below W5.heap.size W5 w6) := Lib.hid hb
    have HS66 := Lib.hid hs
    clear hb hs q0 q1 q2 q3 p0 p1 p2 p3
    obtain ⟨W7, hW7⟩ : ∃ W7, W7 = w6.alloc (.cells #[.int .i64 0, .int .i64 0, .int .i64 0, .slice A6 0 c6] 24) := ⟨_, rfl⟩
    have HW7 := Lib.hid hW7
    have HB67 : Hid (Below w6.heap.size w6 W7) := Lib.hid (by rw [hW7]; exact (Below.refl _ _).alloc (Nat.le_refl _) _)
    have HB7 := Lib.hid (HB6.out.trans (HB67.out.mono HB6.out.size))
    have HB72 := Lib.hid (HB5.out.trans (HB7.out.mono HB5.out.size))
    have HG9 : Hid (W7.heap[w6.heap.size]? = some (.cells #[.int .i64 0, .int .i64 0, .int .i64 0, .slice A6 0 c6] 24 (0, 0))) := Lib.hid (by rw [hW7]; exact Deep.blk_alloc_new _ _)
    have HG77 := Lib.hid ((HB7.out.block _ (Array.getElem?_eq_some_iff.1 HG7.out).1).trans HG7.out)
    have HS77 := Lib.hid (HS7.out.below HB7.out)
    have HS97 := Lib.hid (HS66.out.below HB67.out)
    have HC7 : Hid (∀ W, Below W7.heap.size W7 W → (W.heap[w3.heap.size]? = some (.cells #[.int .i64 0, .int .i64 0, .int .i64 0, .slice A3 0 c3] 24 (0, 0))) ∧ (W.heap[w6.heap.size]? = some (.cells #[.int .i64 0, .int .i64 0, .int .i64 0, .slice A6 0 c6] 24 (0, 0)))) := Lib.hid (fun W h => ⟨(h.block _ (Array.getElem?_eq_some_iff.1 HG77.out).1).trans HG77.out, (h.block _ (Array.getElem?_eq_some_iff.1 HG9.out).1).trans HG9.out⟩)
    clear hW7
    have g7 := (HC7.out _ (Below.refl _ _)).1
    have r0 := cell_of_row _ _ 0 _ _ _ g7
    have r1 := cell_of_row _ _ 1 _ _ _ g7
    have r2 := cell_of_row _ _ 2 _ _ _ g7
    have r3 := cell_of_row _ _ 3 _ _ _ g7
    have hl7 := (Array.getElem?_eq_some_iff.1 g7).1
    simp at r0 r1 r2 r3
    rw [HW7.out] at r0 r1 r2 r3 hl7
    clear g7
    go_wp2_with fail
    rw [← HW7.out]
    refine (eq_zero A3 c3 _ HS77.out).mono ?_
    rintro e w8 ⟨rfl, hb⟩
    have HB8 : Hid (Below W7.heap.size W7 w8) := Lib.hid hb
    clear hb r0 r1 r2 r3 hl7
    have g9 := (HC7.out _ HB8.out).2
    have r0 := cell_of_row _ _ 0 _ _ _ g9
    have r1 := cell_of_row _ _ 1 _ _ _ g9
    have r2 := cell_of_row _ _ 2 _ _ _ g9
    have r3 := cell_of_row _ _ 3 _ _ _ g9
    have hl9 := (Array.getElem?_eq_some_iff.1 g9).1
    simp at r0 r1 r2 r3
    clear g9
    go_wp2_with fail
    refine (eq_zero A6 c6 _ (HS97.out.below HB8.out)).mono ?_
    rintro e w9 ⟨rfl, hb⟩
    have HB9 : Hid (Below W7.heap.size W7 w9) := Lib.hid (HB8.out.trans (hb.mono HB8.out.size))
    clear hb
    go_wp2_with fail
    go_ret
    exact ⟨by first | rfl | simp, (HB2.out.trans (HB72.out.mono HB2.out.size)).trans (HB9.out.mono (Nat.le_trans HB2.out.size HB72.out.size))⟩
  · have o1 := fun h => hov (HGh.out.1.1 h)
    have o2 := fun h => hov (HGh.out.2.1 h)
    have hgt : decide (a0 < 1 + a1) = false := by rw [← EN.out]; simpa using hov
    refine (add_g t n HTh.out HNh.out o1 _ _ HS6.out).mono ?_
    rintro e w3 ⟨⟨A3, c3, rfl, hs⟩, hb⟩
    have HB3 : Hid (Below W2.heap.size W2 w3) := Lib.hid hb
    have HS3 := Lib.hid hs
    clear hb hs
    have HC6 : Hid (∀ W, Below W2.heap.size W2 W → (W.cell? ⟨w1.heap.size + 1, 0, none⟩ = some (.int .i64 2) ∧ W.cell? ⟨w1.heap.size + 1, 1, none⟩ = some (.int .i64 t) ∧ W.cell? ⟨w1.heap.size + 1, 2, none⟩ = some (.int .i64 0) ∧ W.cell? ⟨w1.heap.size + 1, 3, none⟩ = some (.slice (some ⟨w1.heap.size, 0, none⟩) 1 1))) := Lib.hid (fun W h => by
      have hg := (h.block (w1.heap.size + 1) (Array.getElem?_eq_some_iff.1 HG6.out).1).trans HG6.out
      exact ⟨cell_of_row _ _ 0 _ _ _ hg, cell_of_row _ _ 1 _ _ _ hg, cell_of_row _ _ 2 _ _ _ hg, cell_of_row _ _ 3 _ _ _ hg⟩)
    obtain ⟨W5, hW5⟩ : ∃ W5, W5 = (w3.alloc (.cells #[.int .i64 2, .int .i64 (t + n), .int .i64 0, .slice A3 2 c3] 24)).alloc (.cells #[.string ⟨#[98]⟩, .int .i64 1] 27) := ⟨_, rfl⟩
    have HW5 := Lib.hid hW5
    have HB35 : Hid (Below w3.heap.size w3 W5) := Lib.hid (by rw [hW5]; exact ((Below.refl _ _).alloc (Nat.le_refl _) _).alloc (by simp) _)
    have HB5 := Lib.hid (HB3.out.trans (HB35.out.mono HB3.out.size))
    have HG7 : Hid (W5.heap[w3.heap.size]? = some (.cells #[.int .i64 2, .int .i64 (t + n), .int .i64 0, .slice A3 2 c3] 24 (0, 0))) := Lib.hid (by rw [hW5]; exact blk_under _ _ _)
    have HS5 : Hid (SlV W5 (.slice (some ⟨w3.heap.size + 1, 0, none⟩) 1 1) [(kb, 1)]) := Lib.hid (by
      rw [hW5]
      have := one_lit (w3.alloc (.cells #[.int .i64 2, .int .i64 (t + n), .int .i64 0, .slice A3 2 c3] 24)) kb 1
      rwa [World.size_alloc] at this)
    have HS7 := Lib.hid (HS3.out.below HB35.out)
    clear hW5
    obtain ⟨q0, q1, q2, q3⟩ := HC6.out _ HB3.out
    obtain ⟨p0, p1, p2, p3⟩ := HC6.out (w3.alloc (.cells #[.int .i64 2, .int .i64 (t + n), .int .i64 0, .slice A3 2 c3] 24)) (HB3.out.alloc HB3.out.size _)
    have hl6 : w1.heap.size + 1 < w3.heap.size := by have := (Array.getElem?_eq_some_iff.1 HG6.out).1; have := HB3.out.size; omega
    go_wp2_with fail
    try rw [← EN.out]
    rw [← HW5.out]
    refine (mrg_g t n HTh.out HNh.out o2 _ _ _ (HS6.out.below HB5.out) HS5.out).mono ?_
    rintro e w6 ⟨⟨A6, c6, rfl, hs⟩, hb⟩
    have HB6 : Hid (Below W5.heap.size W5 w6) := Lib.hid hb
    have HS66 := Lib.hid hs
    clear hb hs q0 q1 q2 q3 p0 p1 p2 p3
    obtain ⟨W7, hW7⟩ : ∃ W7, W7 = w6.alloc (.cells #[.int .i64 2, .int .i64 (t + n), .int .i64 0, .slice A6 2 c6] 24) := ⟨_, rfl⟩
    have HW7 := Lib.hid hW7
    have HB67 : Hid (Below w6.heap.size w6 W7) := Lib.hid (by rw [hW7]; exact (Below.refl _ _).alloc (Nat.le_refl _) _)
    have HB7 := Lib.hid (HB6.out.trans (HB67.out.mono HB6.out.size))
    have HB72 := Lib.hid (HB5.out.trans (HB7.out.mono HB5.out.size))
    have HG9 : Hid (W7.heap[w6.heap.size]? = some (.cells #[.int .i64 2, .int .i64 (t + n), .int .i64 0, .slice A6 2 c6] 24 (0, 0))) := Lib.hid (by rw [hW7]; exact Deep.blk_alloc_new _ _)
    have HG77 := Lib.hid ((HB7.out.block _ (Array.getElem?_eq_some_iff.1 HG7.out).1).trans HG7.out)
    have HS77 := Lib.hid (HS7.out.below HB7.out)
    have HS97 := Lib.hid (HS66.out.below HB67.out)
    have HC7 : Hid (∀ W, Below W7.heap.size W7 W → (W.heap[w3.heap.size]? = some (.cells #[.int .i64 2, .int .i64 (t + n), .int .i64 0, .slice A3 2 c3] 24 (0, 0))) ∧ (W.heap[w6.heap.size]? = some (.cells #[.int .i64 2, .int .i64 (t + n), .int .i64 0, .slice A6 2 c6] 24 (0, 0)))) := Lib.hid (fun W h => ⟨(h.block _ (Array.getElem?_eq_some_iff.1 HG77.out).1).trans HG77.out, (h.block _ (Array.getElem?_eq_some_iff.1 HG9.out).1).trans HG9.out⟩)
    clear hW7
    go_wp2_with fail
    rw [← HW7.out]
    have HDw : Hid (∀ n, Below W7.heap.size W7 (W7.drewN n)) := Lib.hid (fun n => below_drewN (Below.refl _ _) n)
    have HCe : Hid (∀ W, Below W7.heap.size W7 W → W.cell? ⟨w1.heap.size + 1, 0, none⟩ = some (.int .i64 2) ∧ W.cell? ⟨w1.heap.size + 1, 1, none⟩ = some (.int .i64 t) ∧ W.cell? ⟨w1.heap.size + 1, 2, none⟩ = some (.int .i64 0) ∧ W.cell? ⟨w1.heap.size + 1, 3, none⟩ = some (.slice (some ⟨w1.heap.size, 0, none⟩) 1 1) ∧ W.cell? ⟨w3.heap.size, 0, none⟩ = some (.int .i64 2) ∧ W.cell? ⟨w3.heap.size, 1, none⟩ = some (.int .i64 (t + n)) ∧ W.cell? ⟨w3.heap.size, 2, none⟩ = some (.int .i64 0) ∧ W.cell? ⟨w3.heap.size, 3, none⟩ = some (.slice A3 2 c3) ∧ W.cell? ⟨w6.heap.size, 1, none⟩ = some (.int .i64 (t + n))) := Lib.hid (fun W h => by
      obtain ⟨g7, g9⟩ := HC7.out W h
      obtain ⟨z0, z1, z2, z3⟩ := HC6.out W (HB72.out.trans (h.mono HB72.out.size))
      exact ⟨z0, z1, z2, z3, cell_of_row _ _ 0 _ _ _ g7, cell_of_row _ _ 1 _ _ _ g7, cell_of_row _ _ 2 _ _ _ g7, cell_of_row _ _ 3 _ _ _ g7, cell_of_row _ _ 1 _ _ _ g9⟩)
    go_region_held3 (fun W => W.cell? ⟨w1.heap.size + 1, 0, none⟩ = some (.int .i64 2) ∧ W.cell? ⟨w1.heap.size + 1, 1, none⟩ = some (.int .i64 t) ∧ W.cell? ⟨w1.heap.size + 1, 2, none⟩ = some (.int .i64 0) ∧ W.cell? ⟨w1.heap.size + 1, 3, none⟩ = some (.slice (some ⟨w1.heap.size, 0, none⟩) 1 1) ∧ W.cell? ⟨w3.heap.size, 0, none⟩ = some (.int .i64 2) ∧ W.cell? ⟨w3.heap.size, 1, none⟩ = some (.int .i64 (t + n)) ∧ W.cell? ⟨w3.heap.size, 2, none⟩ = some (.int .i64 0) ∧ W.cell? ⟨w3.heap.size, 3, none⟩ = some (.slice A3 2 c3) ∧ W.cell? ⟨w6.heap.size, 1, none⟩ = some (.int .i64 (t + n)))
      (first | exact HCe.out _ HB9.out | exact HCe.out _ HB8.out | exact HCe.out _ (HDw.out _))
      ((first
        | (go_at_call 21; (refine (radd_x t n HTh.out HNh.out _ _ (HS6.out.below (HB72.out.trans ((HDw.out _).mono HB72.out.size)))).mono ?_); rintro e w8 ⟨⟨A8, c8, rfl, hs⟩, hb⟩; have HB8 := Lib.hid ((HDw.out _).trans (hb.mono (HDw.out _).size)); have HS8 := Lib.hid hs; clear hs hb)
        | (go_at_call 15; (refine (eq_same _ _ t n _ (HS77.out.below HB8.out) HS8.out).mono ?_); rintro e w9 ⟨rfl, hb⟩; have HB9 := Lib.hid (HB8.out.trans (hb.mono HB8.out.size)); clear hb)
        | fail))
    go_wp2_with fail
    go_ret
    exact ⟨by first | rfl | simp, (HB2.out.trans (HB72.out.mono HB2.out.size)).trans (HB9.out.mono (Nat.le_trans HB2.out.size HB72.out.size))⟩
set_option maxRecDepth 100000 in
theorem lifted (os : Os) (started : os.Started) (H : Type) (enc : TypeId × Value → H) :
    ReturnsInHanded {} Try.checked os 11 .any (Rows.heavyhitterOverflowsSpec.pre6 enc Try.prog Try.f11 Rows.heavyhitterOverflowsRow.domain false) (Rows.heavyhitterOverflowsSpec.post enc Try.prog Try.f11 false true false false) := by
  refine returnsInHanded_of_change (C := Try.checked) own started (by kernel_rfl) Try.func11
    (ChangeSpec.witness6 (enc := enc) (C := Try.checked) false ⟨#[], #[.int .u32 0, .int .u32 0], []⟩ 8 (by kernel_rfl) (by kernel_rfl) (by kernel_rfl) (by kernel_rfl)) ?_
  intro W base args ds gs before hval0 hW _ _
  have hval : ∀ (j : Nat) t v, Try.f11.params[j]? = some t → args[j]? = some v → Value.okWide Try.prog W .any base t v := hval0
  have hW' := hW
  obtain ⟨p, q, hA0, hV, rfl, _, _⟩ := hW
  have hA : DataW.TrodAll enc Try.prog W 0 (fun _ => true) true Try.f11.params.toList args.toList ds p := hA0
  rw [Try.params11] at hA hval
  obtain ⟨v0, vs0, d0, ds0, p0, q0, hargs0, rfl, rfl, h0, r0⟩ := trodAll_cons hA
  obtain ⟨v1, vs1, d1, ds1, p1, q1, hargs1, rfl, rfl, h1, r1⟩ := trodAll_cons r0
  obtain ⟨rfl, rfl, rfl⟩ := trodAll_nil r1
  obtain rfl : args = #[v0, v1] := by cases args; simp_all
  obtain ⟨rfl, rfl⟩ := trodVars_none hV
  obtain ⟨a0, rfl, rfl, rfl, wa0⟩ := open_int Try.underlying66 (hval 0 66 v0 rfl rfl) h0
  obtain ⟨a1, rfl, rfl, rfl, wa1⟩ := open_int Try.underlying66 (hval 1 66 v1 rfl rfl) h1
  clear hA0 hval0
  simp only [List.append_nil] at hW'
  refine (walk W a0 wa0 a1 wa1).mono fun e W' ⟨he, hb⟩ => ?_
  subst he
  exact ⟨_, rfl, post_mem hW' hb (fun _ _ _ => trodAll_mk1 (shut_bool Try.underlying4 _)) (fun _ _ => by
    exact trodAll_cons_mk (shut_int Try.underlying66 wa0) (trodAll_cons_mk (shut_int Try.underlying66 wa1) trodAll_mk0)) (fun _ => rfl) (ok_one (by kernel_rfl) rfl (okWide_bool_mk Try.underlying4 _))⟩

theorem proved : Rows.HeavyhitterOverflowsSaid :=
  OpenClaim.holds_of_wide 11 Try.f11 rfl rfl rfl rfl rfl rfl rfl ⟨rfl, rfl, rfl, rfl, rfl⟩ rfl rfl rfl rfl rfl (by kernel_rfl) Try.func11 (by kernel_rfl)
    (of_decide_eq_true (by kernel_rfl)) (by unfold Func.isWrapper; first | (rw [if_pos (by decide +kernel)]; kernel_rfl) | (rw [if_neg (by decide +kernel)]; exact ⟨rfl, rfl⟩))
    (fun os started H enc _ => lifted os started H enc)
end Go.Proofs.Ytgioaplminlmnaa.lawOverflows
