/- The statement TimesetGrows: for any spans and any two numbers, the law returns true and changes nothing (written by wip/bin/gen_grows.py). -/
import Derived.Test.YtkjpficpkpfkdaaGw
import Derived.Test.YtkjpficpkpfkdaaKn
namespace Go.Proofs.Ytkjpficpkpfkdaa.lawGrows
open Go.Proofs.Ytkjpficpkpfkdaa Go.ChangeShapes Go.WideShapes Go.ChangeAt Go.RowKit Go.Joins Ts

set_option maxRecDepth 100000 in
theorem wide_cl (n : Int) (w : World) : Calls Try.prog 43 #[.int .i64 n] w fun e w' => e = .returned (.bool (decide (n < -2251799813685248) || decide (2251799813685248 < n))) ∧ w' = w := by
  by_cases h : n < -2251799813685248
  · go_enter Try.func43, Try.ntmps43
    go_wp2_with fail
    go_ret
    exact ⟨by simp [h], rfl⟩
  · have h' : -2251799813685248 ≤ n := by omega
    go_enter Try.func43, Try.ntmps43
    go_wp2_with fail
    go_ret
    exact ⟨by rw [decide_eq_false (show ¬ n < -2251799813685248 by omega)]; rfl, rfl⟩
theorem wide_yes (n : Int) (h : n < -2251799813685248 ∨ 2251799813685248 < n) (w : World) : Calls Try.prog 43 #[.int .i64 n] w fun e w' => e = .returned (.bool true) ∧ w' = w := by
  have := wide_cl n w
  rw [show (decide (n < -2251799813685248) || decide (2251799813685248 < n)) = true by simp; omega] at this
  exact this
theorem wide_no (n : Int) (h1 : -2251799813685248 ≤ n) (h2 : n ≤ 2251799813685248) (w : World) : Calls Try.prog 43 #[.int .i64 n] w fun e w' => e = .returned (.bool false) ∧ w' = w := by
  have := wide_cl n w
  rw [show (decide (n < -2251799813685248) || decide (2251799813685248 < n)) = false by simp; omega] at this
  exact this
set_option maxRecDepth 100000 in
set_option maxHeartbeats 4000000 in
theorem walkA (w : World) (A0 : Option Addr) (c0 : Nat) (L0 : List (Int × Int)) (hL0 : L0.length ≤ 9223372036854775807) (hs0 : ∀ x ∈ L0, SpOk x) (hR0 : Rs w w.heap.size A0 (spCells L0)) (x y : Int) (hxb : -9223372036854775808 ≤ x ∧ x ≤ 9223372036854775807) (hx : x < -2251799813685248 ∨ 2251799813685248 < x) :
    Calls Try.prog 11 #[.slice A0 L0.length c0, .int .i64 x, .int .i64 y] w fun e w' => e = .returned (.bool true) ∧ Below w.heap.size w w' := by
  obtain ⟨l_s, hs⟩ : ∃ t, t = stL L0 := ⟨_, rfl⟩
  have HSets : Hid (∀ w' : World, Rs w' w'.heap.size A0 (spCells L0) → Calls Try.prog 19 #[.slice A0 L0.length c0] w' fun e w'' => (∃ r, e = .returned r ∧ Sl w'' r l_s) ∧ Below w'.heap.size w' w'') := Lib.hid (fun w' h => by rw [hs]; exact set_sl L0 hs0 w' A0 c0 hL0 h)
  have os : Ok 10 l_s := by rw [hs]; exact st_ok L0 hs0
  have oks := os.more (show 10 ≤ 1000 by omega)
  have ls : l_s.length ≤ 1000000 := by have := os.len; omega
  have Rs0 := Lib.hid hR0
  clear hs hR0 hs0
  have mds := mod_ok os
  have ls3 : l_s.length ≤ 1000 := by have := os.len; omega
  have HS1 := Lib.hid (fun (w' : World) (v : Value) (h : Sl w' v l_s) => shift_none l_s x hx w' v h)
  have HG1 := Lib.hid (fun (w' : World) (v : Value) (h : Sl w' v l_s) => grow_none l_s x y (by omega) w' v h)
  have HW1 := Lib.hid (wide_yes x hx)
  obtain ⟨z, hz⟩ : ∃ z, IntKind.i64.wrap (0 - x) = z := ⟨_, rfl⟩
  have hz2 : z < -2251799813685248 ∨ 2251799813685248 < z := by rw [← hz]; simp only [IntKind.wrap_i64]; omega
  have hz3 : IntKind.i64.wrap (-x) = z := by rw [← hz, Int.zero_sub]
  have HK1 := Lib.hid (fun (w' : World) (v : Value) (h : Sl w' v []) => shift_none [] z hz2 w' v h)
  clear mds hx hz2 ls3 oks os
  go_enter Try.func11, Try.ntmps11
  go_wp2_with fail
  refine (HSets.out w Rs0.out).mono ?_
  rintro e w1 ⟨⟨vs, rfl, hr⟩, hb⟩
  have HB1 := Lib.hid hb
  have Rs1 := Lib.hid ((Rs0.out.below hb).more hb.size)
  have Ss1 := Lib.hid hr
  clear hb Rs0 hr
  clear Rs1
  go_wp2_with fail
  refine (HS1.out w1 _ Ss1.out).mono ?_
  rintro e w2 ⟨⟨va, rfl, hr⟩, hb⟩
  have HB2 := Lib.hid (HB1.out.trans (hb.mono HB1.out.size))
  have Ss2 := Lib.hid (Ss1.out.below hb)
  have Sa2 := Lib.hid hr
  clear hb Ss1 hr
  go_wp2_with fail
  refine (HG1.out w2 _ Ss2.out).mono ?_
  rintro e w3 ⟨⟨vb, rfl, hr⟩, hb⟩
  have HB3 := Lib.hid (HB2.out.trans (hb.mono HB2.out.size))
  have Ss3 := Lib.hid (Ss2.out.below hb)
  have Sa3 := Lib.hid (Sa2.out.below hb)
  have Sb3 := Lib.hid hr
  clear hb Ss2 Sa2 hr
  go_wp2_with fail
  go_at_call 43
  refine (HW1.out _).mono ?_
  rintro e w' ⟨rfl, hw⟩
  have hw2 := hw.symm
  subst hw2
  clear hw
  go_wp2_with fail
  go_at_call 43
  refine (HW1.out _).mono ?_
  rintro e w' ⟨rfl, hw⟩
  have hw2 := hw.symm
  subst hw2
  clear hw
  have lz : ([] : List Iv).length ≤ 1000000 := by simp
  go_wp2_with fail
  refine (known_any w3).mono ?_
  rintro e w4 ⟨rfl, hb⟩
  have HB4 := Lib.hid (HB3.out.trans (hb.mono HB3.out.size))
  have Ss4 := Lib.hid (Ss3.out.below hb)
  have Sa4 := Lib.hid (Sa3.out.below hb)
  have Sb4 := Lib.hid (Sb3.out.below hb)
  clear hb Ss3 Sa3 Sb3
  have h := eq_sl (L := []) (M := []) (by simp) (by simp) w4 Sa4.out (sl_zero _)
  rw [decide_eq_true rfl] at h
  have Hc := Lib.hid h
  clear h
  go_wp2_with fail
  refine Hc.out.mono ?_
  rintro e w5 ⟨rfl, hb⟩
  clear Hc
  have HB5 := Lib.hid (HB4.out.trans (hb.mono HB4.out.size))
  have Ss5 := Lib.hid (Ss4.out.below hb)
  have Sa5 := Lib.hid (Sa4.out.below hb)
  have Sb5 := Lib.hid (Sb4.out.below hb)
  clear hb Ss4 Sa4 Sb4
  have h := eq_sl (L := []) (M := []) (by simp) (by simp) w5 Sb5.out (sl_zero _)
  rw [decide_eq_true rfl] at h
  have Hc := Lib.hid h
  clear h
  go_wp2_with fail
  refine Hc.out.mono ?_
  rintro e w6 ⟨rfl, hb⟩
  clear Hc
  have HB6 := Lib.hid (HB5.out.trans (hb.mono HB5.out.size))
  have Ss6 := Lib.hid (Ss5.out.below hb)
  have Sa6 := Lib.hid (Sa5.out.below hb)
  have Sb6 := Lib.hid (Sb5.out.below hb)
  clear hb Ss5 Sa5 Sb5
  clear Sb6
  go_wp2_with fail
  refine (HK1.out _ _ Sa6.out).mono ?_
  rintro e w7 ⟨⟨vk, rfl, hr⟩, hb⟩
  have HB7 := Lib.hid (HB6.out.trans (hb.mono HB6.out.size))
  have Ss7 := Lib.hid (Ss6.out.below hb)
  have Sa7 := Lib.hid (Sa6.out.below hb)
  have Sk7 := Lib.hid hr
  clear hb Ss6 Sa6 hr
  go_wp2_with fail
  go_ret
  exact ⟨by simp, HB7.out⟩
set_option maxRecDepth 100000 in
set_option maxHeartbeats 4000000 in
theorem walkB (w : World) (A0 : Option Addr) (c0 : Nat) (L0 : List (Int × Int)) (hL0 : L0.length ≤ 9223372036854775807) (hs0 : ∀ x ∈ L0, SpOk x) (hR0 : Rs w w.heap.size A0 (spCells L0)) (x y : Int) (hx1 : -2251799813685248 ≤ x) (hx2 : x ≤ 2251799813685248) (hy : y < -2251799813685248 ∨ 2251799813685248 < y) :
    Calls Try.prog 11 #[.slice A0 L0.length c0, .int .i64 x, .int .i64 y] w fun e w' => e = .returned (.bool true) ∧ Below w.heap.size w w' := by
  obtain ⟨l_s, hs⟩ : ∃ t, t = stL L0 := ⟨_, rfl⟩
  have HSets : Hid (∀ w' : World, Rs w' w'.heap.size A0 (spCells L0) → Calls Try.prog 19 #[.slice A0 L0.length c0] w' fun e w'' => (∃ r, e = .returned r ∧ Sl w'' r l_s) ∧ Below w'.heap.size w' w'') := Lib.hid (fun w' h => by rw [hs]; exact set_sl L0 hs0 w' A0 c0 hL0 h)
  have os : Ok 10 l_s := by rw [hs]; exact st_ok L0 hs0
  have oks := os.more (show 10 ≤ 1000 by omega)
  have ls : l_s.length ≤ 1000000 := by have := os.len; omega
  have Rs0 := Lib.hid hR0
  clear hs hR0 hs0
  have mds := mod_ok os
  have ls3 : l_s.length ≤ 1000 := by have := os.len; omega
  obtain ⟨K1, hK1⟩ : ∃ K, K = eG (grown x x l_s) := ⟨_, rfl⟩
  obtain ⟨M1, hM1⟩ : ∃ M, M = mG (grown x x l_s) := ⟨_, rfl⟩
  have hbk := back_res os x
  have lM1 : M1.length ≤ 1000 := by rw [hM1]; have h1 := mG_len (grown x x l_s); have h2 := grown_len x x l_s; omega
  have lz1 : M1.length ≤ 1000000 := by omega
  have mM1 : Mod M1 := by rw [hM1]; exact mG_mod _
  have HS1 : Hid (∀ (w' : World) (v : Value), Sl w' v l_s → Calls Try.prog 41 #[v, .int .i64 x] w' fun e w'' => Res w'' e K1 M1 ∧ Below w'.heap.size w' w'') := Lib.hid (fun w' v h => by rw [hK1, hM1]; exact shift_res mds ls3 x hx1 hx2 w' v h)
  obtain ⟨z, hz⟩ : ∃ z, z = -x := ⟨_, rfl⟩
  have hz1 : IntKind.i64.wrap z = z := by simp only [IntKind.wrap_i64]; omega
  have hz0 : (0 : Int) - x = z := by omega
  have HR1 : Hid (∀ (w' : World) (v : Value), Sl w' v l_s → Calls Try.prog 44 #[v, .int .i64 z, .int .i64 x] w' fun e w'' => Res w'' e K1 M1 ∧ Below w'.heap.size w' w'') := Lib.hid (fun w' v h => by rw [hK1, hM1]; exact refgrow_res os.nrm mds ls3 z x x hz (by omega) (by omega) (by omega) (by omega) (by omega) w' v h)
  rw [← hM1, ← hK1, ← hz] at hbk
  obtain ⟨K3, hK3⟩ : ∃ K, K = eG (grown z z M1) := ⟨_, rfl⟩
  obtain ⟨M3, hM3⟩ : ∃ M, M = mG (grown z z M1) := ⟨_, rfl⟩
  rw [← hM3, ← hK3] at hbk
  have HK1 : Hid (∀ (w' : World) (v : Value), Sl w' v M1 → Calls Try.prog 41 #[v, .int .i64 z] w' fun e w'' => Res w'' e K3 M3 ∧ Below w'.heap.size w' w'') := Lib.hid (fun w' v h => by rw [hK3, hM3]; exact shift_res mM1 lM1 z (by omega) (by omega) w' v h)
  have HG1 := Lib.hid (fun (w' : World) (v : Value) (h : Sl w' v l_s) => grow_none l_s x y (by omega) w' v h)
  have HW1 := Lib.hid (wide_no x hx1 hx2)
  have HW2 := Lib.hid (wide_yes y hy)
  clear hy
  have HBK := Lib.hid hbk
  clear hbk hK1 hM1 hK3 hM3 mM1 lM1 mds oks os ls3 hz
  go_enter Try.func11, Try.ntmps11
  go_wp2_with fail
  refine (HSets.out w Rs0.out).mono ?_
  rintro e w1 ⟨⟨vs, rfl, hr⟩, hb⟩
  have HB1 := Lib.hid hb
  have Rs1 := Lib.hid ((Rs0.out.below hb).more hb.size)
  have Ss1 := Lib.hid hr
  clear hb Rs0 hr
  clear Rs1
  go_wp2_with fail
  refine (HS1.out w1 _ Ss1.out).mono ?_
  rintro e w2 ⟨⟨va, rfl, hr⟩, hb⟩
  have HB2 := Lib.hid (HB1.out.trans (hb.mono HB1.out.size))
  have Ss2 := Lib.hid (Ss1.out.below hb)
  have Sa2 := Lib.hid hr
  clear hb Ss1 hr
  go_wp2_with fail
  refine (HG1.out w2 _ Ss2.out).mono ?_
  rintro e w3 ⟨⟨vb, rfl, hr⟩, hb⟩
  have HB3 := Lib.hid (HB2.out.trans (hb.mono HB2.out.size))
  have Ss3 := Lib.hid (Ss2.out.below hb)
  have Sa3 := Lib.hid (Sa2.out.below hb)
  have Sb3 := Lib.hid hr
  clear hb Ss2 Sa2 hr
  go_wp2_with fail
  go_at_call 43
  refine (HW1.out _).mono ?_
  rintro e w' ⟨rfl, hw⟩
  have hw2 := hw.symm
  subst hw2
  clear hw
  go_wp2_with fail
  refine (HR1.out w3 _ Ss3.out).mono ?_
  rintro e w4 ⟨⟨vm, rfl, hr⟩, hb⟩
  have HB4 := Lib.hid (HB3.out.trans (hb.mono HB3.out.size))
  have Ss4 := Lib.hid (Ss3.out.below hb)
  have Sa4 := Lib.hid (Sa3.out.below hb)
  have Sb4 := Lib.hid (Sb3.out.below hb)
  have Sm4 := Lib.hid hr
  clear hb Ss3 Sa3 Sb3 hr
  go_wp2_with fail
  go_at_call 43
  refine (HW1.out _).mono ?_
  rintro e w' ⟨rfl, hw⟩
  have hw2 := hw.symm
  subst hw2
  clear hw
  go_wp2_with fail
  go_at_call 43
  refine (HW2.out _).mono ?_
  rintro e w' ⟨rfl, hw⟩
  have hw2 := hw.symm
  subst hw2
  clear hw
  go_wp2_with fail
  refine (known_any w4).mono ?_
  rintro e w5 ⟨rfl, hb⟩
  have HB5 := Lib.hid (HB4.out.trans (hb.mono HB4.out.size))
  have Ss5 := Lib.hid (Ss4.out.below hb)
  have Sa5 := Lib.hid (Sa4.out.below hb)
  have Sb5 := Lib.hid (Sb4.out.below hb)
  have Sm5 := Lib.hid (Sm4.out.below hb)
  clear hb Ss4 Sa4 Sb4 Sm4
  have h := eq_sl lz1 lz1 w5 Sa5.out Sm5.out
  rw [decide_eq_true rfl] at h
  have Hc := Lib.hid h
  clear h
  go_wp2_with fail
  refine Hc.out.mono ?_
  rintro e w6 ⟨rfl, hb⟩
  clear Hc
  have HB6 := Lib.hid (HB5.out.trans (hb.mono HB5.out.size))
  have Ss6 := Lib.hid (Ss5.out.below hb)
  have Sa6 := Lib.hid (Sa5.out.below hb)
  have Sb6 := Lib.hid (Sb5.out.below hb)
  have Sm6 := Lib.hid (Sm5.out.below hb)
  clear hb Ss5 Sa5 Sb5 Sm5
  have h := eq_sl (L := []) (M := []) (by simp) (by simp) w6 Sb6.out (sl_zero _)
  rw [decide_eq_true rfl] at h
  have Hc := Lib.hid h
  clear h
  go_wp2_with fail
  refine Hc.out.mono ?_
  rintro e w7 ⟨rfl, hb⟩
  clear Hc
  have HB7 := Lib.hid (HB6.out.trans (hb.mono HB6.out.size))
  have Ss7 := Lib.hid (Ss6.out.below hb)
  have Sa7 := Lib.hid (Sa6.out.below hb)
  have Sb7 := Lib.hid (Sb6.out.below hb)
  have Sm7 := Lib.hid (Sm6.out.below hb)
  clear hb Ss6 Sa6 Sb6 Sm6
  clear Sb7
  clear Sm7
  go_wp2_with fail
  refine (HK1.out _ _ Sa7.out).mono ?_
  rintro e w8 ⟨⟨vk, rfl, hr⟩, hb⟩
  have HB8 := Lib.hid (HB7.out.trans (hb.mono HB7.out.size))
  have Ss8 := Lib.hid (Ss7.out.below hb)
  have Sa8 := Lib.hid (Sa7.out.below hb)
  have Sk8 := Lib.hid hr
  clear hb Ss7 Sa7 hr
  rcases HBK.out with ⟨rfl, rfl, rfl⟩ | rfl
  · skip
    have h := eq_sl ls ls w8 Sk8.out Ss8.out
    rw [decide_eq_true rfl] at h
    have Hc := Lib.hid h
    clear h
    go_wp2_with fail
    refine Hc.out.mono ?_
    rintro e w9 ⟨rfl, hb⟩
    clear Hc
    have HB9 := Lib.hid (HB8.out.trans (hb.mono HB8.out.size))
    have Ss9 := Lib.hid (Ss8.out.below hb)
    have Sa9 := Lib.hid (Sa8.out.below hb)
    have Sk9 := Lib.hid (Sk8.out.below hb)
    clear hb Ss8 Sa8 Sk8
    go_wp2_with fail
    go_ret
    exact ⟨by simp, HB9.out⟩
  · skip
    go_wp2_with fail
    go_ret
    exact ⟨by simp, HB8.out⟩
set_option maxRecDepth 100000 in
set_option maxHeartbeats 4000000 in
theorem walkC (w : World) (A0 : Option Addr) (c0 : Nat) (L0 : List (Int × Int)) (hL0 : L0.length ≤ 9223372036854775807) (hs0 : ∀ x ∈ L0, SpOk x) (hR0 : Rs w w.heap.size A0 (spCells L0)) (x y : Int) (hx1 : -2251799813685248 ≤ x) (hx2 : x ≤ 2251799813685248) (hy1 : -2251799813685248 ≤ y) (hy2 : y ≤ 2251799813685248) (hx3 : x < 0) :
    Calls Try.prog 11 #[.slice A0 L0.length c0, .int .i64 x, .int .i64 y] w fun e w' => e = .returned (.bool true) ∧ Below w.heap.size w w' := by
  obtain ⟨l_s, hs⟩ : ∃ t, t = stL L0 := ⟨_, rfl⟩
  have HSets : Hid (∀ w' : World, Rs w' w'.heap.size A0 (spCells L0) → Calls Try.prog 19 #[.slice A0 L0.length c0] w' fun e w'' => (∃ r, e = .returned r ∧ Sl w'' r l_s) ∧ Below w'.heap.size w' w'') := Lib.hid (fun w' h => by rw [hs]; exact set_sl L0 hs0 w' A0 c0 hL0 h)
  have os : Ok 10 l_s := by rw [hs]; exact st_ok L0 hs0
  have oks := os.more (show 10 ≤ 1000 by omega)
  have ls : l_s.length ≤ 1000000 := by have := os.len; omega
  have Rs0 := Lib.hid hR0
  clear hs hR0 hs0
  have mds := mod_ok os
  have ls3 : l_s.length ≤ 1000 := by have := os.len; omega
  obtain ⟨K1, hK1⟩ : ∃ K, K = eG (grown x x l_s) := ⟨_, rfl⟩
  obtain ⟨M1, hM1⟩ : ∃ M, M = mG (grown x x l_s) := ⟨_, rfl⟩
  have hbk := back_res os x
  have lM1 : M1.length ≤ 1000 := by rw [hM1]; have h1 := mG_len (grown x x l_s); have h2 := grown_len x x l_s; omega
  have lz1 : M1.length ≤ 1000000 := by omega
  have mM1 : Mod M1 := by rw [hM1]; exact mG_mod _
  have HS1 : Hid (∀ (w' : World) (v : Value), Sl w' v l_s → Calls Try.prog 41 #[v, .int .i64 x] w' fun e w'' => Res w'' e K1 M1 ∧ Below w'.heap.size w' w'') := Lib.hid (fun w' v h => by rw [hK1, hM1]; exact shift_res mds ls3 x hx1 hx2 w' v h)
  obtain ⟨z, hz⟩ : ∃ z, z = -x := ⟨_, rfl⟩
  have hz1 : IntKind.i64.wrap z = z := by simp only [IntKind.wrap_i64]; omega
  have hz0 : (0 : Int) - x = z := by omega
  have HR1 : Hid (∀ (w' : World) (v : Value), Sl w' v l_s → Calls Try.prog 44 #[v, .int .i64 z, .int .i64 x] w' fun e w'' => Res w'' e K1 M1 ∧ Below w'.heap.size w' w'') := Lib.hid (fun w' v h => by rw [hK1, hM1]; exact refgrow_res os.nrm mds ls3 z x x hz (by omega) (by omega) (by omega) (by omega) (by omega) w' v h)
  rw [← hM1, ← hK1, ← hz] at hbk
  obtain ⟨K3, hK3⟩ : ∃ K, K = eG (grown z z M1) := ⟨_, rfl⟩
  obtain ⟨M3, hM3⟩ : ∃ M, M = mG (grown z z M1) := ⟨_, rfl⟩
  rw [← hM3, ← hK3] at hbk
  have HK1 : Hid (∀ (w' : World) (v : Value), Sl w' v M1 → Calls Try.prog 41 #[v, .int .i64 z] w' fun e w'' => Res w'' e K3 M3 ∧ Below w'.heap.size w' w'') := Lib.hid (fun w' v h => by rw [hK3, hM3]; exact shift_res mM1 lM1 z (by omega) (by omega) w' v h)
  have HG1 := Lib.hid (fun (w' : World) (v : Value) (h : Sl w' v l_s) => grow_none l_s x y (by omega) w' v h)
  have HW1 := Lib.hid (wide_no x hx1 hx2)
  have HW2 := Lib.hid (wide_no y hy1 hy2)
  have HBK := Lib.hid hbk
  clear hbk hK1 hM1 hK3 hM3 mM1 lM1 mds oks os ls3 hz
  go_enter Try.func11, Try.ntmps11
  go_wp2_with fail
  refine (HSets.out w Rs0.out).mono ?_
  rintro e w1 ⟨⟨vs, rfl, hr⟩, hb⟩
  have HB1 := Lib.hid hb
  have Rs1 := Lib.hid ((Rs0.out.below hb).more hb.size)
  have Ss1 := Lib.hid hr
  clear hb Rs0 hr
  clear Rs1
  go_wp2_with fail
  refine (HS1.out w1 _ Ss1.out).mono ?_
  rintro e w2 ⟨⟨va, rfl, hr⟩, hb⟩
  have HB2 := Lib.hid (HB1.out.trans (hb.mono HB1.out.size))
  have Ss2 := Lib.hid (Ss1.out.below hb)
  have Sa2 := Lib.hid hr
  clear hb Ss1 hr
  go_wp2_with fail
  refine (HG1.out w2 _ Ss2.out).mono ?_
  rintro e w3 ⟨⟨vb, rfl, hr⟩, hb⟩
  have HB3 := Lib.hid (HB2.out.trans (hb.mono HB2.out.size))
  have Ss3 := Lib.hid (Ss2.out.below hb)
  have Sa3 := Lib.hid (Sa2.out.below hb)
  have Sb3 := Lib.hid hr
  clear hb Ss2 Sa2 hr
  go_wp2_with fail
  go_at_call 43
  refine (HW1.out _).mono ?_
  rintro e w' ⟨rfl, hw⟩
  have hw2 := hw.symm
  subst hw2
  clear hw
  go_wp2_with fail
  refine (HR1.out w3 _ Ss3.out).mono ?_
  rintro e w4 ⟨⟨vm, rfl, hr⟩, hb⟩
  have HB4 := Lib.hid (HB3.out.trans (hb.mono HB3.out.size))
  have Ss4 := Lib.hid (Ss3.out.below hb)
  have Sa4 := Lib.hid (Sa3.out.below hb)
  have Sb4 := Lib.hid (Sb3.out.below hb)
  have Sm4 := Lib.hid hr
  clear hb Ss3 Sa3 Sb3 hr
  go_wp2_with fail
  go_at_call 43
  refine (HW1.out _).mono ?_
  rintro e w' ⟨rfl, hw⟩
  have hw2 := hw.symm
  subst hw2
  clear hw
  go_wp2_with fail
  go_at_call 43
  refine (HW2.out _).mono ?_
  rintro e w' ⟨rfl, hw⟩
  have hw2 := hw.symm
  subst hw2
  clear hw
  go_wp2_with fail
  refine (known_any w4).mono ?_
  rintro e w5 ⟨rfl, hb⟩
  have HB5 := Lib.hid (HB4.out.trans (hb.mono HB4.out.size))
  have Ss5 := Lib.hid (Ss4.out.below hb)
  have Sa5 := Lib.hid (Sa4.out.below hb)
  have Sb5 := Lib.hid (Sb4.out.below hb)
  have Sm5 := Lib.hid (Sm4.out.below hb)
  clear hb Ss4 Sa4 Sb4 Sm4
  have h := eq_sl lz1 lz1 w5 Sa5.out Sm5.out
  rw [decide_eq_true rfl] at h
  have Hc := Lib.hid h
  clear h
  go_wp2_with fail
  refine Hc.out.mono ?_
  rintro e w6 ⟨rfl, hb⟩
  clear Hc
  have HB6 := Lib.hid (HB5.out.trans (hb.mono HB5.out.size))
  have Ss6 := Lib.hid (Ss5.out.below hb)
  have Sa6 := Lib.hid (Sa5.out.below hb)
  have Sb6 := Lib.hid (Sb5.out.below hb)
  have Sm6 := Lib.hid (Sm5.out.below hb)
  clear hb Ss5 Sa5 Sb5 Sm5
  have h := eq_sl (L := []) (M := []) (by simp) (by simp) w6 Sb6.out (sl_zero _)
  rw [decide_eq_true rfl] at h
  have Hc := Lib.hid h
  clear h
  go_wp2_with fail
  refine Hc.out.mono ?_
  rintro e w7 ⟨rfl, hb⟩
  clear Hc
  have HB7 := Lib.hid (HB6.out.trans (hb.mono HB6.out.size))
  have Ss7 := Lib.hid (Ss6.out.below hb)
  have Sa7 := Lib.hid (Sa6.out.below hb)
  have Sb7 := Lib.hid (Sb6.out.below hb)
  have Sm7 := Lib.hid (Sm6.out.below hb)
  clear hb Ss6 Sa6 Sb6 Sm6
  clear Sb7
  clear Sm7
  go_wp2_with fail
  refine (HK1.out _ _ Sa7.out).mono ?_
  rintro e w8 ⟨⟨vk, rfl, hr⟩, hb⟩
  have HB8 := Lib.hid (HB7.out.trans (hb.mono HB7.out.size))
  have Ss8 := Lib.hid (Ss7.out.below hb)
  have Sa8 := Lib.hid (Sa7.out.below hb)
  have Sk8 := Lib.hid hr
  clear hb Ss7 Sa7 hr
  rcases HBK.out with ⟨rfl, rfl, rfl⟩ | rfl
  · skip
    have h := eq_sl ls ls w8 Sk8.out Ss8.out
    rw [decide_eq_true rfl] at h
    have Hc := Lib.hid h
    clear h
    go_wp2_with fail
    refine Hc.out.mono ?_
    rintro e w9 ⟨rfl, hb⟩
    clear Hc
    have HB9 := Lib.hid (HB8.out.trans (hb.mono HB8.out.size))
    have Ss9 := Lib.hid (Ss8.out.below hb)
    have Sa9 := Lib.hid (Sa8.out.below hb)
    have Sk9 := Lib.hid (Sk8.out.below hb)
    clear hb Ss8 Sa8 Sk8
    go_wp2_with fail
    go_ret
    exact ⟨by simp, HB9.out⟩
  · skip
    go_wp2_with fail
    go_ret
    exact ⟨by simp, HB8.out⟩
set_option maxRecDepth 100000 in
set_option maxHeartbeats 4000000 in
theorem walkD (w : World) (A0 : Option Addr) (c0 : Nat) (L0 : List (Int × Int)) (hL0 : L0.length ≤ 9223372036854775807) (hs0 : ∀ x ∈ L0, SpOk x) (hR0 : Rs w w.heap.size A0 (spCells L0)) (x y : Int) (hx1 : -2251799813685248 ≤ x) (hx2 : x ≤ 2251799813685248) (hy1 : -2251799813685248 ≤ y) (hy2 : y ≤ 2251799813685248) (hx3 : 0 ≤ x) (hy3 : y < 0) :
    Calls Try.prog 11 #[.slice A0 L0.length c0, .int .i64 x, .int .i64 y] w fun e w' => e = .returned (.bool true) ∧ Below w.heap.size w w' := by
  obtain ⟨l_s, hs⟩ : ∃ t, t = stL L0 := ⟨_, rfl⟩
  have HSets : Hid (∀ w' : World, Rs w' w'.heap.size A0 (spCells L0) → Calls Try.prog 19 #[.slice A0 L0.length c0] w' fun e w'' => (∃ r, e = .returned r ∧ Sl w'' r l_s) ∧ Below w'.heap.size w' w'') := Lib.hid (fun w' h => by rw [hs]; exact set_sl L0 hs0 w' A0 c0 hL0 h)
  have os : Ok 10 l_s := by rw [hs]; exact st_ok L0 hs0
  have oks := os.more (show 10 ≤ 1000 by omega)
  have ls : l_s.length ≤ 1000000 := by have := os.len; omega
  have Rs0 := Lib.hid hR0
  clear hs hR0 hs0
  have mds := mod_ok os
  have ls3 : l_s.length ≤ 1000 := by have := os.len; omega
  obtain ⟨K1, hK1⟩ : ∃ K, K = eG (grown x x l_s) := ⟨_, rfl⟩
  obtain ⟨M1, hM1⟩ : ∃ M, M = mG (grown x x l_s) := ⟨_, rfl⟩
  have hbk := back_res os x
  have lM1 : M1.length ≤ 1000 := by rw [hM1]; have h1 := mG_len (grown x x l_s); have h2 := grown_len x x l_s; omega
  have lz1 : M1.length ≤ 1000000 := by omega
  have mM1 : Mod M1 := by rw [hM1]; exact mG_mod _
  have HS1 : Hid (∀ (w' : World) (v : Value), Sl w' v l_s → Calls Try.prog 41 #[v, .int .i64 x] w' fun e w'' => Res w'' e K1 M1 ∧ Below w'.heap.size w' w'') := Lib.hid (fun w' v h => by rw [hK1, hM1]; exact shift_res mds ls3 x hx1 hx2 w' v h)
  obtain ⟨z, hz⟩ : ∃ z, z = -x := ⟨_, rfl⟩
  have hz1 : IntKind.i64.wrap z = z := by simp only [IntKind.wrap_i64]; omega
  have hz0 : (0 : Int) - x = z := by omega
  have HR1 : Hid (∀ (w' : World) (v : Value), Sl w' v l_s → Calls Try.prog 44 #[v, .int .i64 z, .int .i64 x] w' fun e w'' => Res w'' e K1 M1 ∧ Below w'.heap.size w' w'') := Lib.hid (fun w' v h => by rw [hK1, hM1]; exact refgrow_res os.nrm mds ls3 z x x hz (by omega) (by omega) (by omega) (by omega) (by omega) w' v h)
  rw [← hM1, ← hK1, ← hz] at hbk
  obtain ⟨K3, hK3⟩ : ∃ K, K = eG (grown z z M1) := ⟨_, rfl⟩
  obtain ⟨M3, hM3⟩ : ∃ M, M = mG (grown z z M1) := ⟨_, rfl⟩
  rw [← hM3, ← hK3] at hbk
  have HK1 : Hid (∀ (w' : World) (v : Value), Sl w' v M1 → Calls Try.prog 41 #[v, .int .i64 z] w' fun e w'' => Res w'' e K3 M3 ∧ Below w'.heap.size w' w'') := Lib.hid (fun w' v h => by rw [hK3, hM3]; exact shift_res mM1 lM1 z (by omega) (by omega) w' v h)
  have HG1 := Lib.hid (fun (w' : World) (v : Value) (h : Sl w' v l_s) => grow_none l_s x y (by omega) w' v h)
  have HW1 := Lib.hid (wide_no x hx1 hx2)
  have HW2 := Lib.hid (wide_no y hy1 hy2)
  have HBK := Lib.hid hbk
  clear hbk hK1 hM1 hK3 hM3 mM1 lM1 mds oks os ls3 hz
  go_enter Try.func11, Try.ntmps11
  go_wp2_with fail
  refine (HSets.out w Rs0.out).mono ?_
  rintro e w1 ⟨⟨vs, rfl, hr⟩, hb⟩
  have HB1 := Lib.hid hb
  have Rs1 := Lib.hid ((Rs0.out.below hb).more hb.size)
  have Ss1 := Lib.hid hr
  clear hb Rs0 hr
  clear Rs1
  go_wp2_with fail
  refine (HS1.out w1 _ Ss1.out).mono ?_
  rintro e w2 ⟨⟨va, rfl, hr⟩, hb⟩
  have HB2 := Lib.hid (HB1.out.trans (hb.mono HB1.out.size))
  have Ss2 := Lib.hid (Ss1.out.below hb)
  have Sa2 := Lib.hid hr
  clear hb Ss1 hr
  go_wp2_with fail
  refine (HG1.out w2 _ Ss2.out).mono ?_
  rintro e w3 ⟨⟨vb, rfl, hr⟩, hb⟩
  have HB3 := Lib.hid (HB2.out.trans (hb.mono HB2.out.size))
  have Ss3 := Lib.hid (Ss2.out.below hb)
  have Sa3 := Lib.hid (Sa2.out.below hb)
  have Sb3 := Lib.hid hr
  clear hb Ss2 Sa2 hr
  go_wp2_with fail
  go_at_call 43
  refine (HW1.out _).mono ?_
  rintro e w' ⟨rfl, hw⟩
  have hw2 := hw.symm
  subst hw2
  clear hw
  go_wp2_with fail
  refine (HR1.out w3 _ Ss3.out).mono ?_
  rintro e w4 ⟨⟨vm, rfl, hr⟩, hb⟩
  have HB4 := Lib.hid (HB3.out.trans (hb.mono HB3.out.size))
  have Ss4 := Lib.hid (Ss3.out.below hb)
  have Sa4 := Lib.hid (Sa3.out.below hb)
  have Sb4 := Lib.hid (Sb3.out.below hb)
  have Sm4 := Lib.hid hr
  clear hb Ss3 Sa3 Sb3 hr
  go_wp2_with fail
  go_at_call 43
  refine (HW1.out _).mono ?_
  rintro e w' ⟨rfl, hw⟩
  have hw2 := hw.symm
  subst hw2
  clear hw
  go_wp2_with fail
  go_at_call 43
  refine (HW2.out _).mono ?_
  rintro e w' ⟨rfl, hw⟩
  have hw2 := hw.symm
  subst hw2
  clear hw
  go_wp2_with fail
  refine (known_any w4).mono ?_
  rintro e w5 ⟨rfl, hb⟩
  have HB5 := Lib.hid (HB4.out.trans (hb.mono HB4.out.size))
  have Ss5 := Lib.hid (Ss4.out.below hb)
  have Sa5 := Lib.hid (Sa4.out.below hb)
  have Sb5 := Lib.hid (Sb4.out.below hb)
  have Sm5 := Lib.hid (Sm4.out.below hb)
  clear hb Ss4 Sa4 Sb4 Sm4
  have h := eq_sl lz1 lz1 w5 Sa5.out Sm5.out
  rw [decide_eq_true rfl] at h
  have Hc := Lib.hid h
  clear h
  go_wp2_with fail
  refine Hc.out.mono ?_
  rintro e w6 ⟨rfl, hb⟩
  clear Hc
  have HB6 := Lib.hid (HB5.out.trans (hb.mono HB5.out.size))
  have Ss6 := Lib.hid (Ss5.out.below hb)
  have Sa6 := Lib.hid (Sa5.out.below hb)
  have Sb6 := Lib.hid (Sb5.out.below hb)
  have Sm6 := Lib.hid (Sm5.out.below hb)
  clear hb Ss5 Sa5 Sb5 Sm5
  have h := eq_sl (L := []) (M := []) (by simp) (by simp) w6 Sb6.out (sl_zero _)
  rw [decide_eq_true rfl] at h
  have Hc := Lib.hid h
  clear h
  go_wp2_with fail
  refine Hc.out.mono ?_
  rintro e w7 ⟨rfl, hb⟩
  clear Hc
  have HB7 := Lib.hid (HB6.out.trans (hb.mono HB6.out.size))
  have Ss7 := Lib.hid (Ss6.out.below hb)
  have Sa7 := Lib.hid (Sa6.out.below hb)
  have Sb7 := Lib.hid (Sb6.out.below hb)
  have Sm7 := Lib.hid (Sm6.out.below hb)
  clear hb Ss6 Sa6 Sb6 Sm6
  clear Sb7
  clear Sm7
  go_wp2_with fail
  refine (HK1.out _ _ Sa7.out).mono ?_
  rintro e w8 ⟨⟨vk, rfl, hr⟩, hb⟩
  have HB8 := Lib.hid (HB7.out.trans (hb.mono HB7.out.size))
  have Ss8 := Lib.hid (Ss7.out.below hb)
  have Sa8 := Lib.hid (Sa7.out.below hb)
  have Sk8 := Lib.hid hr
  clear hb Ss7 Sa7 hr
  rcases HBK.out with ⟨rfl, rfl, rfl⟩ | rfl
  · skip
    have h := eq_sl ls ls w8 Sk8.out Ss8.out
    rw [decide_eq_true rfl] at h
    have Hc := Lib.hid h
    clear h
    go_wp2_with fail
    refine Hc.out.mono ?_
    rintro e w9 ⟨rfl, hb⟩
    clear Hc
    have HB9 := Lib.hid (HB8.out.trans (hb.mono HB8.out.size))
    have Ss9 := Lib.hid (Ss8.out.below hb)
    have Sa9 := Lib.hid (Sa8.out.below hb)
    have Sk9 := Lib.hid (Sk8.out.below hb)
    clear hb Ss8 Sa8 Sk8
    go_wp2_with fail
    go_ret
    exact ⟨by simp, HB9.out⟩
  · skip
    go_wp2_with fail
    go_ret
    exact ⟨by simp, HB8.out⟩
set_option maxRecDepth 100000 in
set_option maxHeartbeats 4000000 in
theorem walkE (w : World) (A0 : Option Addr) (c0 : Nat) (L0 : List (Int × Int)) (hL0 : L0.length ≤ 9223372036854775807) (hs0 : ∀ x ∈ L0, SpOk x) (hR0 : Rs w w.heap.size A0 (spCells L0)) (x y : Int) (hx1 : -2251799813685248 ≤ x) (hx2 : x ≤ 2251799813685248) (hy2 : y ≤ 2251799813685248) (hx3 : 0 ≤ x) (hy3 : 0 ≤ y) :
    Calls Try.prog 11 #[.slice A0 L0.length c0, .int .i64 x, .int .i64 y] w fun e w' => e = .returned (.bool true) ∧ Below w.heap.size w w' := by
  obtain ⟨l_s, hs⟩ : ∃ t, t = stL L0 := ⟨_, rfl⟩
  have HSets : Hid (∀ w' : World, Rs w' w'.heap.size A0 (spCells L0) → Calls Try.prog 19 #[.slice A0 L0.length c0] w' fun e w'' => (∃ r, e = .returned r ∧ Sl w'' r l_s) ∧ Below w'.heap.size w' w'') := Lib.hid (fun w' h => by rw [hs]; exact set_sl L0 hs0 w' A0 c0 hL0 h)
  have os : Ok 10 l_s := by rw [hs]; exact st_ok L0 hs0
  have oks := os.more (show 10 ≤ 1000 by omega)
  have ls : l_s.length ≤ 1000000 := by have := os.len; omega
  have Rs0 := Lib.hid hR0
  clear hs hR0 hs0
  have mds := mod_ok os
  have ls3 : l_s.length ≤ 1000 := by have := os.len; omega
  obtain ⟨K1, hK1⟩ : ∃ K, K = eG (grown x x l_s) := ⟨_, rfl⟩
  obtain ⟨M1, hM1⟩ : ∃ M, M = mG (grown x x l_s) := ⟨_, rfl⟩
  have hbk := back_res os x
  have lM1 : M1.length ≤ 1000 := by rw [hM1]; have h1 := mG_len (grown x x l_s); have h2 := grown_len x x l_s; omega
  have lz1 : M1.length ≤ 1000000 := by omega
  have mM1 : Mod M1 := by rw [hM1]; exact mG_mod _
  have HS1 : Hid (∀ (w' : World) (v : Value), Sl w' v l_s → Calls Try.prog 41 #[v, .int .i64 x] w' fun e w'' => Res w'' e K1 M1 ∧ Below w'.heap.size w' w'') := Lib.hid (fun w' v h => by rw [hK1, hM1]; exact shift_res mds ls3 x hx1 hx2 w' v h)
  obtain ⟨z, hz⟩ : ∃ z, z = -x := ⟨_, rfl⟩
  have hz1 : IntKind.i64.wrap z = z := by simp only [IntKind.wrap_i64]; omega
  have hz0 : (0 : Int) - x = z := by omega
  have HR1 : Hid (∀ (w' : World) (v : Value), Sl w' v l_s → Calls Try.prog 44 #[v, .int .i64 z, .int .i64 x] w' fun e w'' => Res w'' e K1 M1 ∧ Below w'.heap.size w' w'') := Lib.hid (fun w' v h => by rw [hK1, hM1]; exact refgrow_res os.nrm mds ls3 z x x hz (by omega) (by omega) (by omega) (by omega) (by omega) w' v h)
  rw [← hM1, ← hK1, ← hz] at hbk
  obtain ⟨K3, hK3⟩ : ∃ K, K = eG (grown z z M1) := ⟨_, rfl⟩
  obtain ⟨M3, hM3⟩ : ∃ M, M = mG (grown z z M1) := ⟨_, rfl⟩
  rw [← hM3, ← hK3] at hbk
  have HK1 : Hid (∀ (w' : World) (v : Value), Sl w' v M1 → Calls Try.prog 41 #[v, .int .i64 z] w' fun e w'' => Res w'' e K3 M3 ∧ Below w'.heap.size w' w'') := Lib.hid (fun w' v h => by rw [hK3, hM3]; exact shift_res mM1 lM1 z (by omega) (by omega) w' v h)
  have hy1 : -2251799813685248 ≤ y := by omega
  have HW1 := Lib.hid (wide_no x hx1 hx2)
  have HW2 := Lib.hid (wide_no y hy1 hy2)
  obtain ⟨K2, hK2⟩ : ∃ K, K = eG (grown (-x) y l_s) := ⟨_, rfl⟩
  obtain ⟨M2, hM2⟩ : ∃ M, M = mG (grown (-x) y l_s) := ⟨_, rfl⟩
  have lz2 : M2.length ≤ 1000000 := by rw [hM2]; have h1 := mG_len (grown (-x) y l_s); have h2 := grown_len (-x) y l_s; omega
  have HG1 : Hid (∀ (w' : World) (v : Value), Sl w' v l_s → Calls Try.prog 42 #[v, .int .i64 x, .int .i64 y] w' fun e w'' => Res w'' e K2 M2 ∧ Below w'.heap.size w' w'') := Lib.hid (fun w' v h => by rw [hK2, hM2]; exact grow_res mds ls3 x y hx3 hx2 hy3 hy2 w' v h)
  have HR2 : Hid (∀ (w' : World) (v : Value), Sl w' v l_s → Calls Try.prog 44 #[v, .int .i64 x, .int .i64 y] w' fun e w'' => Res w'' e K2 M2 ∧ Below w'.heap.size w' w'') := Lib.hid (fun w' v h => by rw [hK2, hM2]; exact refgrow_res os.nrm mds ls3 x (-x) y (by omega) (by omega) (by omega) (by omega) (by omega) (by omega) w' v h)
  clear hK2 hM2
  have HBK := Lib.hid hbk
  clear hbk hK1 hM1 hK3 hM3 mM1 lM1 mds oks os ls3 hz
  go_enter Try.func11, Try.ntmps11
  go_wp2_with fail
  refine (HSets.out w Rs0.out).mono ?_
  rintro e w1 ⟨⟨vs, rfl, hr⟩, hb⟩
  have HB1 := Lib.hid hb
  have Rs1 := Lib.hid ((Rs0.out.below hb).more hb.size)
  have Ss1 := Lib.hid hr
  clear hb Rs0 hr
  clear Rs1
  go_wp2_with fail
  refine (HS1.out w1 _ Ss1.out).mono ?_
  rintro e w2 ⟨⟨va, rfl, hr⟩, hb⟩
  have HB2 := Lib.hid (HB1.out.trans (hb.mono HB1.out.size))
  have Ss2 := Lib.hid (Ss1.out.below hb)
  have Sa2 := Lib.hid hr
  clear hb Ss1 hr
  go_wp2_with fail
  refine (HG1.out w2 _ Ss2.out).mono ?_
  rintro e w3 ⟨⟨vb, rfl, hr⟩, hb⟩
  have HB3 := Lib.hid (HB2.out.trans (hb.mono HB2.out.size))
  have Ss3 := Lib.hid (Ss2.out.below hb)
  have Sa3 := Lib.hid (Sa2.out.below hb)
  have Sb3 := Lib.hid hr
  clear hb Ss2 Sa2 hr
  go_wp2_with fail
  go_at_call 43
  refine (HW1.out _).mono ?_
  rintro e w' ⟨rfl, hw⟩
  have hw2 := hw.symm
  subst hw2
  clear hw
  go_wp2_with fail
  refine (HR1.out w3 _ Ss3.out).mono ?_
  rintro e w4 ⟨⟨vm, rfl, hr⟩, hb⟩
  have HB4 := Lib.hid (HB3.out.trans (hb.mono HB3.out.size))
  have Ss4 := Lib.hid (Ss3.out.below hb)
  have Sa4 := Lib.hid (Sa3.out.below hb)
  have Sb4 := Lib.hid (Sb3.out.below hb)
  have Sm4 := Lib.hid hr
  clear hb Ss3 Sa3 Sb3 hr
  go_wp2_with fail
  go_at_call 43
  refine (HW1.out _).mono ?_
  rintro e w' ⟨rfl, hw⟩
  have hw2 := hw.symm
  subst hw2
  clear hw
  go_wp2_with fail
  go_at_call 43
  refine (HW2.out _).mono ?_
  rintro e w' ⟨rfl, hw⟩
  have hw2 := hw.symm
  subst hw2
  clear hw
  go_wp2_with fail
  refine (HR2.out w4 _ Ss4.out).mono ?_
  rintro e w5 ⟨⟨vg, rfl, hr⟩, hb⟩
  have HB5 := Lib.hid (HB4.out.trans (hb.mono HB4.out.size))
  have Ss5 := Lib.hid (Ss4.out.below hb)
  have Sa5 := Lib.hid (Sa4.out.below hb)
  have Sb5 := Lib.hid (Sb4.out.below hb)
  have Sm5 := Lib.hid (Sm4.out.below hb)
  have Sg5 := Lib.hid hr
  clear hb Ss4 Sa4 Sb4 Sm4 hr
  go_wp2_with fail
  refine (known_any w5).mono ?_
  rintro e w6 ⟨rfl, hb⟩
  have HB6 := Lib.hid (HB5.out.trans (hb.mono HB5.out.size))
  have Ss6 := Lib.hid (Ss5.out.below hb)
  have Sa6 := Lib.hid (Sa5.out.below hb)
  have Sb6 := Lib.hid (Sb5.out.below hb)
  have Sm6 := Lib.hid (Sm5.out.below hb)
  have Sg6 := Lib.hid (Sg5.out.below hb)
  clear hb Ss5 Sa5 Sb5 Sm5 Sg5
  have h := eq_sl lz1 lz1 w6 Sa6.out Sm6.out
  rw [decide_eq_true rfl] at h
  have Hc := Lib.hid h
  clear h
  go_wp2_with fail
  refine Hc.out.mono ?_
  rintro e w7 ⟨rfl, hb⟩
  clear Hc
  have HB7 := Lib.hid (HB6.out.trans (hb.mono HB6.out.size))
  have Ss7 := Lib.hid (Ss6.out.below hb)
  have Sa7 := Lib.hid (Sa6.out.below hb)
  have Sb7 := Lib.hid (Sb6.out.below hb)
  have Sm7 := Lib.hid (Sm6.out.below hb)
  have Sg7 := Lib.hid (Sg6.out.below hb)
  clear hb Ss6 Sa6 Sb6 Sm6 Sg6
  have h := eq_sl lz2 lz2 w7 Sb7.out Sg7.out
  rw [decide_eq_true rfl] at h
  have Hc := Lib.hid h
  clear h
  go_wp2_with fail
  refine Hc.out.mono ?_
  rintro e w8 ⟨rfl, hb⟩
  clear Hc
  have HB8 := Lib.hid (HB7.out.trans (hb.mono HB7.out.size))
  have Ss8 := Lib.hid (Ss7.out.below hb)
  have Sa8 := Lib.hid (Sa7.out.below hb)
  have Sb8 := Lib.hid (Sb7.out.below hb)
  have Sm8 := Lib.hid (Sm7.out.below hb)
  have Sg8 := Lib.hid (Sg7.out.below hb)
  clear hb Ss7 Sa7 Sb7 Sm7 Sg7
  clear Sb8
  clear Sg8
  clear Sm8
  go_wp2_with fail
  refine (HK1.out _ _ Sa8.out).mono ?_
  rintro e w9 ⟨⟨vk, rfl, hr⟩, hb⟩
  have HB9 := Lib.hid (HB8.out.trans (hb.mono HB8.out.size))
  have Ss9 := Lib.hid (Ss8.out.below hb)
  have Sa9 := Lib.hid (Sa8.out.below hb)
  have Sk9 := Lib.hid hr
  clear hb Ss8 Sa8 hr
  rcases HBK.out with ⟨rfl, rfl, rfl⟩ | rfl
  · skip
    have h := eq_sl ls ls w9 Sk9.out Ss9.out
    rw [decide_eq_true rfl] at h
    have Hc := Lib.hid h
    clear h
    go_wp2_with fail
    refine Hc.out.mono ?_
    rintro e w10 ⟨rfl, hb⟩
    clear Hc
    have HB10 := Lib.hid (HB9.out.trans (hb.mono HB9.out.size))
    have Ss10 := Lib.hid (Ss9.out.below hb)
    have Sa10 := Lib.hid (Sa9.out.below hb)
    have Sk10 := Lib.hid (Sk9.out.below hb)
    clear hb Ss9 Sa9 Sk9
    go_wp2_with fail
    go_ret
    exact ⟨by simp, HB10.out⟩
  · skip
    go_wp2_with fail
    go_ret
    exact ⟨by simp, HB9.out⟩
theorem walk (w : World) (A0 : Option Addr) (c0 : Nat) (L0 : List (Int × Int)) (hL0 : L0.length ≤ 9223372036854775807) (hs0 : ∀ x ∈ L0, SpOk x) (hR0 : Rs w w.heap.size A0 (spCells L0)) (x : Int) (_wx : (Lit.int .i64 x).wf = true) (y : Int) (_wy : (Lit.int .i64 y).wf = true) :
    Calls Try.prog 11 #[.slice A0 L0.length c0, .int .i64 x, .int .i64 y] w fun e w' => e = .returned (.bool true) ∧ Below w.heap.size w w' := by
  by_cases hx : x < -2251799813685248 ∨ 2251799813685248 < x
  · exact walkA w A0 c0 L0 hL0 hs0 hR0 x y (by have := bd64 _wx; omega) hx
  · by_cases hy : y < -2251799813685248 ∨ 2251799813685248 < y
    · exact walkB w A0 c0 L0 hL0 hs0 hR0 x y (by omega) (by omega) hy
    · by_cases hx3 : x < 0
      · exact walkC w A0 c0 L0 hL0 hs0 hR0 x y (by omega) (by omega) (by omega) (by omega) hx3
      · by_cases hy3 : y < 0
        · exact walkD w A0 c0 L0 hL0 hs0 hR0 x y (by omega) (by omega) (by omega) (by omega) (by omega) hy3
        · exact walkE w A0 c0 L0 hL0 hs0 hR0 x y (by omega) (by omega) (by omega) (by omega) (by omega)

set_option maxRecDepth 100000 in
theorem lifted (os : Os) (started : os.Started) (H : Type) (enc : TypeId × Value → H) :
    ReturnsInHanded {} Try.checked os 11 .any (Rows.timesetGrowsSpec.pre6 enc Try.prog Try.f11 Rows.timesetGrowsRow.domain false) (Rows.timesetGrowsSpec.post enc Try.prog Try.f11 false true false false) := by
  refine returnsInHanded_of_change (C := Try.checked) own started (by kernel_rfl) Try.func11
    (ChangeSpec.witness6 (enc := enc) (C := Try.checked) false ⟨#[], #[.slice none 0 0, .int .i64 0, .int .i64 0], []⟩ 8 (by kernel_rfl) (by kernel_rfl) (by kernel_rfl) (by kernel_rfl)) ?_
  intro W base args ds gs before hval0 hW _ _
  have hval : ∀ (j : Nat) t v, Try.f11.params[j]? = some t → args[j]? = some v → Value.okWide Try.prog W .any base t v := hval0
  have hW' := hW
  obtain ⟨p, q, hA0, hV, rfl, _, _⟩ := hW
  have hA : DataW.TrodAll enc Try.prog W 0 (fun _ => true) true Try.f11.params.toList args.toList ds p := hA0
  rw [Try.params11] at hA hval
  obtain ⟨v0, vs0, d0, ds0, p0, q0, hargs0, rfl, rfl, h0, r0⟩ := trodAll_cons hA
  obtain ⟨v1, vs1, d1, ds1, p1, q1, hargs1, rfl, rfl, h1, r1⟩ := trodAll_cons r0
  obtain ⟨v2, vs2, d2, ds2, p2, q2, hargs2, rfl, rfl, h2, r2⟩ := trodAll_cons r1
  obtain ⟨rfl, rfl, rfl⟩ := trodAll_nil r2
  obtain rfl : args = #[v0, v1, v2] := by cases args; simp_all
  obtain ⟨rfl, rfl⟩ := trodVars_none hV
  have lt0 : ∀ x ∈ p0, x.block < W.heap.size := fun x hx => hW'.lt x (by simp [hx])
  obtain ⟨A0, c0, L0, rfl, hL0, hs0, hR0⟩ := open_spns (hval 0 33 v0 rfl rfl) h0 lt0
  obtain ⟨a1, rfl, rfl, rfl, wa1⟩ := open_int Try.underlying3 (hval 1 3 v1 rfl rfl) h1
  obtain ⟨a2, rfl, rfl, rfl, wa2⟩ := open_int Try.underlying3 (hval 2 3 v2 rfl rfl) h2
  clear hA0 hval0
  simp only [List.append_nil] at hW'
  refine (walk W A0 c0 L0 hL0 hs0 hR0 a1 wa1 a2 wa2).mono fun e W' ⟨he, hb⟩ => ?_
  subst he
  exact ⟨_, rfl, post_mem hW' hb (fun _ _ _ => trodAll_mk1 (shut_bool Try.underlying4 _)) (fun sp hsp => by
    have t := trodAll_cons_mk (carry laidOut (by kernel_rfl) (of_decide_eq_true (by kernel_rfl)) h0 hb lt0 sp (fun x hx => hsp x (by simp [hx]))) (trodAll_cons_mk (shut_int Try.underlying3 wa1) (trodAll_cons_mk (shut_int Try.underlying3 wa2) trodAll_mk0))
    simp only [List.append_nil] at t
    exact t) (fun _ => rfl) (ok_one (by kernel_rfl) rfl (okWide_bool_mk Try.underlying4 _))⟩

theorem proved : Rows.TimesetGrowsSaid :=
  OpenClaim.holds_of_wide 11 Try.f11 rfl rfl rfl rfl rfl rfl rfl ⟨rfl, rfl, rfl, rfl, rfl⟩ rfl rfl rfl rfl rfl (by kernel_rfl) Try.func11 (by kernel_rfl)
    (of_decide_eq_true (by kernel_rfl)) (by unfold Func.isWrapper; first | (rw [if_pos (by decide +kernel)]; kernel_rfl) | (rw [if_neg (by decide +kernel)]; exact ⟨rfl, rfl⟩))
    (fun os started H enc _ => lifted os started H enc)
end Go.Proofs.Ytkjpficpkpfkdaa.lawGrows
