/- BottomkEstimates: for any setting and any keys the law returns true. -/
import Derived.Test.YtajainkaomkbjaaDx
import Derived.Lib.QuietBelow
namespace Go.Proofs.Ytajainkaomkbjaa.lawEstimates
open Go.Proofs.Ytajainkaomkbjaa Go.ChangeShapes Go.WideShapes Go.ChangeAt Go.RowKit Go.Joins Bt

theorem laidOut : laidOutB Try.prog = true := by kernel_rfl
set_option maxRecDepth 100000 in
set_option maxHeartbeats 8000000 in
theorem walk (w : World) (a b : Nat) (ha : a ≤ 255) (hb : b ≤ 255) (A : Option Addr) (c : Nat) (L : List Nat) (hl : L.length ≤ 9223372036854775807) (hs : ∀ x ∈ L, x ≤ 255) (hR : Rd u8N w A L) :
    Calls Try.prog 7 #[.agg #[.int .u8 (a : Int), .int .u8 (b : Int)], .slice A L.length c] w fun e w' => e = .returned (.bool true) ∧ Below w.heap.size w w' := by
  have HMa := Lib.hid (fun W h => made_any a b ha hb A c L hl hs W h)
  have HRa := Lib.hid hR
  obtain ⟨n, hn⟩ : ∃ n, n = 1 + a % 12 := ⟨_, rfl⟩
  have hn1 : 1 ≤ n ∧ n ≤ 12 := by omega
  rw [← hn] at HMa
  have hHb := hb_kys (b : Int) (txts L)
  have hS40 : (bld (kys (b : Int) (txts L))).length ≤ 40 := Nat.le_trans (bldk_len _ _) (txts_len L)
  obtain ⟨S, hS⟩ : ∃ S, S = bld (kys (b : Int) (txts L)) := ⟨_, rfl⟩
  rw [← hS] at HMa hHb hS40
  have HDi := Lib.hid (fun g W h => distinct_any g n (b : Int) (by omega) (by omega) S hHb W h)
  have HDr := Lib.hid (fun u W h => rdistinct_any n (b : Int) (by omega) (by omega) S (by omega) hHb u W h)
  have HKp := Lib.hid (fun u W h => kept_any n (b : Int) S (by omega) u W h)
  have HEx := Lib.hid (fun u W h => rexact_any n (b : Int) S (by omega) u W h)
  have HLe := Lib.hid (fun g W h => least_any (g := g) (n := (n : Int)) (sd := (b : Int)) (x := skt n S) W h (by have := skt_len n S; omega))
  have HEp := Lib.hid (fun g W h => exact_any (g := g) (n := (n : Int)) (sd := (b : Int)) (x := skt n S) W h)
  have HDe : Hid (S.length ≤ n → dstN n S = S.length) := Lib.hid (fun h => by unfold dstN; rw [if_pos h])
  have HTl : Hid ((S.take n).length = min n S.length) := Lib.hid (List.length_take)
  have HX1 : Hid ((skt n S).1.length = min n S.length) := Lib.hid (List.length_take)
  have HX2 : Hid ((skt n S).2 = decide (n < S.length)) := Lib.hid rfl
  obtain ⟨D, hD⟩ : ∃ D, D = dstN n S := ⟨_, rfl⟩
  rw [← hD] at HDi HDr HDe
  obtain ⟨l1, hl1⟩ : ∃ q, q = S.length := ⟨_, rfl⟩
  have HLa := Lib.hid hl1
  rw [← hl1] at HDe HTl HX1 HX2 HEx hS40
  rw [HX1.out, HX2.out] at HLe
  rw [HX2.out] at HEp
  obtain ⟨la, hla⟩ : ∃ q, q = L.length := ⟨_, rfl⟩
  rw [← hla] at HMa ⊢
  have HB : Hid (Below w.heap.size w (w.alloc (.cells #[.int .u8 (a : Int), .int .u8 (b : Int)] 23))) := Lib.hid ((Below.refl _ _).alloc (Nat.le_refl _) _)
  clear hR hl hs ha hb hn hHb hS hD hl1 hla
  go_enter Try.func7, Try.ntmps7
  go_wp2_with fail
  obtain ⟨w0, hw0⟩ : ∃ q, q = w.alloc (.cells #[.int .u8 (a : Int), .int .u8 (b : Int)] 23) := ⟨_, rfl⟩
  rw [← hw0] at HB ⊢
  clear hw0
  with_reducible refine (HMa.out _ (HRa.out.below HB.out)).mono ?_
  rintro e w1 ⟨⟨g1, u1, rfl, hgw, hsk, hst⟩, hb1⟩
  have hst0 := hst
  obtain ⟨v1, rfl, A1, c1, rfl, _⟩ := hst
  rw [← HLa.out] at hst0 ⊢
  have hb2 := hb1.alloc hb1.size (.cells #[.int .i64 (n : Int), .int .i64 (b : Int), .slice A1 l1 c1] 28)
  replace HB := Lib.hid (bz_call HB.out hb2)
  have HK1 := Lib.hid (hsk.below ((Below.refl _ _).alloc (Nat.le_refl _) (.cells #[.int .i64 (n : Int), .int .i64 (b : Int), .slice A1 l1 c1] 28)))
  have HU1 := Lib.hid (hst0.below ((Below.refl _ _).alloc (Nat.le_refl _) (.cells #[.int .i64 (n : Int), .int .i64 (b : Int), .slice A1 l1 c1] 28)))
  have HZ1 := Lib.hid (Deep.blk_alloc_new w1 (.cells #[.int .i64 (n : Int), .int .i64 (b : Int), .slice A1 l1 c1] 28))
  clear hb1 hb2 hsk hst0 hgw
  go_wp2_with fail
  obtain ⟨w2, hw2⟩ : ∃ q, q = w1.alloc (.cells #[.int .i64 (n : Int), .int .i64 (b : Int), .slice A1 l1 c1] 28) := ⟨_, rfl⟩
  obtain ⟨z1, hz1⟩ : ∃ q, q = w1.heap.size := ⟨_, rfl⟩
  rw [← hz1] at HZ1 ⊢
  rw [← hw2] at HB HK1 HU1 HZ1 ⊢
  clear hw2 hz1
  with_reducible refine (known_any _).mono ?_
  rintro e w3 ⟨rfl, hb⟩
  replace HK1 := Lib.hid (HK1.out.below hb)
  replace HU1 := Lib.hid (HU1.out.below hb)
  replace HZ1 := Lib.hid (blk_below HZ1.out hb)
  replace HB := Lib.hid (bz_call HB.out hb)
  clear hb
  have r0 := cell_of_row _ z1 0 _ _ _ HZ1.out
  have r1 := cell_of_row _ z1 1 _ _ _ HZ1.out
  have r2 := cell_of_row _ z1 2 _ _ _ HZ1.out
  simp at r0 r1 r2
  go_wp2_with fail
  with_reducible refine (HKp.out _ _ HU1.out).mono ?_
  rintro e w4 ⟨⟨v3, rfl, A3, c3, rfl, _⟩, hb⟩
  clear r0 r1 r2
  replace HK1 := Lib.hid (HK1.out.below hb)
  replace HU1 := Lib.hid (HU1.out.below hb)
  replace HZ1 := Lib.hid (blk_below HZ1.out hb)
  replace HB := Lib.hid (bz_call HB.out hb)
  rw [HTl.out]
  obtain ⟨ln, hln⟩ : ∃ q, q = min n l1 := ⟨_, rfl⟩
  rw [← hln] at HLe ⊢
  have HLn := Lib.hid hln
  clear hb hln
  have r0 := cell_of_row _ z1 0 _ _ _ HZ1.out
  have r1 := cell_of_row _ z1 1 _ _ _ HZ1.out
  have r2 := cell_of_row _ z1 2 _ _ _ HZ1.out
  simp at r0 r1 r2
  go_wp2_with fail
  with_reducible refine (HEx.out _ _ HU1.out).mono ?_
  rintro e w5 ⟨rfl, hb⟩
  clear r0 r1 r2
  replace HK1 := Lib.hid (HK1.out.below hb)
  replace HU1 := Lib.hid (HU1.out.below hb)
  replace HZ1 := Lib.hid (blk_below HZ1.out hb)
  replace HB := Lib.hid (bz_call HB.out hb)
  clear hb
  have r0 := cell_of_row _ z1 0 _ _ _ HZ1.out
  have r1 := cell_of_row _ z1 1 _ _ _ HZ1.out
  have r2 := cell_of_row _ z1 2 _ _ _ HZ1.out
  simp at r0 r1 r2
  have cG0 : ∀ d os, (Go.Sort.grow (redrawn w5 d) os).cell? ⟨z1, 0, none⟩ = some (.int .i64 (n : Int)) := fun d os => cell_regrown r0 d os
  have cG1 : ∀ d os, (Go.Sort.grow (redrawn w5 d) os).cell? ⟨z1, 1, none⟩ = some (.int .i64 (b : Int)) := fun d os => cell_regrown r1 d os
  have cG2 : ∀ d os, (Go.Sort.grow (redrawn w5 d) os).cell? ⟨z1, 2, none⟩ = some (.slice A1 l1 c1) := fun d os => cell_regrown r2 d os
  have C1 : Hid (∀ d os, Calls Try.prog 28 #[.pointer (some ⟨g1, 0, none⟩)] (Go.Sort.grow (redrawn w5 d) os) fun e w'' => e = .returned (.int .i64 (D : Int)) ∧ ∃ p : Regrown, w'' = Go.Sort.grow (redrawn w5 p.d) p.os) := Lib.hid (fun d os => Calls.regrown_of (HDi.out _ _ (HK1.out.below (below_regrown w5 d os))))
  have C2 : Hid (∀ d os, Calls Try.prog 29 #[.agg #[.int .i64 (n : Int), .int .i64 (b : Int), .slice A1 l1 c1]] (Go.Sort.grow (redrawn w5 d) os) fun e w'' => e = .returned (.int .i64 (D : Int)) ∧ ∃ p : Regrown, w'' = Go.Sort.grow (redrawn w5 p.d) p.os) := Lib.hid (fun d os => Calls.regrown_of (HDr.out _ _ (HU1.out.below (below_regrown w5 d os))))
  by_cases hS : l1 ≤ n
  · have d1 : (!decide (n < l1)) = true := by simp; exact hS
    have d2 : decide (n < l1) = false := by simp; exact hS
    have hln := HLn.out
    have hL : (ln : Int) + (if false = true then 1 else 0) = (l1 : Int) := by simp; omega
    have hD2 := HDe.out hS
    rw [d2, hL] at HLe
    rw [d2] at HEp
    rw [d1]
    have hlnI : (ln : Int) = (l1 : Int) := by omega
    obtain rfl : ln = l1 := by omega
    obtain rfl : D = ln := hD2
    have C3 : Hid (∀ d os, Calls Try.prog 30 #[.pointer (some ⟨g1, 0, none⟩)] (Go.Sort.grow (redrawn w5 d) os) fun e w'' => e = .returned (.int .i64 (D : Int)) ∧ ∃ p : Regrown, w'' = Go.Sort.grow (redrawn w5 p.d) p.os) := Lib.hid (fun d os => Calls.regrown_of ((HLe.out _ _ (HK1.out.below (below_regrown w5 d os))).mono (by rintro e w' ⟨rfl, rfl⟩; exact ⟨rfl, Below.refl _ _⟩)))
    have C4 : Hid (∀ d os, Calls Try.prog 31 #[.pointer (some ⟨g1, 0, none⟩)] (Go.Sort.grow (redrawn w5 d) os) fun e w'' => e = .returned (.bool true) ∧ ∃ p : Regrown, w'' = Go.Sort.grow (redrawn w5 p.d) p.os) := Lib.hid (fun d os => Calls.regrown_of ((HEp.out _ _ (HK1.out.below (below_regrown w5 d os))).mono (by rintro e w' ⟨rfl, rfl⟩; exact ⟨rfl, Below.refl _ _⟩)))
    clear hlnI hL d1 d2 hln hS HDi HDr HLe HEp HEx HKp HTl HX1 HX2 HDe HMa HRa
    go_wp2_with fail
    refine wp_region_quiet_below (by kernel_rfl) (by kernel_rfl) ?_
    repeat (go_big_quiet_step ((first | exact C1.out _ _ | exact C2.out _ _ | exact C3.out _ _ | exact C4.out _ _)))
    refine wpQuiet_nil ?_
    intro _ hw'
    obtain ⟨⟨dq, osq⟩, hw''⟩ := hw'
    subst hw''
    have HQ := Lib.hid (bz_call HB.out (below_regrown w5 dq osq))
    clear cG0 cG1 cG2 C1 C2 C3 C4
    generalize Go.Sort.grow (redrawn w5 dq) osq = wg at *
    go_wp2_with fail
    go_ret
    exact ⟨rfl, HQ.out⟩
  · have d1 : (!decide (n < l1)) = false := by simp; omega
    have d2 : decide (n < l1) = true := by simp; omega
    have hln := HLn.out
    have hL : (ln : Int) + (if true = true then 1 else 0) = (n : Int) + 1 := by simp; omega
    rw [d2, hL] at HLe
    rw [d2] at HEp
    rw [d1]
    obtain rfl : ln = n := by omega
    have w1' : IntKind.i64.wrap ((ln : Int) + 1) = (ln : Int) + 1 := by simp only [IntKind.wrap_i64]; omega
    have hle1 : (ln : Int) + 1 ≤ (l1 : Int) := by omega
    have C3 : Hid (∀ d os, Calls Try.prog 30 #[.pointer (some ⟨g1, 0, none⟩)] (Go.Sort.grow (redrawn w5 d) os) fun e w'' => e = .returned (.int .i64 ((ln : Int) + 1)) ∧ ∃ p : Regrown, w'' = Go.Sort.grow (redrawn w5 p.d) p.os) := Lib.hid (fun d os => Calls.regrown_of ((HLe.out _ _ (HK1.out.below (below_regrown w5 d os))).mono (by rintro e w' ⟨rfl, rfl⟩; exact ⟨rfl, Below.refl _ _⟩)))
    have C4 : Hid (∀ d os, Calls Try.prog 31 #[.pointer (some ⟨g1, 0, none⟩)] (Go.Sort.grow (redrawn w5 d) os) fun e w'' => e = .returned (.bool false) ∧ ∃ p : Regrown, w'' = Go.Sort.grow (redrawn w5 p.d) p.os) := Lib.hid (fun d os => Calls.regrown_of ((HEp.out _ _ (HK1.out.below (below_regrown w5 d os))).mono (by rintro e w' ⟨rfl, rfl⟩; exact ⟨rfl, Below.refl _ _⟩)))
    clear hL d1 d2 hln hS HDi HDr HLe HEp HEx HKp HTl HX1 HX2 HDe HMa HRa
    go_wp2_with fail
    refine wp_region_quiet_below (by kernel_rfl) (by kernel_rfl) ?_
    repeat (go_big_quiet_step ((first | exact C1.out _ _ | exact C2.out _ _ | exact C3.out _ _ | exact C4.out _ _)))
    refine wpQuiet_nil ?_
    intro _ hw'
    obtain ⟨⟨dq, osq⟩, hw''⟩ := hw'
    subst hw''
    have HQ := Lib.hid (bz_call HB.out (below_regrown w5 dq osq))
    clear cG0 cG1 cG2 C1 C2 C3 C4
    generalize Go.Sort.grow (redrawn w5 dq) osq = wg at *
    go_wp2_with fail
    go_ret
    exact ⟨rfl, HQ.out⟩
set_option maxRecDepth 100000 in
theorem lifted (os : Os) (started : os.Started) (H : Type) (enc : TypeId × Value → H) :
    ReturnsInHanded {} Try.checked os 7 .any (Rows.bottomkEstimatesSpec.pre6 enc Try.prog Try.f7 Rows.bottomkEstimatesRow.domain false) (Rows.bottomkEstimatesSpec.post enc Try.prog Try.f7 false true false false) := by
  refine returnsInHanded_of_change (C := Try.checked) own started (by kernel_rfl) Try.func7
    (ChangeSpec.witness6 (enc := enc) (C := Try.checked) false ⟨#[], #[.agg #[.int .u8 0, .int .u8 0], .slice none 0 0], []⟩ 8 (by kernel_rfl) (by kernel_rfl) (by kernel_rfl) (by kernel_rfl)) ?_
  intro W base args ds gs before hval0 hW _ _
  have hval : ∀ (j : Nat) t v, Try.f7.params[j]? = some t → args[j]? = some v → Value.okWide Try.prog W .any base t v := hval0
  have hW' := hW
  obtain ⟨p, q, hA0, hV, rfl, _, _⟩ := hW
  have hA : DataW.TrodAll enc Try.prog W 0 (fun _ => true) true Try.f7.params.toList args.toList ds p := hA0
  rw [Try.params7] at hA hval
  obtain ⟨v0, vs0, d0, ds0, p0, q0, hargs0, rfl, rfl, h0, r0⟩ := trodAll_cons hA
  obtain ⟨v1, vs1, d1, ds1, p1, q1, hargs1, rfl, rfl, h1, r1⟩ := trodAll_cons r0
  obtain ⟨rfl, rfl, rfl⟩ := trodAll_nil r1
  obtain rfl : args = #[v0, v1] := by cases args; simp_all
  obtain ⟨rfl, rfl⟩ := trodVars_none hV
  obtain ⟨a0, b0, rfl, rfl, rfl, ha0, hb0⟩ := open_setting (hval 0 23 v0 rfl rfl) h0
  have lt1 : ∀ x ∈ p1, x.block < W.heap.size := fun x hx => hW'.lt x (by simp [hx])
  obtain ⟨A1, c1, L1, rfl, hL1, hs1, hR1⟩ := open_u8s (hval 1 24 v1 rfl rfl) h1 lt1
  clear hA0 hval0
  simp only [List.append_nil] at hW'
  refine (walk W a0 b0 ha0 hb0 A1 c1 L1 hL1 hs1 hR1).mono fun e W' ⟨he, hb⟩ => ?_
  subst he
  exact ⟨_, rfl, post_mem hW' hb (fun _ _ _ => trodAll_mk1 (shut_bool Try.underlying4 _)) (fun sp hsp => by
    have t := trodAll_cons_mk (shut_setting ha0 hb0 _ sp) (trodAll_cons_mk (carry laidOut (by kernel_rfl) (of_decide_eq_true (by kernel_rfl)) h1 hb lt1 sp (fun x hx => hsp x (by simp [hx]))) trodAll_mk0)
    simp only [List.append_nil] at t
    exact t) (fun _ => rfl) (ok_one (by kernel_rfl) rfl (okWide_bool_mk Try.underlying4 _))⟩

theorem proved : Rows.BottomkEstimatesSaid :=
  OpenClaim.holds_of_wide 7 Try.f7 rfl rfl rfl rfl rfl rfl rfl ⟨rfl, rfl, rfl, rfl, rfl⟩ rfl rfl rfl rfl rfl (by kernel_rfl) Try.func7 (by kernel_rfl)
    (of_decide_eq_true (by kernel_rfl)) (by unfold Func.isWrapper; first | (rw [if_pos (by decide +kernel)]; kernel_rfl) | (rw [if_neg (by decide +kernel)]; exact ⟨rfl, rfl⟩))
    (fun os started H enc _ => lifted os started H enc)

end Go.Proofs.Ytajainkaomkbjaa.lawEstimates
