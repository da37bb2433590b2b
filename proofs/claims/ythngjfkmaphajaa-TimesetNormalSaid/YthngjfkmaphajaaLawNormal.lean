/- The statement TimesetNormal: for any intervals, the law returns true and changes nothing (written by wip/bin/gen_nrm.py). -/
import Derived.Test.YthngjfkmaphajaaRn
import Derived.Test.YthngjfkmaphajaaRow
namespace Go.Proofs.Ythngjfkmaphajaa
open Go.ChangeShapes Go.WideShapes Go.ChangeAt Go.RowKit Go.Joins Ts
set_option maxRecDepth 100000 in
/-- A slice of intervals that came in. -/
theorem open_ivs2 {H : Type} {enc : TypeId × Value → H} {W : World} {base : Nat} {v : Value} {d : DataW H} {p : List MemPlace} {r : Reach}
    (hv : Value.okWide Try.prog W r base 22 v) (h : DataW.Trod enc Try.prog W 0 (fun _ => true) true 22 v d p) (lt : ∀ x ∈ p, x.block < W.heap.size) :
    ∃ (A : Option Addr) (c : Nat) (L : List Iv), v = .slice A L.length c ∧ L.length ≤ 9223372036854775807 ∧ (∀ x ∈ L, IvOk x) ∧ Sl W (.slice A L.length c) L := by
  obtain ⟨A, c, L, rfl, h1, h2, h3⟩ := open_ivs hv h lt
  refine ⟨A, c, L, rfl, h1, h2, A, c, rfl, ?_⟩
  obtain ⟨fuel, hf⟩ := h
  rcases Deep.open_slice Try.underlying22 hf with ⟨e, _⟩ | ⟨a, n, c', m, n', D, Pl, e, _, hl, hm, _⟩
  · simp only [Value.cells, List.cons.injEq, Value.slice.injEq, and_true] at e
    obtain ⟨rfl, e2, rfl⟩ := e
    exact ⟨by omega, by omega, (fun _ => ⟨e2, rfl⟩), h3⟩
  · simp only [Value.cells, List.cons.injEq, Value.slice.injEq, and_true] at e
    obtain ⟨rfl, rfl, rfl⟩ := e
    unfold maxLen at hm
    exact ⟨hl, by omega, (fun h => by cases h), h3⟩
theorem of_in {L : List Iv} (h : allIn L = true) : allIn (ofL L) = true := by
  have hb := fun x hx => (inR_iff x).1 (List.all_eq_true.1 h x hx)
  refine List.all_eq_true.2 (fun x hx => (inR_iff x).2 ?_)
  have h1 := ofL_bd (lo := -1125899906842624) (hi := 1125899906842624) (fun y hy => ⟨(hb y hy).1.1, (hb y hy).2.2⟩) x hx
  have h2 := (ofL_spec L).1.1 x hx
  omega
theorem sl_nil (w : World) : Sl w (.slice none 0 0) [] := ⟨none, 0, rfl, Nat.le_refl _, by omega, (fun _ => ⟨rfl, rfl⟩), Rs.nil⟩
end Go.Proofs.Ythngjfkmaphajaa
namespace Go.Proofs.Ythngjfkmaphajaa.lawNormal
open Go.Proofs.Ythngjfkmaphajaa Go.ChangeShapes Go.WideShapes Go.ChangeAt Go.RowKit Go.Joins Ts

set_option maxRecDepth 100000 in
set_option maxHeartbeats 4000000 in
theorem walk (w : World) (A0 : Option Addr) (c0 : Nat) (L0 : List Iv) (_hL0 : L0.length ≤ 9223372036854775807) (_hs0 : ∀ x ∈ L0, IvOk x) (hR0 : Sl w (.slice A0 L0.length c0) L0) :
    Calls Try.prog 4 #[.slice A0 L0.length c0] w fun e w' => e = .returned (.bool true) ∧ Below w.heap.size w w' := by
  have Sl0 := Lib.hid hR0
  clear hR0
  by_cases h20 : L0.length ≤ 20
  · have h20' : ¬ (20 : Int) < (L0.length : Int) := by omega
    cases hin : allIn L0 with
    | true =>
      have hof := ofL_len L0
      have hin2 := of_in hin
      have hself := (ofL_self (ofL L0)).2 (ofL_spec L0).1
      have hck := (chk_ok hin2).2 (ofL_spec L0).1
      have hck2 : (chkL none L0 == 0) = decide (L0 = ofL L0) := by
        rw [Bool.eq_iff_iff, beq_iff_eq, decide_eq_true_iff, chk_ok hin, ← ofL_self]
        exact ⟨fun h => h.symm, fun h => h.symm⟩
      obtain ⟨M, hM⟩ : ∃ M, M = ofL L0 := ⟨_, rfl⟩
      obtain ⟨k, hk⟩ : ∃ k, k = chkL none L0 := ⟨_, rfl⟩
      rw [← hM] at hof hin2 hself hck hck2
      rw [← hk] at hck2
      have HM := Lib.hid hM
      have HK := Lib.hid hk
      have Hself := Lib.hid hself
      have Hck := Lib.hid hck
      have lM : M.length ≤ 1000000 := by omega
      have ll : L0.length ≤ 1000000 := by omega
      obtain ⟨z, hz⟩ : ∃ z, z = decide (L0 = M) := ⟨_, rfl⟩
      rw [← hz] at hck2
      have HZ := Lib.hid hz
      clear hM hk hself hck hz
      go_enter Try.func4, Try.ntmps4
      have Sl0 := Sl0
      go_wp2_with fail
      refine (known_any w).mono ?_
      rintro e w1 ⟨rfl, hb⟩
      have HB1 := Lib.hid hb
      have Sl1 := Lib.hid (Sl0.out.below hb)
      clear hb Sl0
      go_wp2_with fail
      refine (normal_ok (by omega) hin w1 Sl1.out).mono ?_
      rintro e w2 ⟨⟨vs, rfl, hr⟩, hb⟩
      rw [← HM.out] at hr
      have HB2 := Lib.hid (HB1.out.trans (hb.mono HB1.out.size))
      have Sl2 := Lib.hid (Sl1.out.below hb)
      have Ss2 := Lib.hid hr
      clear hb Sl1 hr
      go_wp2_with fail
      refine (ref_normal (by omega) w2 Sl2.out).mono ?_
      rintro e w3 ⟨hN, hb⟩
      rcases hN with ⟨_, vt, rfl, hr⟩ | ⟨hf, _⟩
      rotate_left
      · rw [hin] at hf; cases hf
      rw [← HM.out] at hr
      have HB3 := Lib.hid (HB2.out.trans (hb.mono HB2.out.size))
      have Sl3 := Lib.hid (Sl2.out.below hb)
      have Ss3 := Lib.hid (Ss2.out.below hb)
      have St3 := Lib.hid hr
      clear hb Sl2 Ss2 hr
      have h := eq_sl lM lM w3 Ss3.out St3.out
      rw [decide_eq_true rfl] at h
      have Hc := Lib.hid h
      clear h
      go_wp2_with fail
      refine Hc.out.mono ?_
      rintro e w4 ⟨rfl, hb⟩
      clear Hc
      have HB4 := Lib.hid (HB3.out.trans (hb.mono HB3.out.size))
      have Sl4 := Lib.hid (Sl3.out.below hb)
      have Ss4 := Lib.hid (Ss3.out.below hb)
      have St4 := Lib.hid (St3.out.below hb)
      clear hb Sl3 Ss3 St3
      clear St4
      go_wp2_with fail
      refine (normal_ok (by omega) hin2 w4 Ss4.out).mono ?_
      rintro e w5 ⟨⟨vg, rfl, hr⟩, hb⟩
      rw [Hself.out] at hr
      have HB5 := Lib.hid (HB4.out.trans (hb.mono HB4.out.size))
      have Sl5 := Lib.hid (Sl4.out.below hb)
      have Ss5 := Lib.hid (Ss4.out.below hb)
      have Sg5 := Lib.hid hr
      clear hb Sl4 Ss4 hr
      have h := eq_sl lM lM w5 Sg5.out Ss5.out
      rw [decide_eq_true rfl] at h
      have Hc := Lib.hid h
      clear h
      go_wp2_with fail
      refine Hc.out.mono ?_
      rintro e w6 ⟨rfl, hb⟩
      clear Hc
      have HB6 := Lib.hid (HB5.out.trans (hb.mono HB5.out.size))
      have Sl6 := Lib.hid (Sl5.out.below hb)
      have Ss6 := Lib.hid (Ss5.out.below hb)
      have Sg6 := Lib.hid (Sg5.out.below hb)
      clear hb Sl5 Ss5 Sg5
      clear Sg6
      have h := check_any (L := M) (by omega) w6 Ss6.out
      rw [Hck.out] at h
      have Hc := Lib.hid h
      clear h
      go_wp2_with fail
      refine Hc.out.mono ?_
      rintro e w7 ⟨rfl, hb⟩
      clear Hc
      have HB7 := Lib.hid (HB6.out.trans (hb.mono HB6.out.size))
      have Sl7 := Lib.hid (Sl6.out.below hb)
      have Ss7 := Lib.hid (Ss6.out.below hb)
      clear hb Sl6 Ss6
      have h := check_any (L := L0) (by omega) w7 Sl7.out
      rw [← HK.out] at h
      have Hc := Lib.hid h
      clear h
      go_wp2_with fail
      refine Hc.out.mono ?_
      rintro e w8 ⟨rfl, hb⟩
      clear Hc
      have HB8 := Lib.hid (HB7.out.trans (hb.mono HB7.out.size))
      have Sl8 := Lib.hid (Sl7.out.below hb)
      have Ss8 := Lib.hid (Ss7.out.below hb)
      clear hb Sl7 Ss7
      have h := eq_sl ll lM w8 Sl8.out Ss8.out
      rw [← HZ.out] at h
      have Hc := Lib.hid h
      clear h
      go_wp2_with fail
      refine Hc.out.mono ?_
      rintro e w9 ⟨rfl, hb⟩
      clear Hc
      have HB9 := Lib.hid (HB8.out.trans (hb.mono HB8.out.size))
      have Sl9 := Lib.hid (Sl8.out.below hb)
      have Ss9 := Lib.hid (Ss8.out.below hb)
      clear hb Sl8 Ss8
      go_wp2_with fail
      go_ret
      exact ⟨by simp, HB9.out⟩
    | false =>
      go_enter Try.func4, Try.ntmps4
      go_wp2_with fail
      refine (known_any w).mono ?_
      rintro e w1 ⟨rfl, hb⟩
      have HB1 := Lib.hid hb
      have Sl1 := Lib.hid (Sl0.out.below hb)
      clear hb Sl0
      go_wp2_with fail
      refine (normal_bad (by omega) hin w1 Sl1.out).mono ?_
      rintro e w2 ⟨rfl, hb⟩
      have HB2 := Lib.hid (HB1.out.trans (hb.mono HB1.out.size))
      have Sl2 := Lib.hid (Sl1.out.below hb)
      clear hb Sl1
      go_wp2_with fail
      refine (ref_normal (by omega) w2 Sl2.out).mono ?_
      rintro e w3 ⟨hN, hb⟩
      rcases hN with ⟨hf, _⟩ | ⟨_, rfl⟩
      · rw [hin] at hf; cases hf
      have HB3 := Lib.hid (HB2.out.trans (hb.mono HB2.out.size))
      have Sl3 := Lib.hid (Sl2.out.below hb)
      clear hb Sl2
      have h := eq_sl (L := []) (M := []) (by simp) (by simp) w3 (sl_nil _) (sl_nil _)
      rw [decide_eq_true rfl] at h
      have Hc := Lib.hid h
      clear h
      go_wp2_with fail
      refine Hc.out.mono ?_
      rintro e w4 ⟨rfl, hb⟩
      clear Hc
      have HB4 := Lib.hid (HB3.out.trans (hb.mono HB3.out.size))
      have Sl4 := Lib.hid (Sl3.out.below hb)
      clear hb Sl3
      go_wp2_with fail
      go_ret
      exact ⟨rfl, HB4.out⟩
  · skip
    have h20' : (20 : Int) < (L0.length : Int) := by omega
    go_enter Try.func4, Try.ntmps4
    go_wp2_with fail
    refine (known_any w).mono ?_
    rintro e w1 ⟨rfl, hb⟩
    have HB1 := Lib.hid hb
    have Sl1 := Lib.hid (Sl0.out.below hb)
    clear hb Sl0
    go_wp2_with fail
    refine (known_any w1).mono ?_
    rintro e w2 ⟨rfl, hb⟩
    have HB2 := Lib.hid (HB1.out.trans (hb.mono HB1.out.size))
    have Sl2 := Lib.hid (Sl1.out.below hb)
    clear hb Sl1
    go_wp2_with fail
    go_ret
    exact ⟨rfl, HB2.out⟩

set_option maxRecDepth 100000 in
theorem lifted (os : Os) (started : os.Started) (H : Type) (enc : TypeId × Value → H) :
    ReturnsInHanded {} Try.checked os 4 .any (Rows.timesetNormalSpec.pre6 enc Try.prog Try.f4 Rows.timesetNormalRow.domain false) (Rows.timesetNormalSpec.post enc Try.prog Try.f4 false true false false) := by
  refine returnsInHanded_of_change (C := Try.checked) own started (by kernel_rfl) Try.func4
    (ChangeSpec.witness6 (enc := enc) (C := Try.checked) false ⟨#[], #[.slice none 0 0], []⟩ 8 (by kernel_rfl) (by kernel_rfl) (by kernel_rfl) (by kernel_rfl)) ?_
  intro W base args ds gs before hval0 hW _ _
  have hval : ∀ (j : Nat) t v, Try.f4.params[j]? = some t → args[j]? = some v → Value.okWide Try.prog W .any base t v := hval0
  have hW' := hW
  obtain ⟨p, q, hA0, hV, rfl, _, _⟩ := hW
  have hA : DataW.TrodAll enc Try.prog W 0 (fun _ => true) true Try.f4.params.toList args.toList ds p := hA0
  rw [Try.params4] at hA hval
  obtain ⟨v0, vs0, d0, ds0, p0, q0, hargs0, rfl, rfl, h0, r0⟩ := trodAll_cons hA
  obtain ⟨rfl, rfl, rfl⟩ := trodAll_nil r0
  obtain rfl : args = #[v0] := by cases args; simp_all
  obtain ⟨rfl, rfl⟩ := trodVars_none hV
  have lt0 : ∀ x ∈ p0, x.block < W.heap.size := fun x hx => hW'.lt x (by simp [hx])
  obtain ⟨A0, c0, L0, rfl, hL0, hs0, hR0⟩ := open_ivs2 (hval 0 22 v0 rfl rfl) h0 lt0
  clear hA0 hval0
  simp only [List.append_nil] at hW'
  refine (walk W A0 c0 L0 hL0 hs0 hR0).mono fun e W' ⟨he, hb⟩ => ?_
  subst he
  exact ⟨_, rfl, post_mem hW' hb (fun _ _ _ => trodAll_mk1 (shut_bool Try.underlying4 _)) (fun sp hsp => by
    have t := trodAll_cons_mk (carry laidOut (by kernel_rfl) (of_decide_eq_true (by kernel_rfl)) h0 hb lt0 sp (fun x hx => hsp x (by simp [hx]))) trodAll_mk0
    simp only [List.append_nil] at t
    exact t) (fun _ => rfl) (ok_one (by kernel_rfl) rfl (okWide_bool_mk Try.underlying4 _))⟩

theorem proved : Rows.TimesetNormalSaid :=
  OpenClaim.holds_of_wide 4 Try.f4 rfl rfl rfl rfl rfl rfl rfl ⟨rfl, rfl, rfl, rfl, rfl⟩ rfl rfl rfl rfl rfl (by kernel_rfl) Try.func4 (by kernel_rfl)
    (of_decide_eq_true (by kernel_rfl)) (by unfold Func.isWrapper; first | (rw [if_pos (by decide +kernel)]; kernel_rfl) | (rw [if_neg (by decide +kernel)]; exact ⟨rfl, rfl⟩))
    (fun os started H enc _ => lifted os started H enc)
end Go.Proofs.Ythngjfkmaphajaa.lawNormal
