/- The statement TimesetCompares: for any spans of two sets and any number, the law returns true and changes nothing (written by wip/bin/gen_cmp.py). -/
import Derived.Test.YtkjpficpkpfkdaaCo
import Derived.Test.YtkjpficpkpfkdaaCp
import Derived.Test.YtkjpficpkpfkdaaEq
import Derived.Test.YtkjpficpkpfkdaaRow
namespace Go.Proofs.Ytkjpficpkpfkdaa.lawCompares
open Go.Proofs.Ytkjpficpkpfkdaa Go.ChangeShapes Go.WideShapes Go.ChangeAt Go.RowKit Go.Joins Ts

set_option maxRecDepth 100000 in
set_option maxHeartbeats 8000000 in
theorem walk (w : World) (A0 : Option Addr) (c0 : Nat) (L0 : List (Int × Int)) (hL0 : L0.length ≤ 9223372036854775807) (hs0 : ∀ x ∈ L0, SpOk x) (hR0 : Rs w w.heap.size A0 (spCells L0)) (A1 : Option Addr) (c1 : Nat) (L1 : List (Int × Int)) (hL1 : L1.length ≤ 9223372036854775807) (hs1 : ∀ x ∈ L1, SpOk x) (hR1 : Rs w w.heap.size A1 (spCells L1)) (n : Int) (_wn : (Lit.int .i64 n).wf = true) :
    Calls Try.prog 7 #[.slice A0 L0.length c0, .slice A1 L1.length c1, .int .i64 n] w fun e w' => e = .returned (.bool true) ∧ Below w.heap.size w w' := by
  obtain ⟨l_a, ha⟩ : ∃ t, t = stL L0 := ⟨_, rfl⟩
  have HSeta : Hid (∀ w' : World, Rs w' w'.heap.size A0 (spCells L0) → Calls Try.prog 19 #[.slice A0 L0.length c0] w' fun e w'' => (∃ r, e = .returned r ∧ Sl w'' r l_a) ∧ Below w'.heap.size w' w'') := Lib.hid (fun w' h => by rw [ha]; exact set_sl L0 hs0 w' A0 c0 hL0 h)
  have oa : Ok 10 l_a := by rw [ha]; exact st_ok L0 hs0
  have oka := oa.more (show 10 ≤ 1000 by omega)
  have la : l_a.length ≤ 1000000 := by have := oa.len; omega
  have Ra0 := Lib.hid hR0
  clear ha hR0 hs0
  obtain ⟨l_b, hb⟩ : ∃ t, t = stL L1 := ⟨_, rfl⟩
  have HSetb : Hid (∀ w' : World, Rs w' w'.heap.size A1 (spCells L1) → Calls Try.prog 19 #[.slice A1 L1.length c1] w' fun e w'' => (∃ r, e = .returned r ∧ Sl w'' r l_b) ∧ Below w'.heap.size w' w'') := Lib.hid (fun w' h => by rw [hb]; exact set_sl L1 hs1 w' A1 c1 hL1 h)
  have ob : Ok 10 l_b := by rw [hb]; exact st_ok L1 hs1
  have okb := ob.more (show 10 ≤ 1000 by omega)
  have lb : l_b.length ≤ 1000000 := by have := ob.len; omega
  have Rb0 := Lib.hid hR1
  clear hb hR1 hs1
  obtain ⟨l_i, hi⟩ : ∃ t, t = cmbL butF l_b l_a := ⟨_, rfl⟩
  have Hi := Lib.hid hi
  obtain ⟨l_j, hj⟩ : ∃ t, t = cmbL andF l_a l_b := ⟨_, rfl⟩
  have Hj := Lib.hid hj
  obtain ⟨x, hx⟩ : ∃ t, t = has n l_a := ⟨_, rfl⟩
  have Hx := Lib.hid hx
  obtain ⟨y, hy⟩ : ∃ t, t = decide (l_a = l_b) := ⟨_, rfl⟩
  have Hy := Lib.hid hy
  obtain ⟨z, hz⟩ : ∃ t, t = decide (l_i = []) := ⟨_, rfl⟩
  have hz2 : decide (((l_i.length : Nat) : Int) = 0) = z := by rw [hz]; cases l_i <;> simp <;> omega
  have hz3 : (((l_i.length : Nat) : Int) == 0) = z := by rw [← hz2]; rfl
  obtain ⟨u, hu⟩ : ∃ t, t = !decide (l_j = []) := ⟨_, rfl⟩
  have hu2 : decide (0 < ((l_j.length : Nat) : Int)) = u := by rw [hu]; cases l_j <;> simp <;> omega
  have hu3 : decide (0 < l_j.length) = u := by rw [hu]; cases l_j <;> simp
  have Hz := Lib.hid hz
  have Hu := Lib.hid hu
  have hself : cmbL butF l_a l_a = [] := by
    have h := but_ok oka oka
    exact nil_of_has h.nrm (fun n => by rw [has_but oka.nrm oka.nrm]; cases has n l_a <;> rfl)
  have Hself := Lib.hid hself
  clear hi hj hx hy hz hu hself oa ob
  go_enter Try.func7, Try.ntmps7
  go_wp2_with fail
  refine (HSeta.out w Ra0.out).mono ?_
  rintro e w1 ⟨⟨va, rfl, hr⟩, hb⟩
  have HB1 := Lib.hid hb
  have Ra1 := Lib.hid ((Ra0.out.below hb).more hb.size)
  have Rb1 := Lib.hid ((Rb0.out.below hb).more hb.size)
  have Sa1 := Lib.hid hr
  clear hb Ra0 Rb0 hr
  clear Ra1
  go_wp2_with fail
  refine (HSetb.out w1 Rb1.out).mono ?_
  rintro e w2 ⟨⟨vb, rfl, hr⟩, hb⟩
  have HB2 := Lib.hid (HB1.out.trans (hb.mono HB1.out.size))
  have Rb2 := Lib.hid ((Rb1.out.below hb).more hb.size)
  have Sa2 := Lib.hid (Sa1.out.below hb)
  have Sb2 := Lib.hid hr
  clear hb Rb1 Sa1 hr
  clear Rb2
  go_wp2_with fail
  refine (known_any w2).mono ?_
  rintro e w3 ⟨rfl, hb⟩
  have HB3 := Lib.hid (HB2.out.trans (hb.mono HB2.out.size))
  have Sa3 := Lib.hid (Sa2.out.below hb)
  have Sb3 := Lib.hid (Sb2.out.below hb)
  clear hb Sa2 Sb2
  have h := contains_sl oka n w3 Sa3.out
  rw [← Hx.out] at h
  have Hc := Lib.hid h
  clear h
  go_wp2_with fail
  refine Hc.out.mono ?_
  rintro e w4 ⟨rfl, hb⟩
  clear Hc
  have HB4 := Lib.hid (HB3.out.trans (hb.mono HB3.out.size))
  have Sa4 := Lib.hid (Sa3.out.below hb)
  have Sb4 := Lib.hid (Sb3.out.below hb)
  clear hb Sa3 Sb3
  have h := has_sl la n w4 Sa4.out
  rw [← Hx.out] at h
  have Hc := Lib.hid h
  clear h
  go_wp2_with fail
  refine Hc.out.mono ?_
  rintro e w5 ⟨rfl, hb⟩
  clear Hc
  have HB5 := Lib.hid (HB4.out.trans (hb.mono HB4.out.size))
  have Sa5 := Lib.hid (Sa4.out.below hb)
  have Sb5 := Lib.hid (Sb4.out.below hb)
  clear hb Sa4 Sb4
  have h := covers_sl oka okb w5 Sa5.out Sb5.out
  rw [← Hi.out, ← Hz.out] at h
  have Hc := Lib.hid h
  clear h
  go_wp2_with fail
  refine Hc.out.mono ?_
  rintro e w6 ⟨rfl, hb⟩
  clear Hc
  have HB6 := Lib.hid (HB5.out.trans (hb.mono HB5.out.size))
  have Sa6 := Lib.hid (Sa5.out.below hb)
  have Sb6 := Lib.hid (Sb5.out.below hb)
  clear hb Sa5 Sb5
  go_wp2_with fail
  refine (rcomb_but okb oka w6 Sb6.out Sa6.out).mono ?_
  rintro e w7 ⟨⟨vi, rfl, hr⟩, hb⟩
  rw [← Hi.out] at hr
  have HB7 := Lib.hid (HB6.out.trans (hb.mono HB6.out.size))
  have Sa7 := Lib.hid (Sa6.out.below hb)
  have Sb7 := Lib.hid (Sb6.out.below hb)
  have Si7 := Lib.hid hr
  clear hb Sa6 Sb6 hr
  obtain ⟨Ai, ci, rfl, _, _, _, _⟩ := Si7.out
  clear Si7
  have h := overlaps_sl oka okb w7 Sa7.out Sb7.out
  rw [← Hj.out, ← Hu.out] at h
  have Hc := Lib.hid h
  clear h
  go_wp2_with fail
  refine Hc.out.mono ?_
  rintro e w8 ⟨rfl, hb⟩
  clear Hc
  have HB8 := Lib.hid (HB7.out.trans (hb.mono HB7.out.size))
  have Sa8 := Lib.hid (Sa7.out.below hb)
  have Sb8 := Lib.hid (Sb7.out.below hb)
  clear hb Sa7 Sb7
  go_wp2_with fail
  refine (rcomb_and oka okb w8 Sa8.out Sb8.out).mono ?_
  rintro e w9 ⟨⟨vj, rfl, hr⟩, hb⟩
  rw [← Hj.out] at hr
  have HB9 := Lib.hid (HB8.out.trans (hb.mono HB8.out.size))
  have Sa9 := Lib.hid (Sa8.out.below hb)
  have Sb9 := Lib.hid (Sb8.out.below hb)
  have Sj9 := Lib.hid hr
  clear hb Sa8 Sb8 hr
  obtain ⟨Aj, cj, rfl, _, _, _, _⟩ := Sj9.out
  clear Sj9
  have h := equal_sl la lb w9 Sa9.out Sb9.out
  rw [← Hy.out] at h
  have Hc := Lib.hid h
  clear h
  go_wp2_with fail
  refine Hc.out.mono ?_
  rintro e w10 ⟨rfl, hb⟩
  clear Hc
  have HB10 := Lib.hid (HB9.out.trans (hb.mono HB9.out.size))
  have Sa10 := Lib.hid (Sa9.out.below hb)
  have Sb10 := Lib.hid (Sb9.out.below hb)
  clear hb Sa9 Sb9
  have h := eq_sl la lb w10 Sa10.out Sb10.out
  rw [← Hy.out] at h
  have Hc := Lib.hid h
  clear h
  go_wp2_with fail
  refine Hc.out.mono ?_
  rintro e w11 ⟨rfl, hb⟩
  clear Hc
  have HB11 := Lib.hid (HB10.out.trans (hb.mono HB10.out.size))
  have Sa11 := Lib.hid (Sa10.out.below hb)
  have Sb11 := Lib.hid (Sb10.out.below hb)
  clear hb Sa10 Sb10
  have h := covers_sl oka oka w11 Sa11.out Sa11.out
  rw [decide_eq_true Hself.out] at h
  have Hc := Lib.hid h
  clear h
  go_wp2_with fail
  refine Hc.out.mono ?_
  rintro e w12 ⟨rfl, hb⟩
  clear Hc
  have HB12 := Lib.hid (HB11.out.trans (hb.mono HB11.out.size))
  have Sa12 := Lib.hid (Sa11.out.below hb)
  have Sb12 := Lib.hid (Sb11.out.below hb)
  clear hb Sa11 Sb11
  have h := equal_sl la la w12 Sa12.out Sa12.out
  rw [decide_eq_true rfl] at h
  have Hc := Lib.hid h
  clear h
  go_wp2_with fail
  refine Hc.out.mono ?_
  rintro e w13 ⟨rfl, hb⟩
  clear Hc
  have HB13 := Lib.hid (HB12.out.trans (hb.mono HB12.out.size))
  have Sa13 := Lib.hid (Sa12.out.below hb)
  have Sb13 := Lib.hid (Sb12.out.below hb)
  clear hb Sa12 Sb12
  go_wp2_with fail
  go_ret
  exact ⟨by simp, HB13.out⟩

set_option maxRecDepth 100000 in
theorem lifted (os : Os) (started : os.Started) (H : Type) (enc : TypeId × Value → H) :
    ReturnsInHanded {} Try.checked os 7 .any (Rows.timesetComparesSpec.pre6 enc Try.prog Try.f7 Rows.timesetComparesRow.domain false) (Rows.timesetComparesSpec.post enc Try.prog Try.f7 false true false false) := by
  refine returnsInHanded_of_change (C := Try.checked) own started (by kernel_rfl) Try.func7
    (ChangeSpec.witness6 (enc := enc) (C := Try.checked) false ⟨#[], #[.slice none 0 0, .slice none 0 0, .int .i64 0], []⟩ 8 (by kernel_rfl) (by kernel_rfl) (by kernel_rfl) (by kernel_rfl)) ?_
  intro W base args ds gs before hval0 hW _ _
  have hval : ∀ (j : Nat) t v, Try.f7.params[j]? = some t → args[j]? = some v → Value.okWide Try.prog W .any base t v := hval0
  have hW' := hW
  obtain ⟨p, q, hA0, hV, rfl, _, _⟩ := hW
  have hA : DataW.TrodAll enc Try.prog W 0 (fun _ => true) true Try.f7.params.toList args.toList ds p := hA0
  rw [Try.params7] at hA hval
  obtain ⟨v0, vs0, d0, ds0, p0, q0, hargs0, rfl, rfl, h0, r0⟩ := trodAll_cons hA
  obtain ⟨v1, vs1, d1, ds1, p1, q1, hargs1, rfl, rfl, h1, r1⟩ := trodAll_cons r0
  obtain ⟨v2, vs2, d2, ds2, p2, q2, hargs2, rfl, rfl, h2, r2⟩ := trodAll_cons r1
  obtain ⟨rfl, rfl, rfl⟩ := trodAll_nil r2
  obtain rfl : args = #[v0, v1, v2] := by cases args; simp_all
  obtain ⟨rfl, rfl⟩ := trodVars_none hV
  have lt0 : ∀ x ∈ p0, x.block < W.heap.size := fun x hx => hW'.lt x (by simp [hx])
  obtain ⟨A0, c0, L0, rfl, hL0, hs0, hR0⟩ := open_spns (hval 0 33 v0 rfl rfl) h0 lt0
  have lt1 : ∀ x ∈ p1, x.block < W.heap.size := fun x hx => hW'.lt x (by simp [hx])
  obtain ⟨A1, c1, L1, rfl, hL1, hs1, hR1⟩ := open_spns (hval 1 33 v1 rfl rfl) h1 lt1
  obtain ⟨a2, rfl, rfl, rfl, wa2⟩ := open_int Try.underlying3 (hval 2 3 v2 rfl rfl) h2
  clear hA0 hval0
  simp only [List.append_nil] at hW'
  refine (walk W A0 c0 L0 hL0 hs0 hR0 A1 c1 L1 hL1 hs1 hR1 a2 wa2).mono fun e W' ⟨he, hb⟩ => ?_
  subst he
  exact ⟨_, rfl, post_mem hW' hb (fun _ _ _ => trodAll_mk1 (shut_bool Try.underlying4 _)) (fun sp hsp => by
    have t := trodAll_cons_mk (carry laidOut (by kernel_rfl) (of_decide_eq_true (by kernel_rfl)) h0 hb lt0 sp (fun x hx => hsp x (by simp [hx]))) (trodAll_cons_mk (carry laidOut (by kernel_rfl) (of_decide_eq_true (by kernel_rfl)) h1 hb lt1 sp (fun x hx => hsp x (by simp [hx]))) (trodAll_cons_mk (shut_int Try.underlying3 wa2) trodAll_mk0))
    simp only [List.append_nil] at t
    exact t) (fun _ => rfl) (ok_one (by kernel_rfl) rfl (okWide_bool_mk Try.underlying4 _))⟩

theorem proved : Rows.TimesetComparesSaid :=
  OpenClaim.holds_of_wide 7 Try.f7 rfl rfl rfl rfl rfl rfl rfl ⟨rfl, rfl, rfl, rfl, rfl⟩ rfl rfl rfl rfl rfl (by kernel_rfl) Try.func7 (by kernel_rfl)
    (of_decide_eq_true (by kernel_rfl)) (by unfold Func.isWrapper; first | (rw [if_pos (by decide +kernel)]; kernel_rfl) | (rw [if_neg (by decide +kernel)]; exact ⟨rfl, rfl⟩))
    (fun os started H enc _ => lifted os started H enc)
end Go.Proofs.Ytkjpficpkpfkdaa.lawCompares
