/- The statement TimesetCoarsens: for any spans of two sets and any sizes, the law returns true and changes nothing (written by wip/bin/gen_cnl.py). -/
import Derived.Test.YtkjpficpkpfkdaaCn
import Derived.Test.YtkjpficpkpfkdaaRow3
import Derived.Test.YtkjpficpkpfkdaaGw
namespace Go.Proofs.Ytkjpficpkpfkdaa.lawCoarsens
open Go.Proofs.Ytkjpficpkpfkdaa Go.ChangeShapes Go.WideShapes Go.ChangeAt Go.RowKit Go.Joins Ts

set_option maxRecDepth 100000 in
set_option maxHeartbeats 8000000 in
theorem walk (w : World) (A0 : Option Addr) (c0 : Nat) (L0 : List (Int × Int)) (hL0 : L0.length ≤ 9223372036854775807) (hs0 : ∀ x ∈ L0, SpOk x) (hR0 : Rs w w.heap.size A0 (spCells L0)) (A1 : Option Addr) (c1 : Nat) (L1 : List (Int × Int)) (hL1 : L1.length ≤ 9223372036854775807) (hs1 : ∀ x ∈ L1, SpOk x) (hR1 : Rs w w.heap.size A1 (spCells L1)) (m0 : Int) (_wm0 : (Lit.int .i64 m0).wf = true) (m1 : Int) (_wm1 : (Lit.int .i64 m1).wf = true) (m2 : Int) (_wm2 : (Lit.int .i64 m2).wf = true) :
    Calls Try.prog 12 #[.slice A0 L0.length c0, .slice A1 L1.length c1, .agg #[.int .i64 m0, .int .i64 m1, .int .i64 m2]] w fun e w' => e = .returned (.bool true) ∧ Below w.heap.size w w' := by
  obtain ⟨l_a, ha⟩ : ∃ t, t = stL L0 := ⟨_, rfl⟩
  have HSeta : Hid (∀ w' : World, Rs w' w'.heap.size A0 (spCells L0) → Calls Try.prog 19 #[.slice A0 L0.length c0] w' fun e w'' => (∃ r, e = .returned r ∧ Sl w'' r l_a) ∧ Below w'.heap.size w' w'') := Lib.hid (fun w' h => by rw [ha]; exact set_sl L0 hs0 w' A0 c0 hL0 h)
  have oa : Ok 10 l_a := by rw [ha]; exact st_ok L0 hs0
  have oka := oa.more (show 10 ≤ 1000 by omega)
  have la : l_a.length ≤ 1000000 := by have := oa.len; omega
  have Ra0 := Lib.hid hR0
  clear ha hR0 hs0
  obtain ⟨l_b, hb⟩ : ∃ t, t = stL L1 := ⟨_, rfl⟩
  have HSetb : Hid (∀ w' : World, Rs w' w'.heap.size A1 (spCells L1) → Calls Try.prog 19 #[.slice A1 L1.length c1] w' fun e w'' => (∃ r, e = .returned r ∧ Sl w'' r l_b) ∧ Below w'.heap.size w' w'') := Lib.hid (fun w' h => by rw [hb]; exact set_sl L1 hs1 w' A1 c1 hL1 h)
  have ob : Ok 10 l_b := by rw [hb]; exact st_ok L1 hs1
  have okb := ob.more (show 10 ≤ 1000 by omega)
  have lb : l_b.length ≤ 1000000 := by have := ob.len; omega
  have Rb0 := Lib.hid hR1
  clear hb hR1 hs1
  obtain ⟨l_t, ht⟩ : ∃ t, t = cmbL orF l_a l_b := ⟨_, rfl⟩
  have ot := or_ok oa ob
  rw [← ht] at ot
  have okt := ot.more (show _ ≤ 1000 by omega)
  have lt : l_t.length ≤ 1000000 := by have := okt.len; omega
  have qt : ∀ n, has n l_t = (has n l_a || has n l_b) := fun n => by rw [ht]; exact has_or oa.nrm ob.nrm n
  have Ht := Lib.hid ht
  clear ht
  obtain ⟨u0, hu0⟩ : ∃ u, IntKind.u64.wrap m0 = u := ⟨_, rfl⟩
  have bu0 : 0 ≤ u0 ∧ u0 < 18446744073709551616 := by rw [← hu0]; simp only [IntKind.wrap_u64]; omega
  obtain ⟨r0, hr0⟩ : ∃ r, u0.tmod 30 = r := ⟨_, rfl⟩
  have br0 : 0 ≤ r0 ∧ r0 < 30 := by rw [← hr0, Int.tmod_eq_emod_of_nonneg bu0.1]; omega
  have wr0 : IntKind.u64.wrap r0 = r0 := by simp only [IntKind.wrap_u64]; omega
  have ws0 : IntKind.i64.wrap r0 = r0 := by simp only [IntKind.wrap_i64]; omega
  obtain ⟨s0, hs0⟩ : ∃ s, 1 + r0 = s := ⟨_, rfl⟩
  have bs0 : 1 ≤ s0 ∧ s0 ≤ 30 := by omega
  have wt0 : IntKind.i64.wrap (1 + r0) = s0 := by rw [hs0]; simp only [IntKind.wrap_i64]; omega
  have wq0 : wrap64 (1 + r0) = s0 := by rw [hs0]; unfold wrap64; omega
  obtain ⟨u1, hu1⟩ : ∃ u, IntKind.u64.wrap m1 = u := ⟨_, rfl⟩
  have bu1 : 0 ≤ u1 ∧ u1 < 18446744073709551616 := by rw [← hu1]; simp only [IntKind.wrap_u64]; omega
  obtain ⟨r1, hr1⟩ : ∃ r, u1.tmod 30 = r := ⟨_, rfl⟩
  have br1 : 0 ≤ r1 ∧ r1 < 30 := by rw [← hr1, Int.tmod_eq_emod_of_nonneg bu1.1]; omega
  have wr1 : IntKind.u64.wrap r1 = r1 := by simp only [IntKind.wrap_u64]; omega
  have ws1 : IntKind.i64.wrap r1 = r1 := by simp only [IntKind.wrap_i64]; omega
  obtain ⟨s1, hs1⟩ : ∃ s, 1 + r1 = s := ⟨_, rfl⟩
  have bs1 : 1 ≤ s1 ∧ s1 ≤ 30 := by omega
  have wt1 : IntKind.i64.wrap (1 + r1) = s1 := by rw [hs1]; simp only [IntKind.wrap_i64]; omega
  have wq1 : wrap64 (1 + r1) = s1 := by rw [hs1]; unfold wrap64; omega
  have ps0 : 0 < s0 := by omega
  have ps1 : 0 < s1 := by omega
  obtain ⟨z, hz⟩ : ∃ z, s0 * s1 = z := ⟨_, rfl⟩
  have bz : 0 < z ∧ z ≤ 900 := by
    rw [← hz]
    refine ⟨Int.mul_pos ps0 ps1, ?_⟩
    have h1 := Int.mul_le_mul bs0.2 bs1.2 (show 0 ≤ s1 by omega) (show (0 : Int) ≤ 30 by omega)
    omega
  have wz : IntKind.i64.wrap (s0 * s1) = z := by rw [hz]; simp only [IntKind.wrap_i64]; omega
  have wz2 : wrap64 (s0 * s1) = z := by rw [hz]; unfold wrap64; omega
  have pc := coarse_spec ps0 oa.nrm
  have pd := coarse_spec ps0 ob.nrm
  have oc := coarse_ok oa ps0
  have od := coarse_ok ob ps0
  have ot2 := ot
  have HC1 : Hid (∀ (w' : World) (v : Value), Sl w' v l_a → Calls Try.prog 45 #[v, .int .i64 s0] w' fun e w'' => (∃ r, e = .returned (.tuple #[r, .int .i64 0]) ∧ Sl w'' r (coarse s0 l_a)) ∧ Below w'.heap.size w' w'') := Lib.hid (fun w' v h => coarsen_in s0 ps0 (by omega) (sm_ok oa) (by have := oa.len; omega) w' h)
  have HC2 : Hid (∀ (w' : World) (v : Value), Sl w' v l_b → Calls Try.prog 45 #[v, .int .i64 s0] w' fun e w'' => (∃ r, e = .returned (.tuple #[r, .int .i64 0]) ∧ Sl w'' r (coarse s0 l_b)) ∧ Below w'.heap.size w' w'') := Lib.hid (fun w' v h => coarsen_in s0 ps0 (by omega) (sm_ok ob) (by have := ob.len; omega) w' h)
  have HC3 : Hid (∀ (w' : World) (v : Value), Sl w' v l_t → Calls Try.prog 45 #[v, .int .i64 s0] w' fun e w'' => (∃ r, e = .returned (.tuple #[r, .int .i64 0]) ∧ Sl w'' r (coarse s0 l_t)) ∧ Below w'.heap.size w' w'') := Lib.hid (fun w' v h => coarsen_in s0 ps0 (by omega) (sm_ok okt) (by have := okt.len; omega) w' h)
  have HR1 : Hid (∀ (w' : World) (v : Value), Sl w' v l_a → Calls Try.prog 46 #[v, .int .i64 s0] w' fun e w'' => (∃ r, e = .returned r ∧ Sl w'' r (coarse s0 l_a)) ∧ Below w'.heap.size w' w'') := Lib.hid (fun w' v h => by
      have h := ref_coarsen s0 ps0 (by omega) (sm_ok oa) (by have := oa.len; omega) w' h
      rw [(coarse_spec ps0 oa.nrm).2.2] at h
      exact h)
  have HC5 : Hid (∀ (w' : World) (v : Value), Sl w' v l_a → Calls Try.prog 45 #[v, .int .i64 z] w' fun e w'' => (∃ r, e = .returned (.tuple #[r, .int .i64 0]) ∧ Sl w'' r (coarse z l_a)) ∧ Below w'.heap.size w' w'') := Lib.hid (fun w' v h => coarsen_in z bz.1 (by omega) (sm_ok oa) (by have := oa.len; omega) w' h)
  obtain ⟨l_c, hc⟩ : ∃ c, c = coarse s0 l_a := ⟨_, rfl⟩
  obtain ⟨l_d, hd⟩ : ∃ c, c = coarse s0 l_b := ⟨_, rfl⟩
  obtain ⟨l_u, hu⟩ : ∃ c, c = coarse s0 l_t := ⟨_, rfl⟩
  obtain ⟨l_q, hq⟩ : ∃ c, c = coarse z l_a := ⟨_, rfl⟩
  rw [← hc] at HC1 HR1 oc
  rw [← hd] at HC2 od
  rw [← hu] at HC3
  rw [← hq] at HC5
  have okc := oc.more (show 10 ≤ 1000 by omega)
  have okd := od.more (show 10 ≤ 1000 by omega)
  have lc : l_c.length ≤ 1000000 := by have := oc.len; omega
  have hpq : coarse s1 l_c = l_q := by rw [hc, hq, ← hz]; exact coarse_twice ps0 ps1 oa.nrm
  have HC4 : Hid (∀ (w' : World) (v : Value), Sl w' v l_c → Calls Try.prog 45 #[v, .int .i64 s1] w' fun e w'' => (∃ r, e = .returned (.tuple #[r, .int .i64 0]) ∧ Sl w'' r (coarse s1 l_c)) ∧ Below w'.heap.size w' w'') := Lib.hid (fun w' v h => coarsen_in s1 ps1 (by omega) (sm_ok oc) (by have := oc.len; omega) w' h)
  rw [hpq] at HC4
  have lq : l_q.length ≤ 1000000 := by rw [hq]; have := coarse_len z l_a; omega
  have lu : l_u.length ≤ 1000000 := by rw [hu]; have := coarse_len s0 l_t; omega
  have hcd : cmbL orF l_c l_d = l_u := by
    have e := cmbL_spec orF rfl l_c l_d oc.nrm od.nrm
    rw [hu]
    refine (coarse_union ps0 oa.nrm ob.nrm okt.nrm (fun n => ?_) e.1 (fun n => ?_)).symm
    · rw [← has_in, qt n, ← has_in n l_a, ← has_in n l_b, Bool.or_eq_true]
    · rw [e.2 n, ← hc, ← hd, ← has_in n l_c, ← has_in n l_d, ← Bool.or_eq_true]
  have Hcd := Lib.hid hcd
  clear hcd hpq hc hd hu hq qt pc pd ot2 hz bz ps1 hs0 hs1 bu0 bu1 br0 br1
  go_enter Try.func12, Try.ntmps12
  obtain ⟨w1, hw1⟩ : ∃ w1, w1 = w.alloc (.cells #[.int .i64 m0, .int .i64 m1, .int .i64 m2] 54) := ⟨_, rfl⟩
  have hbx : Below w.heap.size w w1 := by rw [hw1]; exact (Below.refl _ _).alloc (Nat.le_refl _) _
  have hmx : w1.heap[w.heap.size]? = some (.cells #[.int .i64 m0, .int .i64 m1, .int .i64 m2] 54 (0, 0)) := by rw [hw1]; exact Deep.blk_alloc_new w _
  go_wp2_with fail
  rw [← hw1]
  have HB1 := Lib.hid hbx
  have HM1 := Lib.hid hmx
  have Ra1 := Lib.hid ((Ra0.out.below hbx).more hbx.size)
  have Rb1 := Lib.hid ((Rb0.out.below hbx).more hbx.size)
  clear hbx hmx hw1 Ra0 Rb0
  refine (HSeta.out w1 Ra1.out).mono ?_
  rintro e w2 ⟨⟨va, rfl, hr⟩, hb⟩
  have HB2 := Lib.hid (HB1.out.trans (hb.mono HB1.out.size))
  have Ra2 := Lib.hid ((Ra1.out.below hb).more hb.size)
  have Rb2 := Lib.hid ((Rb1.out.below hb).more hb.size)
  have HM2 := Lib.hid ((hb.block _ (Array.getElem?_eq_some_iff.1 HM1.out).1).trans HM1.out)
  have Sa2 := Lib.hid hr
  clear hb HM1 Ra1 Rb1 hr
  clear Ra2
  go_wp2_with fail
  refine (HSetb.out w2 Rb2.out).mono ?_
  rintro e w3 ⟨⟨vb, rfl, hr⟩, hb⟩
  have HB3 := Lib.hid (HB2.out.trans (hb.mono HB2.out.size))
  have Rb3 := Lib.hid ((Rb2.out.below hb).more hb.size)
  have Sa3 := Lib.hid (Sa2.out.below hb)
  have HM3 := Lib.hid ((hb.block _ (Array.getElem?_eq_some_iff.1 HM2.out).1).trans HM2.out)
  have Sb3 := Lib.hid hr
  clear hb HM2 Rb2 Sa2 hr
  clear Rb3
  have k0 := cell_of_row w3 w.heap.size 0 _ _ _ HM3.out
  have k1 := cell_of_row w3 w.heap.size 1 _ _ _ HM3.out
  have k2 := cell_of_row w3 w.heap.size 2 _ _ _ HM3.out
  simp at k0 k1 k2
  go_wp2_with fail
  go_quiet (fail)
  obtain ⟨w4, hw4⟩ : ∃ w4, w4 = w3.drewN nq := ⟨_, rfl⟩
  have hb : Below w3.heap.size w3 w4 := by rw [hw4]; exact ⟨rfl, rfl, rfl, Nat.le_refl _, fun _ _ => rfl⟩
  rw [← hw4]
  clear hw4 k0 k1 k2
  have HB4 := Lib.hid (HB3.out.trans (hb.mono HB3.out.size))
  have Sa4 := Lib.hid (Sa3.out.below hb)
  have Sb4 := Lib.hid (Sb3.out.below hb)
  have HM4 := Lib.hid ((hb.block _ (Array.getElem?_eq_some_iff.1 HM3.out).1).trans HM3.out)
  clear hb HM3 Sa3 Sb3
  (refine (by assumption : ∀ _ _, _ → _) _ _ ?_)
  go_wp2_with fail
  refine (HC1.out w4 _ Sa4.out).mono ?_
  rintro e w5 ⟨⟨vc, rfl, hr⟩, hb⟩
  have HB5 := Lib.hid (HB4.out.trans (hb.mono HB4.out.size))
  have Sa5 := Lib.hid (Sa4.out.below hb)
  have Sb5 := Lib.hid (Sb4.out.below hb)
  have HM5 := Lib.hid ((hb.block _ (Array.getElem?_eq_some_iff.1 HM4.out).1).trans HM4.out)
  have Sc5 := Lib.hid hr
  clear hb HM4 Sa4 Sb4 hr
  go_wp2_with fail
  refine (HC2.out w5 _ Sb5.out).mono ?_
  rintro e w6 ⟨⟨vd, rfl, hr⟩, hb⟩
  have HB6 := Lib.hid (HB5.out.trans (hb.mono HB5.out.size))
  have Sa6 := Lib.hid (Sa5.out.below hb)
  have Sb6 := Lib.hid (Sb5.out.below hb)
  have Sc6 := Lib.hid (Sc5.out.below hb)
  have HM6 := Lib.hid ((hb.block _ (Array.getElem?_eq_some_iff.1 HM5.out).1).trans HM5.out)
  have Sd6 := Lib.hid hr
  clear hb HM5 Sa5 Sb5 Sc5 hr
  go_wp2_with fail
  refine (union_sl oka okb w6 Sa6.out Sb6.out).mono ?_
  rintro e w7 ⟨⟨vt, rfl, hr⟩, hb⟩
  rw [← Ht.out] at hr
  have HB7 := Lib.hid (HB6.out.trans (hb.mono HB6.out.size))
  have Sa7 := Lib.hid (Sa6.out.below hb)
  have Sb7 := Lib.hid (Sb6.out.below hb)
  have Sc7 := Lib.hid (Sc6.out.below hb)
  have Sd7 := Lib.hid (Sd6.out.below hb)
  have HM7 := Lib.hid ((hb.block _ (Array.getElem?_eq_some_iff.1 HM6.out).1).trans HM6.out)
  have St7 := Lib.hid hr
  clear hb HM6 Sa6 Sb6 Sc6 Sd6 hr
  go_wp2_with fail
  refine (HC3.out w7 _ St7.out).mono ?_
  rintro e w8 ⟨⟨vu, rfl, hr⟩, hb⟩
  have HB8 := Lib.hid (HB7.out.trans (hb.mono HB7.out.size))
  have Sa8 := Lib.hid (Sa7.out.below hb)
  have Sb8 := Lib.hid (Sb7.out.below hb)
  have Sc8 := Lib.hid (Sc7.out.below hb)
  have Sd8 := Lib.hid (Sd7.out.below hb)
  have St8 := Lib.hid (St7.out.below hb)
  have HM8 := Lib.hid ((hb.block _ (Array.getElem?_eq_some_iff.1 HM7.out).1).trans HM7.out)
  have Su8 := Lib.hid hr
  clear hb HM7 Sa7 Sb7 Sc7 Sd7 St7 hr
  clear St8
  clear Sb8
  go_wp2_with fail
  refine (HC4.out w8 _ Sc8.out).mono ?_
  rintro e w9 ⟨⟨vp, rfl, hr⟩, hb⟩
  have HB9 := Lib.hid (HB8.out.trans (hb.mono HB8.out.size))
  have Sa9 := Lib.hid (Sa8.out.below hb)
  have Sc9 := Lib.hid (Sc8.out.below hb)
  have Sd9 := Lib.hid (Sd8.out.below hb)
  have Su9 := Lib.hid (Su8.out.below hb)
  have HM9 := Lib.hid ((hb.block _ (Array.getElem?_eq_some_iff.1 HM8.out).1).trans HM8.out)
  have Sp9 := Lib.hid hr
  clear hb HM8 Sa8 Sc8 Sd8 Su8 hr
  go_wp2_with fail
  refine (HC5.out w9 _ Sa9.out).mono ?_
  rintro e w10 ⟨⟨vq, rfl, hr⟩, hb⟩
  have HB10 := Lib.hid (HB9.out.trans (hb.mono HB9.out.size))
  have Sa10 := Lib.hid (Sa9.out.below hb)
  have Sc10 := Lib.hid (Sc9.out.below hb)
  have Sd10 := Lib.hid (Sd9.out.below hb)
  have Su10 := Lib.hid (Su9.out.below hb)
  have Sp10 := Lib.hid (Sp9.out.below hb)
  have HM10 := Lib.hid ((hb.block _ (Array.getElem?_eq_some_iff.1 HM9.out).1).trans HM9.out)
  have Sq10 := Lib.hid hr
  clear hb HM9 Sa9 Sc9 Sd9 Su9 Sp9 hr
  go_wp2_with fail
  refine (known_any w10).mono ?_
  rintro e w11 ⟨rfl, hb⟩
  have HB11 := Lib.hid (HB10.out.trans (hb.mono HB10.out.size))
  have Sa11 := Lib.hid (Sa10.out.below hb)
  have Sc11 := Lib.hid (Sc10.out.below hb)
  have Sd11 := Lib.hid (Sd10.out.below hb)
  have Su11 := Lib.hid (Su10.out.below hb)
  have Sp11 := Lib.hid (Sp10.out.below hb)
  have Sq11 := Lib.hid (Sq10.out.below hb)
  have HM11 := Lib.hid ((hb.block _ (Array.getElem?_eq_some_iff.1 HM10.out).1).trans HM10.out)
  clear hb HM10 Sa10 Sc10 Sd10 Su10 Sp10 Sq10
  go_wp2_with fail
  refine (HR1.out w11 _ Sa11.out).mono ?_
  rintro e w12 ⟨⟨vv, rfl, hr⟩, hb⟩
  have HB12 := Lib.hid (HB11.out.trans (hb.mono HB11.out.size))
  have Sa12 := Lib.hid (Sa11.out.below hb)
  have Sc12 := Lib.hid (Sc11.out.below hb)
  have Sd12 := Lib.hid (Sd11.out.below hb)
  have Su12 := Lib.hid (Su11.out.below hb)
  have Sp12 := Lib.hid (Sp11.out.below hb)
  have Sq12 := Lib.hid (Sq11.out.below hb)
  have HM12 := Lib.hid ((hb.block _ (Array.getElem?_eq_some_iff.1 HM11.out).1).trans HM11.out)
  have Sv12 := Lib.hid hr
  clear hb HM11 Sa11 Sc11 Sd11 Su11 Sp11 Sq11 hr
  have h := eq_sl lc lc w12 Sc12.out Sv12.out
  rw [decide_eq_true rfl] at h
  have Hc := Lib.hid h
  clear h
  go_wp2_with fail
  refine Hc.out.mono ?_
  rintro e w13 ⟨rfl, hb⟩
  clear Hc
  have HB13 := Lib.hid (HB12.out.trans (hb.mono HB12.out.size))
  have Sa13 := Lib.hid (Sa12.out.below hb)
  have Sc13 := Lib.hid (Sc12.out.below hb)
  have Sd13 := Lib.hid (Sd12.out.below hb)
  have Su13 := Lib.hid (Su12.out.below hb)
  have Sp13 := Lib.hid (Sp12.out.below hb)
  have Sq13 := Lib.hid (Sq12.out.below hb)
  have Sv13 := Lib.hid (Sv12.out.below hb)
  have HM13 := Lib.hid ((hb.block _ (Array.getElem?_eq_some_iff.1 HM12.out).1).trans HM12.out)
  clear hb HM12 Sa12 Sc12 Sd12 Su12 Sp12 Sq12 Sv12
  clear Sv13
  go_wp2_with fail
  refine (union_sl okc okd w13 Sc13.out Sd13.out).mono ?_
  rintro e w14 ⟨⟨ve, rfl, hr⟩, hb⟩
  have HB14 := Lib.hid (HB13.out.trans (hb.mono HB13.out.size))
  have Sa14 := Lib.hid (Sa13.out.below hb)
  have Sc14 := Lib.hid (Sc13.out.below hb)
  have Sd14 := Lib.hid (Sd13.out.below hb)
  have Su14 := Lib.hid (Su13.out.below hb)
  have Sp14 := Lib.hid (Sp13.out.below hb)
  have Sq14 := Lib.hid (Sq13.out.below hb)
  have HM14 := Lib.hid ((hb.block _ (Array.getElem?_eq_some_iff.1 HM13.out).1).trans HM13.out)
  have Se14 := Lib.hid hr
  clear hb HM13 Sa13 Sc13 Sd13 Su13 Sp13 Sq13 hr
  rw [Hcd.out] at Se14
  have h := eq_sl lu lu w14 Su14.out Se14.out
  rw [decide_eq_true rfl] at h
  have Hc := Lib.hid h
  clear h
  go_wp2_with fail
  refine Hc.out.mono ?_
  rintro e w15 ⟨rfl, hb⟩
  clear Hc
  have HB15 := Lib.hid (HB14.out.trans (hb.mono HB14.out.size))
  have Sa15 := Lib.hid (Sa14.out.below hb)
  have Sc15 := Lib.hid (Sc14.out.below hb)
  have Sd15 := Lib.hid (Sd14.out.below hb)
  have Su15 := Lib.hid (Su14.out.below hb)
  have Sp15 := Lib.hid (Sp14.out.below hb)
  have Sq15 := Lib.hid (Sq14.out.below hb)
  have Se15 := Lib.hid (Se14.out.below hb)
  have HM15 := Lib.hid ((hb.block _ (Array.getElem?_eq_some_iff.1 HM14.out).1).trans HM14.out)
  clear hb HM14 Sa14 Sc14 Sd14 Su14 Sp14 Sq14 Se14
  clear Sc15
  clear Sd15
  clear Su15
  clear Se15
  have h := eq_sl lq lq w15 Sp15.out Sq15.out
  rw [decide_eq_true rfl] at h
  have Hc := Lib.hid h
  clear h
  go_wp2_with fail
  refine Hc.out.mono ?_
  rintro e w16 ⟨rfl, hb⟩
  clear Hc
  have HB16 := Lib.hid (HB15.out.trans (hb.mono HB15.out.size))
  have Sa16 := Lib.hid (Sa15.out.below hb)
  have Sp16 := Lib.hid (Sp15.out.below hb)
  have Sq16 := Lib.hid (Sq15.out.below hb)
  have HM16 := Lib.hid ((hb.block _ (Array.getElem?_eq_some_iff.1 HM15.out).1).trans HM15.out)
  clear hb HM15 Sa15 Sp15 Sq15
  clear Sp16
  clear Sq16
  have k0 := cell_of_row w16 w.heap.size 0 _ _ _ HM16.out
  have k1 := cell_of_row w16 w.heap.size 1 _ _ _ HM16.out
  have k2 := cell_of_row w16 w.heap.size 2 _ _ _ HM16.out
  simp at k0 k1 k2
  by_cases h1 : m2 < 1
  · skip
    have Ho := Lib.hid (coarsen_out (L := l_a) m2 (by omega) w16 Sa16.out)
    go_wp2_with fail
    refine Ho.out.mono ?_
    rintro e w' ⟨rfl, hw⟩
    have hw2 := hw.symm
    subst hw2
    clear hw Ho
    go_wp2_with fail
    go_ret
    exact ⟨by simp, HB16.out⟩
  · by_cases h2 : 1125899906842624 < m2
    · skip
      have h1' : 1 ≤ m2 := by omega
      have h1f : (m2 < 1) = False := eq_false h1
      have Ho := Lib.hid (coarsen_out (L := l_a) m2 (by omega) w16 Sa16.out)
      go_wp2_with fail
      refine Ho.out.mono ?_
      rintro e w' ⟨rfl, hw⟩
      have hw2 := hw.symm
      subst hw2
      clear hw Ho
      go_wp2_with fail
      go_ret
      exact ⟨by simp, HB16.out⟩
    · skip
      have h1' : 1 ≤ m2 := by omega
      have h1f : (m2 < 1) = False := eq_false h1
      have h2' : m2 ≤ 1125899906842624 := by omega
      have h2f : (1125899906842624 < m2) = False := eq_false h2
      have hp2 : 0 < m2 := by omega
      have HC6 : Hid (∀ (w' : World) (v : Value), Sl w' v l_a → Calls Try.prog 45 #[v, .int .i64 m2] w' fun e w'' => (∃ r, e = .returned (.tuple #[r, .int .i64 0]) ∧ Sl w'' r (coarse m2 l_a)) ∧ Below w'.heap.size w' w'') := Lib.hid (fun w' v h => coarsen_in m2 hp2 (h2') (sm_ok oa) (by have := oa.len; omega) w' h)
      have HR6 : Hid (∀ (w' : World) (v : Value), Sl w' v l_a → Calls Try.prog 46 #[v, .int .i64 m2] w' fun e w'' => (∃ r, e = .returned r ∧ Sl w'' r (coarse m2 l_a)) ∧ Below w'.heap.size w' w'') := Lib.hid (fun w' v h => by
          have h := ref_coarsen m2 hp2 (h2') (sm_ok oa) (by have := oa.len; omega) w' h
          rw [(coarse_spec hp2 oa.nrm).2.2] at h
          exact h)
      have lg : (coarse m2 l_a).length ≤ 1000000 := by have := coarse_len m2 l_a; omega
      obtain ⟨l_g, hg⟩ : ∃ c, c = coarse m2 l_a := ⟨_, rfl⟩
      rw [← hg] at HC6 HR6 lg
      clear hg
      go_wp2_with fail
      refine (HC6.out w16 _ Sa16.out).mono ?_
      rintro e w17 ⟨⟨vg, rfl, hr⟩, hb⟩
      have HB17 := Lib.hid (HB16.out.trans (hb.mono HB16.out.size))
      have Sa17 := Lib.hid (Sa16.out.below hb)
      have HM17 := Lib.hid ((hb.block _ (Array.getElem?_eq_some_iff.1 HM16.out).1).trans HM16.out)
      have Sg17 := Lib.hid hr
      clear hb HM16 Sa16 hr
      clear k0 k1 k2
      have k0 := cell_of_row w17 w.heap.size 0 _ _ _ HM17.out
      have k1 := cell_of_row w17 w.heap.size 1 _ _ _ HM17.out
      have k2 := cell_of_row w17 w.heap.size 2 _ _ _ HM17.out
      simp at k0 k1 k2
      go_wp2_with fail
      refine (HR6.out w17 _ Sa17.out).mono ?_
      rintro e w18 ⟨⟨vh, rfl, hr⟩, hb⟩
      have HB18 := Lib.hid (HB17.out.trans (hb.mono HB17.out.size))
      have Sa18 := Lib.hid (Sa17.out.below hb)
      have Sg18 := Lib.hid (Sg17.out.below hb)
      have HM18 := Lib.hid ((hb.block _ (Array.getElem?_eq_some_iff.1 HM17.out).1).trans HM17.out)
      have Sh18 := Lib.hid hr
      clear hb HM17 Sa17 Sg17 hr
      have h := eq_sl lg lg w18 Sg18.out Sh18.out
      rw [decide_eq_true rfl] at h
      have Hc := Lib.hid h
      clear h
      go_wp2_with fail
      refine Hc.out.mono ?_
      rintro e w19 ⟨rfl, hb⟩
      clear Hc
      have HB19 := Lib.hid (HB18.out.trans (hb.mono HB18.out.size))
      have Sa19 := Lib.hid (Sa18.out.below hb)
      have Sg19 := Lib.hid (Sg18.out.below hb)
      have Sh19 := Lib.hid (Sh18.out.below hb)
      have HM19 := Lib.hid ((hb.block _ (Array.getElem?_eq_some_iff.1 HM18.out).1).trans HM18.out)
      clear hb HM18 Sa18 Sg18 Sh18
      go_wp2_with fail
      go_ret
      exact ⟨by simp, HB19.out⟩

set_option maxRecDepth 100000 in
theorem lifted (os : Os) (started : os.Started) (H : Type) (enc : TypeId × Value → H) :
    ReturnsInHanded {} Try.checked os 12 .any (Rows.timesetCoarsensSpec.pre6 enc Try.prog Try.f12 Rows.timesetCoarsensRow.domain false) (Rows.timesetCoarsensSpec.post enc Try.prog Try.f12 false true false false) := by
  refine returnsInHanded_of_change (C := Try.checked) own started (by kernel_rfl) Try.func12
    (ChangeSpec.witness6 (enc := enc) (C := Try.checked) false ⟨#[], #[.slice none 0 0, .slice none 0 0, .agg #[.int .i64 0, .int .i64 0, .int .i64 0]], []⟩ 8 (by kernel_rfl) (by kernel_rfl) (by kernel_rfl) (by kernel_rfl)) ?_
  intro W base args ds gs before hval0 hW _ _
  have hval : ∀ (j : Nat) t v, Try.f12.params[j]? = some t → args[j]? = some v → Value.okWide Try.prog W .any base t v := hval0
  have hW' := hW
  obtain ⟨p, q, hA0, hV, rfl, _, _⟩ := hW
  have hA : DataW.TrodAll enc Try.prog W 0 (fun _ => true) true Try.f12.params.toList args.toList ds p := hA0
  rw [Try.params12] at hA hval
  obtain ⟨v0, vs0, d0, ds0, p0, q0, hargs0, rfl, rfl, h0, r0⟩ := trodAll_cons hA
  obtain ⟨v1, vs1, d1, ds1, p1, q1, hargs1, rfl, rfl, h1, r1⟩ := trodAll_cons r0
  obtain ⟨v2, vs2, d2, ds2, p2, q2, hargs2, rfl, rfl, h2, r2⟩ := trodAll_cons r1
  obtain ⟨rfl, rfl, rfl⟩ := trodAll_nil r2
  obtain rfl : args = #[v0, v1, v2] := by cases args; simp_all
  obtain ⟨rfl, rfl⟩ := trodVars_none hV
  have lt0 : ∀ x ∈ p0, x.block < W.heap.size := fun x hx => hW'.lt x (by simp [hx])
  obtain ⟨A0, c0, L0, rfl, hL0, hs0, hR0⟩ := open_spns (hval 0 33 v0 rfl rfl) h0 lt0
  have lt1 : ∀ x ∈ p1, x.block < W.heap.size := fun x hx => hW'.lt x (by simp [hx])
  obtain ⟨A1, c1, L1, rfl, hL1, hs1, hR1⟩ := open_spns (hval 1 33 v1 rfl rfl) h1 lt1
  obtain ⟨m20, m21, m22, rfl, rfl, rfl, wm20, wm21, wm22⟩ := open_row3 Try.underlying54 Try.underlying3 (by kernel_rfl) (by kernel_rfl) (hval 2 54 v2 rfl rfl) h2
  clear hA0 hval0
  simp only [List.append_nil] at hW'
  refine (walk W A0 c0 L0 hL0 hs0 hR0 A1 c1 L1 hL1 hs1 hR1 m20 wm20 m21 wm21 m22 wm22).mono fun e W' ⟨he, hb⟩ => ?_
  subst he
  exact ⟨_, rfl, post_mem hW' hb (fun _ _ _ => trodAll_mk1 (shut_bool Try.underlying4 _)) (fun sp hsp => by
    have t := trodAll_cons_mk (carry laidOut (by kernel_rfl) (of_decide_eq_true (by kernel_rfl)) h0 hb lt0 sp (fun x hx => hsp x (by simp [hx]))) (trodAll_cons_mk (carry laidOut (by kernel_rfl) (of_decide_eq_true (by kernel_rfl)) h1 hb lt1 sp (fun x hx => hsp x (by simp [hx]))) (trodAll_cons_mk (shut_row3 Try.underlying54 Try.underlying3 (by kernel_rfl) (by kernel_rfl) wm20 wm21 wm22) trodAll_mk0))
    simp only [List.append_nil] at t
    exact t) (fun _ => rfl) (ok_one (by kernel_rfl) rfl (okWide_bool_mk Try.underlying4 _))⟩

theorem proved : Rows.TimesetCoarsensSaid :=
  OpenClaim.holds_of_wide 12 Try.f12 rfl rfl rfl rfl rfl rfl rfl ⟨rfl, rfl, rfl, rfl, rfl⟩ rfl rfl rfl rfl rfl (by kernel_rfl) Try.func12 (by kernel_rfl)
    (of_decide_eq_true (by kernel_rfl)) (by unfold Func.isWrapper; first | (rw [if_pos (by decide +kernel)]; kernel_rfl) | (rw [if_neg (by decide +kernel)]; exact ⟨rfl, rfl⟩))
    (fun os started H enc _ => lifted os started H enc)
end Go.Proofs.Ytkjpficpkpfkdaa.lawCoarsens
