/- The statement TimesetAlgebra: for any spans of three sets, the law returns true and changes nothing (written by wip/bin/gen_alg.py). -/
import Derived.Test.YthngjfkmaphajaaAl
import Derived.Test.YthngjfkmaphajaaRow
namespace Go.Proofs.Ythngjfkmaphajaa.lawAlgebra
open Go.Proofs.Ythngjfkmaphajaa Go.ChangeShapes Go.WideShapes Go.ChangeAt Go.RowKit Go.Joins Ts

set_option maxRecDepth 100000 in
set_option maxHeartbeats 4000000 in
theorem walk (w : World) (A0 : Option Addr) (c0 : Nat) (L0 : List (Int × Int)) (hL0 : L0.length ≤ 9223372036854775807) (hs0 : ∀ x ∈ L0, SpOk x) (hR0 : Rs w w.heap.size A0 (spCells L0)) (A1 : Option Addr) (c1 : Nat) (L1 : List (Int × Int)) (hL1 : L1.length ≤ 9223372036854775807) (hs1 : ∀ x ∈ L1, SpOk x) (hR1 : Rs w w.heap.size A1 (spCells L1)) (A2 : Option Addr) (c2 : Nat) (L2 : List (Int × Int)) (hL2 : L2.length ≤ 9223372036854775807) (hs2 : ∀ x ∈ L2, SpOk x) (hR2 : Rs w w.heap.size A2 (spCells L2)) :
    Calls Try.prog 6 #[.slice A0 L0.length c0, .slice A1 L1.length c1, .slice A2 L2.length c2] w fun e w' => e = .returned (.bool true) ∧ Below w.heap.size w w' := by
  obtain ⟨l_a, ha⟩ : ∃ t, t = stL L0 := ⟨_, rfl⟩
  have HSeta : Hid (∀ w' : World, Rs w' w'.heap.size A0 (spCells L0) → Calls Try.prog 19 #[.slice A0 L0.length c0] w' fun e w'' => (∃ r, e = .returned r ∧ Sl w'' r l_a) ∧ Below w'.heap.size w' w'') := Lib.hid (fun w' h => by rw [ha]; exact set_sl L0 hs0 w' A0 c0 hL0 h)
  have oa : Ok 10 l_a := by rw [ha]; exact st_ok L0 hs0
  have oka := oa.more (show 10 ≤ 1000 by omega)
  have la : l_a.length ≤ 1000000 := by have := oa.len; omega
  have Ra0 := Lib.hid hR0
  clear ha hR0 hs0
  obtain ⟨l_b, hb⟩ : ∃ t, t = stL L1 := ⟨_, rfl⟩
  have HSetb : Hid (∀ w' : World, Rs w' w'.heap.size A1 (spCells L1) → Calls Try.prog 19 #[.slice A1 L1.length c1] w' fun e w'' => (∃ r, e = .returned r ∧ Sl w'' r l_b) ∧ Below w'.heap.size w' w'') := Lib.hid (fun w' h => by rw [hb]; exact set_sl L1 hs1 w' A1 c1 hL1 h)
  have ob : Ok 10 l_b := by rw [hb]; exact st_ok L1 hs1
  have okb := ob.more (show 10 ≤ 1000 by omega)
  have lb : l_b.length ≤ 1000000 := by have := ob.len; omega
  have Rb0 := Lib.hid hR1
  clear hb hR1 hs1
  obtain ⟨l_c, hc⟩ : ∃ t, t = stL L2 := ⟨_, rfl⟩
  have HSetc : Hid (∀ w' : World, Rs w' w'.heap.size A2 (spCells L2) → Calls Try.prog 19 #[.slice A2 L2.length c2] w' fun e w'' => (∃ r, e = .returned r ∧ Sl w'' r l_c) ∧ Below w'.heap.size w' w'') := Lib.hid (fun w' h => by rw [hc]; exact set_sl L2 hs2 w' A2 c2 hL2 h)
  have oc : Ok 10 l_c := by rw [hc]; exact st_ok L2 hs2
  have okc := oc.more (show 10 ≤ 1000 by omega)
  have lc : l_c.length ≤ 1000000 := by have := oc.len; omega
  have Rc0 := Lib.hid hR2
  clear hc hR2 hs2
  obtain ⟨l_u, hu⟩ : ∃ t, t = cmbL orF l_a l_b := ⟨_, rfl⟩
  have ou := or_ok oa ob
  rw [← hu] at ou
  have oku := ou.more (show _ ≤ 1000 by omega)
  have lu : l_u.length ≤ 1000000 := by have := oku.len; omega
  have qu : ∀ n, has n l_u = (has n l_a || has n l_b) := fun n => by rw [hu]; exact has_or oa.nrm ob.nrm n
  have Hu := Lib.hid hu
  clear hu
  obtain ⟨l_i, hi⟩ : ∃ t, t = cmbL andF l_a l_b := ⟨_, rfl⟩
  have oi := and_ok oa ob
  rw [← hi] at oi
  have oki := oi.more (show _ ≤ 1000 by omega)
  have li : l_i.length ≤ 1000000 := by have := oki.len; omega
  have qi : ∀ n, has n l_i = (has n l_a && has n l_b) := fun n => by rw [hi]; exact has_and oa.nrm ob.nrm n
  have Hi := Lib.hid hi
  clear hi
  obtain ⟨l_t1, ht1⟩ : ∃ t, t = cmbL orF l_b l_a := ⟨_, rfl⟩
  have ot1 := or_ok ob oa
  rw [← ht1] at ot1
  have okt1 := ot1.more (show _ ≤ 1000 by omega)
  have lt1 : l_t1.length ≤ 1000000 := by have := okt1.len; omega
  have qt1 : ∀ n, has n l_t1 = (has n l_b || has n l_a) := fun n => by rw [ht1]; exact has_or ob.nrm oa.nrm n
  have Ht1 := Lib.hid ht1
  clear ht1
  obtain ⟨l_t2, ht2⟩ : ∃ t, t = cmbL andF l_b l_a := ⟨_, rfl⟩
  have ot2 := and_ok ob oa
  rw [← ht2] at ot2
  have okt2 := ot2.more (show _ ≤ 1000 by omega)
  have lt2 : l_t2.length ≤ 1000000 := by have := okt2.len; omega
  have qt2 : ∀ n, has n l_t2 = (has n l_b && has n l_a) := fun n => by rw [ht2]; exact has_and ob.nrm oa.nrm n
  have Ht2 := Lib.hid ht2
  clear ht2
  obtain ⟨l_t3, ht3⟩ : ∃ t, t = cmbL andF l_u l_c := ⟨_, rfl⟩
  have ot3 := and_ok ou oc
  rw [← ht3] at ot3
  have okt3 := ot3.more (show _ ≤ 1000 by omega)
  have lt3 : l_t3.length ≤ 1000000 := by have := okt3.len; omega
  have qt3 : ∀ n, has n l_t3 = (has n l_u && has n l_c) := fun n => by rw [ht3]; exact has_and ou.nrm oc.nrm n
  have Ht3 := Lib.hid ht3
  clear ht3
  obtain ⟨l_t4, ht4⟩ : ∃ t, t = cmbL andF l_a l_c := ⟨_, rfl⟩
  have ot4 := and_ok oa oc
  rw [← ht4] at ot4
  have okt4 := ot4.more (show _ ≤ 1000 by omega)
  have lt4 : l_t4.length ≤ 1000000 := by have := okt4.len; omega
  have qt4 : ∀ n, has n l_t4 = (has n l_a && has n l_c) := fun n => by rw [ht4]; exact has_and oa.nrm oc.nrm n
  have Ht4 := Lib.hid ht4
  clear ht4
  obtain ⟨l_t5, ht5⟩ : ∃ t, t = cmbL andF l_b l_c := ⟨_, rfl⟩
  have ot5 := and_ok ob oc
  rw [← ht5] at ot5
  have okt5 := ot5.more (show _ ≤ 1000 by omega)
  have lt5 : l_t5.length ≤ 1000000 := by have := okt5.len; omega
  have qt5 : ∀ n, has n l_t5 = (has n l_b && has n l_c) := fun n => by rw [ht5]; exact has_and ob.nrm oc.nrm n
  have Ht5 := Lib.hid ht5
  clear ht5
  obtain ⟨l_t6, ht6⟩ : ∃ t, t = cmbL orF l_t4 l_t5 := ⟨_, rfl⟩
  have ot6 := or_ok ot4 ot5
  rw [← ht6] at ot6
  have okt6 := ot6.more (show _ ≤ 1000 by omega)
  have lt6 : l_t6.length ≤ 1000000 := by have := okt6.len; omega
  have qt6 : ∀ n, has n l_t6 = (has n l_t4 || has n l_t5) := fun n => by rw [ht6]; exact has_or ot4.nrm ot5.nrm n
  have Ht6 := Lib.hid ht6
  clear ht6
  obtain ⟨l_t7, ht7⟩ : ∃ t, t = cmbL butF l_a l_b := ⟨_, rfl⟩
  have ot7 := but_ok oa ob
  rw [← ht7] at ot7
  have okt7 := ot7.more (show _ ≤ 1000 by omega)
  have lt7 : l_t7.length ≤ 1000000 := by have := okt7.len; omega
  have qt7 : ∀ n, has n l_t7 = (has n l_a && !has n l_b) := fun n => by rw [ht7]; exact has_but oa.nrm ob.nrm n
  have Ht7 := Lib.hid ht7
  clear ht7
  obtain ⟨l_t8, ht8⟩ : ∃ t, t = cmbL orF l_i l_t7 := ⟨_, rfl⟩
  have ot8 := or_ok oi ot7
  rw [← ht8] at ot8
  have okt8 := ot8.more (show _ ≤ 1000 by omega)
  have lt8 : l_t8.length ≤ 1000000 := by have := okt8.len; omega
  have qt8 : ∀ n, has n l_t8 = (has n l_i || has n l_t7) := fun n => by rw [ht8]; exact has_or oi.nrm ot7.nrm n
  have Ht8 := Lib.hid ht8
  clear ht8
  obtain ⟨l_t10, ht10⟩ : ∃ t, t = cmbL andF l_t7 l_b := ⟨_, rfl⟩
  have ot10 := and_ok ot7 ob
  rw [← ht10] at ot10
  have okt10 := ot10.more (show _ ≤ 1000 by omega)
  have lt10 : l_t10.length ≤ 1000000 := by have := okt10.len; omega
  have qt10 : ∀ n, has n l_t10 = (has n l_t7 && has n l_b) := fun n => by rw [ht10]; exact has_and ot7.nrm ob.nrm n
  have Ht10 := Lib.hid ht10
  clear ht10
  have E1 : Hid (decide (l_u = l_t1) = true) := Lib.hid (decide_eq_true (has_ext ou.nrm ot1.nrm (fun n => by rw [qu, qt1, Bool.or_comm])))
  have E2 : Hid (decide (l_i = l_t2) = true) := Lib.hid (decide_eq_true (has_ext oi.nrm ot2.nrm (fun n => by rw [qi, qt2, Bool.and_comm])))
  have E3 : Hid (decide (l_t3 = l_t6) = true) := Lib.hid (decide_eq_true (has_ext ot3.nrm ot6.nrm (fun n => by rw [qt3, qu, qt6, qt4, qt5]; cases has n l_a <;> cases has n l_b <;> cases has n l_c <;> rfl)))
  have E4 : Hid (decide (l_t8 = l_a) = true) := Lib.hid (decide_eq_true (has_ext ot8.nrm oa.nrm (fun n => by rw [qt8, qi, qt7]; cases has n l_a <;> cases has n l_b <;> rfl)))
  have E5 : l_t10 = [] := nil_of_has ot10.nrm (fun n => by rw [qt10, qt7]; cases has n l_a <;> cases has n l_b <;> rfl)
  have hsum := len_incl oa ob ou oi qu qi
  have za := len_ok oa
  obtain ⟨na, hna⟩ : ∃ t, t = len l_a := ⟨_, rfl⟩
  have Na := Lib.hid hna
  have zb := len_ok ob
  obtain ⟨nb, hnb⟩ : ∃ t, t = len l_b := ⟨_, rfl⟩
  have Nb := Lib.hid hnb
  have zu := len_ok ou
  obtain ⟨nu, hnu⟩ : ∃ t, t = len l_u := ⟨_, rfl⟩
  have Nu := Lib.hid hnu
  have zi := len_ok oi
  obtain ⟨ni, hni⟩ : ∃ t, t = len l_i := ⟨_, rfl⟩
  have Ni := Lib.hid hni
  rw [← hna, ← hnb, ← hnu, ← hni] at hsum
  rw [← hna] at za
  rw [← hnb] at zb
  obtain ⟨s, hs1⟩ : ∃ s, na + nb = s := ⟨_, rfl⟩
  have hs2 : nu + ni = s := by omega
  have hw : IntKind.i64.wrap s = s := by simp only [IntKind.wrap_i64]; omega
  subst E5
  clear hsum za zb zu zi hna hnb hnu hni qu qi qt1 qt2 qt3 qt4 qt5 qt6 qt7 qt8 qt10
  go_enter Try.func6, Try.ntmps6
  go_wp2_with fail
  refine (HSeta.out w Ra0.out).mono ?_
  rintro e w1 ⟨⟨va, rfl, hr⟩, hb⟩
  have HB1 := Lib.hid hb
  have Ra1 := Lib.hid ((Ra0.out.below hb).more hb.size)
  have Rb1 := Lib.hid ((Rb0.out.below hb).more hb.size)
  have Rc1 := Lib.hid ((Rc0.out.below hb).more hb.size)
  have Sa1 := Lib.hid hr
  clear hb Ra0 Rb0 Rc0 hr
  clear Ra1
  go_wp2_with fail
  refine (HSetb.out w1 Rb1.out).mono ?_
  rintro e w2 ⟨⟨vb, rfl, hr⟩, hb⟩
  have HB2 := Lib.hid (HB1.out.trans (hb.mono HB1.out.size))
  have Rb2 := Lib.hid ((Rb1.out.below hb).more hb.size)
  have Rc2 := Lib.hid ((Rc1.out.below hb).more hb.size)
  have Sa2 := Lib.hid (Sa1.out.below hb)
  have Sb2 := Lib.hid hr
  clear hb Rb1 Rc1 Sa1 hr
  clear Rb2
  go_wp2_with fail
  refine (HSetc.out w2 Rc2.out).mono ?_
  rintro e w3 ⟨⟨vc, rfl, hr⟩, hb⟩
  have HB3 := Lib.hid (HB2.out.trans (hb.mono HB2.out.size))
  have Rc3 := Lib.hid ((Rc2.out.below hb).more hb.size)
  have Sa3 := Lib.hid (Sa2.out.below hb)
  have Sb3 := Lib.hid (Sb2.out.below hb)
  have Sc3 := Lib.hid hr
  clear hb Rc2 Sa2 Sb2 hr
  clear Rc3
  go_wp2_with fail
  refine (union_sl oka okb w3 Sa3.out Sb3.out).mono ?_
  rintro e w4 ⟨⟨vu, rfl, hr⟩, hb⟩
  rw [← Hu.out] at hr
  have HB4 := Lib.hid (HB3.out.trans (hb.mono HB3.out.size))
  have Sa4 := Lib.hid (Sa3.out.below hb)
  have Sb4 := Lib.hid (Sb3.out.below hb)
  have Sc4 := Lib.hid (Sc3.out.below hb)
  have Su4 := Lib.hid hr
  clear hb Sa3 Sb3 Sc3 hr
  go_wp2_with fail
  refine (intersect_sl oka okb w4 Sa4.out Sb4.out).mono ?_
  rintro e w5 ⟨⟨vi, rfl, hr⟩, hb⟩
  rw [← Hi.out] at hr
  have HB5 := Lib.hid (HB4.out.trans (hb.mono HB4.out.size))
  have Sa5 := Lib.hid (Sa4.out.below hb)
  have Sb5 := Lib.hid (Sb4.out.below hb)
  have Sc5 := Lib.hid (Sc4.out.below hb)
  have Su5 := Lib.hid (Su4.out.below hb)
  have Si5 := Lib.hid hr
  clear hb Sa4 Sb4 Sc4 Su4 hr
  go_wp2_with fail
  refine (known_any w5).mono ?_
  rintro e w6 ⟨rfl, hb⟩
  have HB6 := Lib.hid (HB5.out.trans (hb.mono HB5.out.size))
  have Sa6 := Lib.hid (Sa5.out.below hb)
  have Sb6 := Lib.hid (Sb5.out.below hb)
  have Sc6 := Lib.hid (Sc5.out.below hb)
  have Su6 := Lib.hid (Su5.out.below hb)
  have Si6 := Lib.hid (Si5.out.below hb)
  clear hb Sa5 Sb5 Sc5 Su5 Si5
  go_wp2_with fail
  refine (union_sl okb oka w6 Sb6.out Sa6.out).mono ?_
  rintro e w7 ⟨⟨vt1, rfl, hr⟩, hb⟩
  rw [← Ht1.out] at hr
  have HB7 := Lib.hid (HB6.out.trans (hb.mono HB6.out.size))
  have Sa7 := Lib.hid (Sa6.out.below hb)
  have Sb7 := Lib.hid (Sb6.out.below hb)
  have Sc7 := Lib.hid (Sc6.out.below hb)
  have Su7 := Lib.hid (Su6.out.below hb)
  have Si7 := Lib.hid (Si6.out.below hb)
  have St17 := Lib.hid hr
  clear hb Sa6 Sb6 Sc6 Su6 Si6 hr
  have h := eq_sl lu lt1 w7 Su7.out St17.out
  rw [E1.out] at h
  have Hc := Lib.hid h
  clear h
  go_wp2_with fail
  refine Hc.out.mono ?_
  rintro e w8 ⟨rfl, hb⟩
  clear Hc
  have HB8 := Lib.hid (HB7.out.trans (hb.mono HB7.out.size))
  have Sa8 := Lib.hid (Sa7.out.below hb)
  have Sb8 := Lib.hid (Sb7.out.below hb)
  have Sc8 := Lib.hid (Sc7.out.below hb)
  have Su8 := Lib.hid (Su7.out.below hb)
  have Si8 := Lib.hid (Si7.out.below hb)
  have St18 := Lib.hid (St17.out.below hb)
  clear hb Sa7 Sb7 Sc7 Su7 Si7 St17
  clear St18
  go_wp2_with fail
  refine (intersect_sl okb oka w8 Sb8.out Sa8.out).mono ?_
  rintro e w9 ⟨⟨vt2, rfl, hr⟩, hb⟩
  rw [← Ht2.out] at hr
  have HB9 := Lib.hid (HB8.out.trans (hb.mono HB8.out.size))
  have Sa9 := Lib.hid (Sa8.out.below hb)
  have Sb9 := Lib.hid (Sb8.out.below hb)
  have Sc9 := Lib.hid (Sc8.out.below hb)
  have Su9 := Lib.hid (Su8.out.below hb)
  have Si9 := Lib.hid (Si8.out.below hb)
  have St29 := Lib.hid hr
  clear hb Sa8 Sb8 Sc8 Su8 Si8 hr
  have h := eq_sl li lt2 w9 Si9.out St29.out
  rw [E2.out] at h
  have Hc := Lib.hid h
  clear h
  go_wp2_with fail
  refine Hc.out.mono ?_
  rintro e w10 ⟨rfl, hb⟩
  clear Hc
  have HB10 := Lib.hid (HB9.out.trans (hb.mono HB9.out.size))
  have Sa10 := Lib.hid (Sa9.out.below hb)
  have Sb10 := Lib.hid (Sb9.out.below hb)
  have Sc10 := Lib.hid (Sc9.out.below hb)
  have Su10 := Lib.hid (Su9.out.below hb)
  have Si10 := Lib.hid (Si9.out.below hb)
  have St210 := Lib.hid (St29.out.below hb)
  clear hb Sa9 Sb9 Sc9 Su9 Si9 St29
  clear St210
  have h := len_sl oka w10 Sa10.out
  rw [← Na.out] at h
  have Hc := Lib.hid h
  clear h
  go_wp2_with fail
  refine Hc.out.mono ?_
  rintro e w11 ⟨rfl, hb⟩
  clear Hc
  have HB11 := Lib.hid (HB10.out.trans (hb.mono HB10.out.size))
  have Sa11 := Lib.hid (Sa10.out.below hb)
  have Sb11 := Lib.hid (Sb10.out.below hb)
  have Sc11 := Lib.hid (Sc10.out.below hb)
  have Su11 := Lib.hid (Su10.out.below hb)
  have Si11 := Lib.hid (Si10.out.below hb)
  clear hb Sa10 Sb10 Sc10 Su10 Si10
  have h := len_sl okb w11 Sb11.out
  rw [← Nb.out] at h
  have Hc := Lib.hid h
  clear h
  go_wp2_with fail
  refine Hc.out.mono ?_
  rintro e w12 ⟨rfl, hb⟩
  clear Hc
  have HB12 := Lib.hid (HB11.out.trans (hb.mono HB11.out.size))
  have Sa12 := Lib.hid (Sa11.out.below hb)
  have Sb12 := Lib.hid (Sb11.out.below hb)
  have Sc12 := Lib.hid (Sc11.out.below hb)
  have Su12 := Lib.hid (Su11.out.below hb)
  have Si12 := Lib.hid (Si11.out.below hb)
  clear hb Sa11 Sb11 Sc11 Su11 Si11
  have h := len_sl oku w12 Su12.out
  rw [← Nu.out] at h
  have Hc := Lib.hid h
  clear h
  go_wp2_with fail
  refine Hc.out.mono ?_
  rintro e w13 ⟨rfl, hb⟩
  clear Hc
  have HB13 := Lib.hid (HB12.out.trans (hb.mono HB12.out.size))
  have Sa13 := Lib.hid (Sa12.out.below hb)
  have Sb13 := Lib.hid (Sb12.out.below hb)
  have Sc13 := Lib.hid (Sc12.out.below hb)
  have Su13 := Lib.hid (Su12.out.below hb)
  have Si13 := Lib.hid (Si12.out.below hb)
  clear hb Sa12 Sb12 Sc12 Su12 Si12
  have h := len_sl oki w13 Si13.out
  rw [← Ni.out] at h
  have Hc := Lib.hid h
  clear h
  go_wp2_with fail
  refine Hc.out.mono ?_
  rintro e w14 ⟨rfl, hb⟩
  clear Hc
  have HB14 := Lib.hid (HB13.out.trans (hb.mono HB13.out.size))
  have Sa14 := Lib.hid (Sa13.out.below hb)
  have Sb14 := Lib.hid (Sb13.out.below hb)
  have Sc14 := Lib.hid (Sc13.out.below hb)
  have Su14 := Lib.hid (Su13.out.below hb)
  have Si14 := Lib.hid (Si13.out.below hb)
  clear hb Sa13 Sb13 Sc13 Su13 Si13
  go_wp2_with fail
  refine (intersect_sl oku okc w14 Su14.out Sc14.out).mono ?_
  rintro e w15 ⟨⟨vt3, rfl, hr⟩, hb⟩
  rw [← Ht3.out] at hr
  have HB15 := Lib.hid (HB14.out.trans (hb.mono HB14.out.size))
  have Sa15 := Lib.hid (Sa14.out.below hb)
  have Sb15 := Lib.hid (Sb14.out.below hb)
  have Sc15 := Lib.hid (Sc14.out.below hb)
  have Su15 := Lib.hid (Su14.out.below hb)
  have Si15 := Lib.hid (Si14.out.below hb)
  have St315 := Lib.hid hr
  clear hb Sa14 Sb14 Sc14 Su14 Si14 hr
  clear Su15
  go_wp2_with fail
  refine (intersect_sl oka okc w15 Sa15.out Sc15.out).mono ?_
  rintro e w16 ⟨⟨vt4, rfl, hr⟩, hb⟩
  rw [← Ht4.out] at hr
  have HB16 := Lib.hid (HB15.out.trans (hb.mono HB15.out.size))
  have Sa16 := Lib.hid (Sa15.out.below hb)
  have Sb16 := Lib.hid (Sb15.out.below hb)
  have Sc16 := Lib.hid (Sc15.out.below hb)
  have Si16 := Lib.hid (Si15.out.below hb)
  have St316 := Lib.hid (St315.out.below hb)
  have St416 := Lib.hid hr
  clear hb Sa15 Sb15 Sc15 Si15 St315 hr
  go_wp2_with fail
  refine (intersect_sl okb okc w16 Sb16.out Sc16.out).mono ?_
  rintro e w17 ⟨⟨vt5, rfl, hr⟩, hb⟩
  rw [← Ht5.out] at hr
  have HB17 := Lib.hid (HB16.out.trans (hb.mono HB16.out.size))
  have Sa17 := Lib.hid (Sa16.out.below hb)
  have Sb17 := Lib.hid (Sb16.out.below hb)
  have Sc17 := Lib.hid (Sc16.out.below hb)
  have Si17 := Lib.hid (Si16.out.below hb)
  have St317 := Lib.hid (St316.out.below hb)
  have St417 := Lib.hid (St416.out.below hb)
  have St517 := Lib.hid hr
  clear hb Sa16 Sb16 Sc16 Si16 St316 St416 hr
  clear Sc17
  go_wp2_with fail
  refine (union_sl okt4 okt5 w17 St417.out St517.out).mono ?_
  rintro e w18 ⟨⟨vt6, rfl, hr⟩, hb⟩
  rw [← Ht6.out] at hr
  have HB18 := Lib.hid (HB17.out.trans (hb.mono HB17.out.size))
  have Sa18 := Lib.hid (Sa17.out.below hb)
  have Sb18 := Lib.hid (Sb17.out.below hb)
  have Si18 := Lib.hid (Si17.out.below hb)
  have St318 := Lib.hid (St317.out.below hb)
  have St418 := Lib.hid (St417.out.below hb)
  have St518 := Lib.hid (St517.out.below hb)
  have St618 := Lib.hid hr
  clear hb Sa17 Sb17 Si17 St317 St417 St517 hr
  clear St418
  clear St518
  have h := eq_sl lt3 lt6 w18 St318.out St618.out
  rw [E3.out] at h
  have Hc := Lib.hid h
  clear h
  go_wp2_with fail
  refine Hc.out.mono ?_
  rintro e w19 ⟨rfl, hb⟩
  clear Hc
  have HB19 := Lib.hid (HB18.out.trans (hb.mono HB18.out.size))
  have Sa19 := Lib.hid (Sa18.out.below hb)
  have Sb19 := Lib.hid (Sb18.out.below hb)
  have Si19 := Lib.hid (Si18.out.below hb)
  have St319 := Lib.hid (St318.out.below hb)
  have St619 := Lib.hid (St618.out.below hb)
  clear hb Sa18 Sb18 Si18 St318 St618
  clear St319
  clear St619
  go_wp2_with fail
  refine (minus_sl oka okb w19 Sa19.out Sb19.out).mono ?_
  rintro e w20 ⟨⟨vt7, rfl, hr⟩, hb⟩
  rw [← Ht7.out] at hr
  have HB20 := Lib.hid (HB19.out.trans (hb.mono HB19.out.size))
  have Sa20 := Lib.hid (Sa19.out.below hb)
  have Sb20 := Lib.hid (Sb19.out.below hb)
  have Si20 := Lib.hid (Si19.out.below hb)
  have St720 := Lib.hid hr
  clear hb Sa19 Sb19 Si19 hr
  go_wp2_with fail
  refine (union_sl oki okt7 w20 Si20.out St720.out).mono ?_
  rintro e w21 ⟨⟨vt8, rfl, hr⟩, hb⟩
  rw [← Ht8.out] at hr
  have HB21 := Lib.hid (HB20.out.trans (hb.mono HB20.out.size))
  have Sa21 := Lib.hid (Sa20.out.below hb)
  have Sb21 := Lib.hid (Sb20.out.below hb)
  have Si21 := Lib.hid (Si20.out.below hb)
  have St721 := Lib.hid (St720.out.below hb)
  have St821 := Lib.hid hr
  clear hb Sa20 Sb20 Si20 St720 hr
  clear Si21
  clear St721
  have h := eq_sl lt8 la w21 St821.out Sa21.out
  rw [E4.out] at h
  have Hc := Lib.hid h
  clear h
  go_wp2_with fail
  refine Hc.out.mono ?_
  rintro e w22 ⟨rfl, hb⟩
  clear Hc
  have HB22 := Lib.hid (HB21.out.trans (hb.mono HB21.out.size))
  have Sa22 := Lib.hid (Sa21.out.below hb)
  have Sb22 := Lib.hid (Sb21.out.below hb)
  have St822 := Lib.hid (St821.out.below hb)
  clear hb Sa21 Sb21 St821
  clear St822
  go_wp2_with fail
  refine (minus_sl oka okb w22 Sa22.out Sb22.out).mono ?_
  rintro e w23 ⟨⟨vt7, rfl, hr⟩, hb⟩
  rw [← Ht7.out] at hr
  have HB23 := Lib.hid (HB22.out.trans (hb.mono HB22.out.size))
  have Sa23 := Lib.hid (Sa22.out.below hb)
  have Sb23 := Lib.hid (Sb22.out.below hb)
  have St723 := Lib.hid hr
  clear hb Sa22 Sb22 hr
  clear Sa23
  go_wp2_with fail
  refine (intersect_sl okt7 okb w23 St723.out Sb23.out).mono ?_
  rintro e w24 ⟨⟨vt10, rfl, hr⟩, hb⟩
  rw [← Ht10.out] at hr
  have HB24 := Lib.hid (HB23.out.trans (hb.mono HB23.out.size))
  have Sb24 := Lib.hid (Sb23.out.below hb)
  have St724 := Lib.hid (St723.out.below hb)
  have St1024 := Lib.hid hr
  clear hb Sb23 St723 hr
  obtain ⟨Az, cz, rfl, _, _, _, _⟩ := St1024.out
  go_wp2_with fail
  go_ret
  exact ⟨by simp, HB24.out⟩

set_option maxRecDepth 100000 in
theorem lifted (os : Os) (started : os.Started) (H : Type) (enc : TypeId × Value → H) :
    ReturnsInHanded {} Try.checked os 6 .any (Rows.timesetAlgebraSpec.pre6 enc Try.prog Try.f6 Rows.timesetAlgebraRow.domain false) (Rows.timesetAlgebraSpec.post enc Try.prog Try.f6 false true false false) := by
  refine returnsInHanded_of_change (C := Try.checked) own started (by kernel_rfl) Try.func6
    (ChangeSpec.witness6 (enc := enc) (C := Try.checked) false ⟨#[], #[.slice none 0 0, .slice none 0 0, .slice none 0 0], []⟩ 8 (by kernel_rfl) (by kernel_rfl) (by kernel_rfl) (by kernel_rfl)) ?_
  intro W base args ds gs before hval0 hW _ _
  have hval : ∀ (j : Nat) t v, Try.f6.params[j]? = some t → args[j]? = some v → Value.okWide Try.prog W .any base t v := hval0
  have hW' := hW
  obtain ⟨p, q, hA0, hV, rfl, _, _⟩ := hW
  have hA : DataW.TrodAll enc Try.prog W 0 (fun _ => true) true Try.f6.params.toList args.toList ds p := hA0
  rw [Try.params6] at hA hval
  obtain ⟨v0, vs0, d0, ds0, p0, q0, hargs0, rfl, rfl, h0, r0⟩ := trodAll_cons hA
  obtain ⟨v1, vs1, d1, ds1, p1, q1, hargs1, rfl, rfl, h1, r1⟩ := trodAll_cons r0
  obtain ⟨v2, vs2, d2, ds2, p2, q2, hargs2, rfl, rfl, h2, r2⟩ := trodAll_cons r1
  obtain ⟨rfl, rfl, rfl⟩ := trodAll_nil r2
  obtain rfl : args = #[v0, v1, v2] := by cases args; simp_all
  obtain ⟨rfl, rfl⟩ := trodVars_none hV
  have lt0 : ∀ x ∈ p0, x.block < W.heap.size := fun x hx => hW'.lt x (by simp [hx])
  obtain ⟨A0, c0, L0, rfl, hL0, hs0, hR0⟩ := open_spns (hval 0 33 v0 rfl rfl) h0 lt0
  have lt1 : ∀ x ∈ p1, x.block < W.heap.size := fun x hx => hW'.lt x (by simp [hx])
  obtain ⟨A1, c1, L1, rfl, hL1, hs1, hR1⟩ := open_spns (hval 1 33 v1 rfl rfl) h1 lt1
  have lt2 : ∀ x ∈ p2, x.block < W.heap.size := fun x hx => hW'.lt x (by simp [hx])
  obtain ⟨A2, c2, L2, rfl, hL2, hs2, hR2⟩ := open_spns (hval 2 33 v2 rfl rfl) h2 lt2
  clear hA0 hval0
  simp only [List.append_nil] at hW'
  refine (walk W A0 c0 L0 hL0 hs0 hR0 A1 c1 L1 hL1 hs1 hR1 A2 c2 L2 hL2 hs2 hR2).mono fun e W' ⟨he, hb⟩ => ?_
  subst he
  exact ⟨_, rfl, post_mem hW' hb (fun _ _ _ => trodAll_mk1 (shut_bool Try.underlying4 _)) (fun sp hsp => by
    have t := trodAll_cons_mk (carry laidOut (by kernel_rfl) (of_decide_eq_true (by kernel_rfl)) h0 hb lt0 sp (fun x hx => hsp x (by simp [hx]))) (trodAll_cons_mk (carry laidOut (by kernel_rfl) (of_decide_eq_true (by kernel_rfl)) h1 hb lt1 sp (fun x hx => hsp x (by simp [hx]))) (trodAll_cons_mk (carry laidOut (by kernel_rfl) (of_decide_eq_true (by kernel_rfl)) h2 hb lt2 sp (fun x hx => hsp x (by simp [hx]))) trodAll_mk0))
    simp only [List.append_nil] at t
    exact t) (fun _ => rfl) (ok_one (by kernel_rfl) rfl (okWide_bool_mk Try.underlying4 _))⟩

theorem proved : Rows.TimesetAlgebraSaid :=
  OpenClaim.holds_of_wide 6 Try.f6 rfl rfl rfl rfl rfl rfl rfl ⟨rfl, rfl, rfl, rfl, rfl⟩ rfl rfl rfl rfl rfl (by kernel_rfl) Try.func6 (by kernel_rfl)
    (of_decide_eq_true (by kernel_rfl)) (by unfold Func.isWrapper; first | (rw [if_pos (by decide +kernel)]; kernel_rfl) | (rw [if_neg (by decide +kernel)]; exact ⟨rfl, rfl⟩))
    (fun os started H enc _ => lifted os started H enc)
end Go.Proofs.Ythngjfkmaphajaa.lawAlgebra
