
/- The reference's Decimal (written by wip/bin/gen_rm.py). -/
import Derived.Test.YtokapficojgkgaaDoorRl
namespace Go.Proofs.YtokapficojgkgaaDoor
open Go.ChangeShapes Go.WideShapes Go.ChangeAt Go.RowKit Pl

theorem fl_bd2 {p a d : Int} (hp : 0 < p) (h3 : -1048576 ≤ a) (h4 : a ≤ 1048576) (h5 : 1 ≤ d) : -(p * 1048576) ≤ p * a / d ∧ p * a / d ≤ p * 1048576 := by
  have b1 : p * a ≤ p * 1048576 := Int.mul_le_mul_of_nonneg_left h4 (show 0 ≤ p by omega)
  have b2 : p * (-1048576) ≤ p * a := Int.mul_le_mul_of_nonneg_left h3 (show 0 ≤ p by omega)
  rw [Int.mul_neg] at b2
  have b0 : 0 ≤ p * 1048576 := Int.mul_nonneg (by omega) (by decide)
  constructor
  · refine (Int.le_ediv_iff_mul_le (by omega)).2 ?_
    have h := Int.mul_le_mul_of_nonpos_left (show -(p * 1048576) ≤ 0 by omega) h5
    omega
  · by_cases h : 0 ≤ p * a
    · have := Int.ediv_le_self d h; omega
    · have := Int.ediv_neg_of_neg_of_pos (show p * a < 0 by omega) (show 0 < d by omega); omega
set_option maxRecDepth 100000 in
set_option maxHeartbeats 1000000 in
theorem rdecimal_pn (a d : Int) (k : Nat) (hk : k ≤ 6) (h3 : -1048576 ≤ a) (h4 : a ≤ 1048576) (h5 : 1 ≤ d) (h6 : d ≤ 1048576) (N : Int) (hN : N = (10 : Int) ^ k * a / d) (hs : N < 0) (hkp : 0 < k) (w : World) :
    Calls Tryd.prog 11 #[.agg #[.int .i64 a, .int .i64 d], .int .i64 (k : Int)] w fun e w' => e = .returned (.string (dcB true k N.natAbs)) ∧ Below w.heap.size w w' := by
  obtain ⟨hp0, hp⟩ := pow6 k hk
  have hb := fl_bd ⟨hp0, hp⟩ h3 h4 h5
  have hb2 := fl_bd2 hp0 h3 h4 h5
  have HP := Lib.hid (fun W => rpower_any k (by omega) W)
  have HM := Lib.hid (fun W => rmulFloor_any ((10 : Int) ^ k) a d (by omega) (by omega) h3 h4 h5 h6 W)
  obtain ⟨pn, hpn⟩ : ∃ pn : Nat, pn = 10 ^ k := ⟨_, rfl⟩
  have hpp : (10 : Int) ^ k = (pn : Int) := by rw [hpn]; exact (Int.natCast_pow 10 k).symm
  have hpp0 : 0 < pn := by rw [hpp] at hp0; omega
  rw [hpp] at HP HM hb hb2 hN hp hp0
  obtain ⟨u, hu⟩ : ∃ u, u = N.natAbs := ⟨_, rfl⟩
  rw [← hN] at HM hb hb2
  have hu0 : u ≤ pn * 1048576 := by omega
  obtain ⟨x, hx⟩ : ∃ x, x = u / pn := ⟨_, rfl⟩
  obtain ⟨y, hy⟩ : ∃ y, y = u % pn := ⟨_, rfl⟩
  have hx6 : x ≤ 1048576 := by rw [hx]; exact Nat.div_le_of_le_mul hu0
  have hyp : y < pn := by rw [hy]; exact Nat.mod_lt _ hpp0
  have e1 : (u : Int).tdiv (pn : Int) = (x : Int) := by rw [hx, Int.tdiv_eq_ediv_of_nonneg (by omega)]; rfl
  have e1' : (u : Int) / (pn : Int) = (x : Int) := by rw [hx]; rfl
  have e2 : (u : Int).tmod (pn : Int) = (y : Int) := by rw [hy, Int.tmod_eq_emod_of_nonneg (by omega)]; rfl
  have e2' : (u : Int) % (pn : Int) = (y : Int) := by rw [hy]; rfl
  have w1 : IntKind.i64.wrap (x : Int) = (x : Int) := by simp only [IntKind.wrap_i64]; omega
  have w2 : IntKind.i64.wrap (u : Int) = (u : Int) := by simp only [IntKind.wrap_i64]; omega
  have w3 : IntKind.i64.wrap (y : Int) = (y : Int) := by simp only [IntKind.wrap_i64]; omega
  have hpz : ¬ (pn : Int) = 0 := by omega
  have hpz2 : ¬ pn = 0 := by omega
  have HX := Lib.hid (fun W => digits_any x hx6 W)
  have hxs := dgB_size x hx6
  change Hid (∀ W, Calls Tryd.prog 21 #[.int .i64 (x : Int), .int .i64 1] W fun e w' => e = .returned (.string (dgB x)) ∧ Below W.heap.size W w') at HX
  rw [← hu]
  have hdx : dgB x = ⟨(Lib.decDigits (u / 10 ^ k)).toArray⟩ := by rw [hx, hpn]; rfl
  have HY := Lib.hid (fun W => digits_k y k hkp hk (by rw [← hpn]; exact hyp) W)
  have hys : (⟨(pd k y).toArray⟩ : ByteArray).size = k := by show (pd k y).toArray.size = _; rw [List.size_toArray, pd_len]
  have hpy : pd k y = pd k u := by rw [hy, hpn, pd_mod]
  have hV : (⟨#[45]⟩ : ByteArray) ++ dgB x ++ ⟨#[46]⟩ ++ ⟨(pd k y).toArray⟩ = dcB true k u := by
    unfold dcB dcL
    rw [hdx, hpy, if_neg (show ¬ k = 0 by omega), bytes_cons]
    show (⟨(45 :: Lib.decDigits (u / 10 ^ k)).toArray⟩ : ByteArray) ++ ⟨[46].toArray⟩ ++ ⟨(pd k u).toArray⟩ = _
    rw [bytes_app, bytes_app, List.append_assoc]; rfl
  obtain ⟨B, hB⟩ : ∃ B : ByteArray, B = ⟨(pd k y).toArray⟩ := ⟨_, rfl⟩
  rw [← hB] at hV hys HY
  obtain ⟨V, hVe⟩ : ∃ V, V = dcB true k u := ⟨_, rfl⟩
  rw [← hVe] at hV ⊢
  obtain ⟨F, hF⟩ : ∃ F, F = dgB x := ⟨_, rfl⟩
  rw [← hF] at hV hxs HX
  have HV := Lib.hid hV
  have n0 : ¬ 9223372036854775807 < 1 + F.size := by omega
  have n1 : ¬ 9223372036854775807 < F.size + 1 := by omega
  have n2 : ¬ 9223372036854775807 < 1 + F.size + 1 := by omega
  have n3 : ¬ 9223372036854775807 < F.size + 1 + B.size := by omega
  have n4 : ¬ 9223372036854775807 < 1 + F.size + 1 + B.size := by omega
  have hkI : (0 : Int) < (k : Int) := by omega
  have e3 : -N = (u : Int) := by omega
  have e3' : 0 - N = (u : Int) := by omega
  have e4 : wrap64 (-N) = (u : Int) := by rw [e3]; unfold wrap64; omega
  clear hVe hV hF hdx hx hy hpn hpp hb hb2 hN hu hu0 hx6 hyp hxs hp hB hys hpy hkp
  have HA := Lib.hid ((Below.refl w.heap.size w).alloc (Nat.le_refl _) (.cells #[.int .i64 a, .int .i64 d] 23))
  go_enter Tryd.func11, Tryd.ntmps11
  go_wp2_with fail
  refine (HP.out _).mono ?_
  rintro e w1 ⟨rfl, rfl⟩
  go_wp2_with fail
  refine (HM.out _).mono ?_
  rintro e w2 ⟨rfl, hb⟩
  have HB2 := Lib.hid (HA.out.trans (hb.mono HA.out.size))
  clear hb
  go_wp2_with fail
  refine (HX.out _).mono ?_
  rintro e w3 ⟨rfl, hb⟩
  have HB3 := Lib.hid (HB2.out.trans (hb.mono HB2.out.size))
  clear hb
  go_wp2_with fail
  refine (HY.out _).mono ?_
  rintro e w4 ⟨rfl, hb⟩
  have HB4 := Lib.hid (HB3.out.trans (hb.mono HB3.out.size))
  clear hb
  go_wp2_with fail
  go_ret
  exact ⟨by rw [← HV.out]; rfl, HB4.out⟩
set_option maxRecDepth 100000 in
set_option maxHeartbeats 1000000 in
theorem rdecimal_pq (a d : Int) (k : Nat) (hk : k ≤ 6) (h3 : -1048576 ≤ a) (h4 : a ≤ 1048576) (h5 : 1 ≤ d) (h6 : d ≤ 1048576) (N : Int) (hN : N = (10 : Int) ^ k * a / d) (hs : 0 ≤ N) (hkp : 0 < k) (w : World) :
    Calls Tryd.prog 11 #[.agg #[.int .i64 a, .int .i64 d], .int .i64 (k : Int)] w fun e w' => e = .returned (.string (dcB false k N.natAbs)) ∧ Below w.heap.size w w' := by
  obtain ⟨hp0, hp⟩ := pow6 k hk
  have hb := fl_bd ⟨hp0, hp⟩ h3 h4 h5
  have hb2 := fl_bd2 hp0 h3 h4 h5
  have HP := Lib.hid (fun W => rpower_any k (by omega) W)
  have HM := Lib.hid (fun W => rmulFloor_any ((10 : Int) ^ k) a d (by omega) (by omega) h3 h4 h5 h6 W)
  obtain ⟨pn, hpn⟩ : ∃ pn : Nat, pn = 10 ^ k := ⟨_, rfl⟩
  have hpp : (10 : Int) ^ k = (pn : Int) := by rw [hpn]; exact (Int.natCast_pow 10 k).symm
  have hpp0 : 0 < pn := by rw [hpp] at hp0; omega
  rw [hpp] at HP HM hb hb2 hN hp hp0
  obtain ⟨u, hu⟩ : ∃ u, u = N.natAbs := ⟨_, rfl⟩
  rw [← hN] at HM hb hb2
  have hu0 : u ≤ pn * 1048576 := by omega
  obtain ⟨x, hx⟩ : ∃ x, x = u / pn := ⟨_, rfl⟩
  obtain ⟨y, hy⟩ : ∃ y, y = u % pn := ⟨_, rfl⟩
  have hx6 : x ≤ 1048576 := by rw [hx]; exact Nat.div_le_of_le_mul hu0
  have hyp : y < pn := by rw [hy]; exact Nat.mod_lt _ hpp0
  have e1 : (u : Int).tdiv (pn : Int) = (x : Int) := by rw [hx, Int.tdiv_eq_ediv_of_nonneg (by omega)]; rfl
  have e1' : (u : Int) / (pn : Int) = (x : Int) := by rw [hx]; rfl
  have e2 : (u : Int).tmod (pn : Int) = (y : Int) := by rw [hy, Int.tmod_eq_emod_of_nonneg (by omega)]; rfl
  have e2' : (u : Int) % (pn : Int) = (y : Int) := by rw [hy]; rfl
  have w1 : IntKind.i64.wrap (x : Int) = (x : Int) := by simp only [IntKind.wrap_i64]; omega
  have w2 : IntKind.i64.wrap (u : Int) = (u : Int) := by simp only [IntKind.wrap_i64]; omega
  have w3 : IntKind.i64.wrap (y : Int) = (y : Int) := by simp only [IntKind.wrap_i64]; omega
  have hpz : ¬ (pn : Int) = 0 := by omega
  have hpz2 : ¬ pn = 0 := by omega
  have HX := Lib.hid (fun W => digits_any x hx6 W)
  have hxs := dgB_size x hx6
  change Hid (∀ W, Calls Tryd.prog 21 #[.int .i64 (x : Int), .int .i64 1] W fun e w' => e = .returned (.string (dgB x)) ∧ Below W.heap.size W w') at HX
  rw [← hu]
  have hdx : dgB x = ⟨(Lib.decDigits (u / 10 ^ k)).toArray⟩ := by rw [hx, hpn]; rfl
  have HY := Lib.hid (fun W => digits_k y k hkp hk (by rw [← hpn]; exact hyp) W)
  have hys : (⟨(pd k y).toArray⟩ : ByteArray).size = k := by show (pd k y).toArray.size = _; rw [List.size_toArray, pd_len]
  have hpy : pd k y = pd k u := by rw [hy, hpn, pd_mod]
  have hV : dgB x ++ ⟨#[46]⟩ ++ ⟨(pd k y).toArray⟩ = dcB false k u := by
    unfold dcB dcL
    rw [hdx, hpy, if_neg (show ¬ k = 0 by omega)]
    show (⟨(Lib.decDigits (u / 10 ^ k)).toArray⟩ : ByteArray) ++ ⟨[46].toArray⟩ ++ ⟨(pd k u).toArray⟩ = _
    rw [bytes_app, bytes_app, List.append_assoc]; rfl
  obtain ⟨B, hB⟩ : ∃ B : ByteArray, B = ⟨(pd k y).toArray⟩ := ⟨_, rfl⟩
  rw [← hB] at hV hys HY
  obtain ⟨V, hVe⟩ : ∃ V, V = dcB false k u := ⟨_, rfl⟩
  rw [← hVe] at hV ⊢
  obtain ⟨F, hF⟩ : ∃ F, F = dgB x := ⟨_, rfl⟩
  rw [← hF] at hV hxs HX
  have HV := Lib.hid hV
  have n0 : ¬ 9223372036854775807 < 1 + F.size := by omega
  have n1 : ¬ 9223372036854775807 < F.size + 1 := by omega
  have n2 : ¬ 9223372036854775807 < 1 + F.size + 1 := by omega
  have n3 : ¬ 9223372036854775807 < F.size + 1 + B.size := by omega
  have n4 : ¬ 9223372036854775807 < 1 + F.size + 1 + B.size := by omega
  have hkI : (0 : Int) < (k : Int) := by omega
  obtain rfl : N = (u : Int) := by omega
  have hnn : ¬ (u : Int) < 0 := by omega
  have hnf : ((u : Int) < 0) = False := eq_false hnn
  have hnp : (0 : Int) ≤ (u : Int) := by omega
  clear hVe hV hF hdx hx hy hpn hpp hb hb2 hN hu hu0 hx6 hyp hxs hp hB hys hpy hkp
  have HA := Lib.hid ((Below.refl w.heap.size w).alloc (Nat.le_refl _) (.cells #[.int .i64 a, .int .i64 d] 23))
  go_enter Tryd.func11, Tryd.ntmps11
  go_wp2_with fail
  refine (HP.out _).mono ?_
  rintro e w1 ⟨rfl, rfl⟩
  go_wp2_with fail
  refine (HM.out _).mono ?_
  rintro e w2 ⟨rfl, hb⟩
  have HB2 := Lib.hid (HA.out.trans (hb.mono HA.out.size))
  clear hb
  go_wp2_with fail
  refine (HX.out _).mono ?_
  rintro e w3 ⟨rfl, hb⟩
  have HB3 := Lib.hid (HB2.out.trans (hb.mono HB2.out.size))
  clear hb
  go_wp2_with fail
  refine (HY.out _).mono ?_
  rintro e w4 ⟨rfl, hb⟩
  have HB4 := Lib.hid (HB3.out.trans (hb.mono HB3.out.size))
  clear hb
  go_wp2_with fail
  go_ret
  exact ⟨by rw [← HV.out]; rfl, HB4.out⟩
set_option maxRecDepth 100000 in
set_option maxHeartbeats 1000000 in
theorem rdecimal_zn (a d : Int) (k : Nat) (hk : k ≤ 6) (h3 : -1048576 ≤ a) (h4 : a ≤ 1048576) (h5 : 1 ≤ d) (h6 : d ≤ 1048576) (N : Int) (hN : N = (10 : Int) ^ k * a / d) (hs : N < 0) (hkz : k = 0) (w : World) :
    Calls Tryd.prog 11 #[.agg #[.int .i64 a, .int .i64 d], .int .i64 (k : Int)] w fun e w' => e = .returned (.string (dcB true k N.natAbs)) ∧ Below w.heap.size w w' := by
  obtain ⟨hp0, hp⟩ := pow6 k hk
  have hb := fl_bd ⟨hp0, hp⟩ h3 h4 h5
  have hb2 := fl_bd2 hp0 h3 h4 h5
  have HP := Lib.hid (fun W => rpower_any k (by omega) W)
  have HM := Lib.hid (fun W => rmulFloor_any ((10 : Int) ^ k) a d (by omega) (by omega) h3 h4 h5 h6 W)
  obtain ⟨pn, hpn⟩ : ∃ pn : Nat, pn = 10 ^ k := ⟨_, rfl⟩
  have hpp : (10 : Int) ^ k = (pn : Int) := by rw [hpn]; exact (Int.natCast_pow 10 k).symm
  have hpp0 : 0 < pn := by rw [hpp] at hp0; omega
  rw [hpp] at HP HM hb hb2 hN hp hp0
  obtain ⟨u, hu⟩ : ∃ u, u = N.natAbs := ⟨_, rfl⟩
  rw [← hN] at HM hb hb2
  have hu0 : u ≤ pn * 1048576 := by omega
  obtain ⟨x, hx⟩ : ∃ x, x = u / pn := ⟨_, rfl⟩
  obtain ⟨y, hy⟩ : ∃ y, y = u % pn := ⟨_, rfl⟩
  have hx6 : x ≤ 1048576 := by rw [hx]; exact Nat.div_le_of_le_mul hu0
  have hyp : y < pn := by rw [hy]; exact Nat.mod_lt _ hpp0
  have e1 : (u : Int).tdiv (pn : Int) = (x : Int) := by rw [hx, Int.tdiv_eq_ediv_of_nonneg (by omega)]; rfl
  have e1' : (u : Int) / (pn : Int) = (x : Int) := by rw [hx]; rfl
  have e2 : (u : Int).tmod (pn : Int) = (y : Int) := by rw [hy, Int.tmod_eq_emod_of_nonneg (by omega)]; rfl
  have e2' : (u : Int) % (pn : Int) = (y : Int) := by rw [hy]; rfl
  have w1 : IntKind.i64.wrap (x : Int) = (x : Int) := by simp only [IntKind.wrap_i64]; omega
  have w2 : IntKind.i64.wrap (u : Int) = (u : Int) := by simp only [IntKind.wrap_i64]; omega
  have w3 : IntKind.i64.wrap (y : Int) = (y : Int) := by simp only [IntKind.wrap_i64]; omega
  have hpz : ¬ (pn : Int) = 0 := by omega
  have hpz2 : ¬ pn = 0 := by omega
  have HX := Lib.hid (fun W => digits_any x hx6 W)
  have hxs := dgB_size x hx6
  change Hid (∀ W, Calls Tryd.prog 21 #[.int .i64 (x : Int), .int .i64 1] W fun e w' => e = .returned (.string (dgB x)) ∧ Below W.heap.size W w') at HX
  rw [← hu]
  have hdx : dgB x = ⟨(Lib.decDigits (u / 10 ^ k)).toArray⟩ := by rw [hx, hpn]; rfl
  have hV : (⟨#[45]⟩ : ByteArray) ++ dgB x = dcB true k u := by
    unfold dcB dcL
    rw [hdx, if_pos hkz, bytes_cons, List.append_nil]; rfl
  obtain ⟨V, hVe⟩ : ∃ V, V = dcB true k u := ⟨_, rfl⟩
  rw [← hVe] at hV ⊢
  obtain ⟨F, hF⟩ : ∃ F, F = dgB x := ⟨_, rfl⟩
  rw [← hF] at hV hxs HX
  have HV := Lib.hid hV
  have n0 : ¬ 9223372036854775807 < 1 + F.size := by omega
  have n1 : ¬ 9223372036854775807 < F.size + 1 := by omega
  have n2 : ¬ 9223372036854775807 < 1 + F.size + 1 := by omega
  have hkI : (k : Int) = 0 := by omega
  have e3 : -N = (u : Int) := by omega
  have e3' : 0 - N = (u : Int) := by omega
  have e4 : wrap64 (-N) = (u : Int) := by rw [e3]; unfold wrap64; omega
  clear hVe hV hF hdx hx hy hpn hpp hb hb2 hN hu hu0 hx6 hyp hxs hp
  rw [hkI] at HP ⊢
  clear hkI hkz
  have HA := Lib.hid ((Below.refl w.heap.size w).alloc (Nat.le_refl _) (.cells #[.int .i64 a, .int .i64 d] 23))
  go_enter Tryd.func11, Tryd.ntmps11
  go_wp2_with fail
  refine (HP.out _).mono ?_
  rintro e w1 ⟨rfl, rfl⟩
  go_wp2_with fail
  refine (HM.out _).mono ?_
  rintro e w2 ⟨rfl, hb⟩
  have HB2 := Lib.hid (HA.out.trans (hb.mono HA.out.size))
  clear hb
  go_wp2_with fail
  refine (HX.out _).mono ?_
  rintro e w3 ⟨rfl, hb⟩
  have HB3 := Lib.hid (HB2.out.trans (hb.mono HB2.out.size))
  clear hb
  go_wp2_with fail
  go_ret
  exact ⟨by rw [← HV.out]; rfl, HB3.out⟩
set_option maxRecDepth 100000 in
set_option maxHeartbeats 1000000 in
theorem rdecimal_zq (a d : Int) (k : Nat) (hk : k ≤ 6) (h3 : -1048576 ≤ a) (h4 : a ≤ 1048576) (h5 : 1 ≤ d) (h6 : d ≤ 1048576) (N : Int) (hN : N = (10 : Int) ^ k * a / d) (hs : 0 ≤ N) (hkz : k = 0) (w : World) :
    Calls Tryd.prog 11 #[.agg #[.int .i64 a, .int .i64 d], .int .i64 (k : Int)] w fun e w' => e = .returned (.string (dcB false k N.natAbs)) ∧ Below w.heap.size w w' := by
  obtain ⟨hp0, hp⟩ := pow6 k hk
  have hb := fl_bd ⟨hp0, hp⟩ h3 h4 h5
  have hb2 := fl_bd2 hp0 h3 h4 h5
  have HP := Lib.hid (fun W => rpower_any k (by omega) W)
  have HM := Lib.hid (fun W => rmulFloor_any ((10 : Int) ^ k) a d (by omega) (by omega) h3 h4 h5 h6 W)
  obtain ⟨pn, hpn⟩ : ∃ pn : Nat, pn = 10 ^ k := ⟨_, rfl⟩
  have hpp : (10 : Int) ^ k = (pn : Int) := by rw [hpn]; exact (Int.natCast_pow 10 k).symm
  have hpp0 : 0 < pn := by rw [hpp] at hp0; omega
  rw [hpp] at HP HM hb hb2 hN hp hp0
  obtain ⟨u, hu⟩ : ∃ u, u = N.natAbs := ⟨_, rfl⟩
  rw [← hN] at HM hb hb2
  have hu0 : u ≤ pn * 1048576 := by omega
  obtain ⟨x, hx⟩ : ∃ x, x = u / pn := ⟨_, rfl⟩
  obtain ⟨y, hy⟩ : ∃ y, y = u % pn := ⟨_, rfl⟩
  have hx6 : x ≤ 1048576 := by rw [hx]; exact Nat.div_le_of_le_mul hu0
  have hyp : y < pn := by rw [hy]; exact Nat.mod_lt _ hpp0
  have e1 : (u : Int).tdiv (pn : Int) = (x : Int) := by rw [hx, Int.tdiv_eq_ediv_of_nonneg (by omega)]; rfl
  have e1' : (u : Int) / (pn : Int) = (x : Int) := by rw [hx]; rfl
  have e2 : (u : Int).tmod (pn : Int) = (y : Int) := by rw [hy, Int.tmod_eq_emod_of_nonneg (by omega)]; rfl
  have e2' : (u : Int) % (pn : Int) = (y : Int) := by rw [hy]; rfl
  have w1 : IntKind.i64.wrap (x : Int) = (x : Int) := by simp only [IntKind.wrap_i64]; omega
  have w2 : IntKind.i64.wrap (u : Int) = (u : Int) := by simp only [IntKind.wrap_i64]; omega
  have w3 : IntKind.i64.wrap (y : Int) = (y : Int) := by simp only [IntKind.wrap_i64]; omega
  have hpz : ¬ (pn : Int) = 0 := by omega
  have hpz2 : ¬ pn = 0 := by omega
  have HX := Lib.hid (fun W => digits_any x hx6 W)
  have hxs := dgB_size x hx6
  change Hid (∀ W, Calls Tryd.prog 21 #[.int .i64 (x : Int), .int .i64 1] W fun e w' => e = .returned (.string (dgB x)) ∧ Below W.heap.size W w') at HX
  rw [← hu]
  have hdx : dgB x = ⟨(Lib.decDigits (u / 10 ^ k)).toArray⟩ := by rw [hx, hpn]; rfl
  have hV : dgB x = dcB false k u := by
    unfold dcB dcL
    rw [hdx, if_pos hkz, List.append_nil]; rfl
  obtain ⟨V, hVe⟩ : ∃ V, V = dcB false k u := ⟨_, rfl⟩
  rw [← hVe] at hV ⊢
  obtain ⟨F, hF⟩ : ∃ F, F = dgB x := ⟨_, rfl⟩
  rw [← hF] at hV hxs HX
  have HV := Lib.hid hV
  have n0 : ¬ 9223372036854775807 < 1 + F.size := by omega
  have n1 : ¬ 9223372036854775807 < F.size + 1 := by omega
  have n2 : ¬ 9223372036854775807 < 1 + F.size + 1 := by omega
  have hkI : (k : Int) = 0 := by omega
  obtain rfl : N = (u : Int) := by omega
  have hnn : ¬ (u : Int) < 0 := by omega
  have hnf : ((u : Int) < 0) = False := eq_false hnn
  have hnp : (0 : Int) ≤ (u : Int) := by omega
  clear hVe hV hF hdx hx hy hpn hpp hb hb2 hN hu hu0 hx6 hyp hxs hp
  rw [hkI] at HP ⊢
  clear hkI hkz
  have HA := Lib.hid ((Below.refl w.heap.size w).alloc (Nat.le_refl _) (.cells #[.int .i64 a, .int .i64 d] 23))
  go_enter Tryd.func11, Tryd.ntmps11
  go_wp2_with fail
  refine (HP.out _).mono ?_
  rintro e w1 ⟨rfl, rfl⟩
  go_wp2_with fail
  refine (HM.out _).mono ?_
  rintro e w2 ⟨rfl, hb⟩
  have HB2 := Lib.hid (HA.out.trans (hb.mono HA.out.size))
  clear hb
  go_wp2_with fail
  refine (HX.out _).mono ?_
  rintro e w3 ⟨rfl, hb⟩
  have HB3 := Lib.hid (HB2.out.trans (hb.mono HB2.out.size))
  clear hb
  go_wp2_with fail
  go_ret
  exact ⟨by rw [← HV.out]; rfl, HB3.out⟩
end Go.Proofs.YtokapficojgkgaaDoor
