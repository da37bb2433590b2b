
/- The program's Decimal. -/
import Derived.Test.YtokapficojgkgaaDoorPd
import Derived.Test.YtokapficojgkgaaDoorFu
import Derived.Test.YtokapficojgkgaaDoorPx
import Derived.Test.YtokapficojgkgaaDoorKnown
namespace Go.Proofs.YtokapficojgkgaaDoor
open Go.ChangeShapes Go.WideShapes Go.ChangeAt Go.RowKit Pl

def zB : ByteArray := ⟨#[48]⟩
theorem rep_zero (c : Nat) : Lib.repeatL zB.data.toList c = List.replicate c 48 := by
  induction c with
  | zero => rfl
  | succ c ih =>
    show zB.data.toList ++ Lib.repeatL zB.data.toList c = _
    rw [ih, List.replicate_succ]; rfl
theorem repeat_any (c : Nat) (hc : c ≤ 100) (w : World) :
    Calls Tryd.prog 26 #[.string zB, .int .i64 (c : Int)] w fun e w' => e = .returned (.string ⟨(List.replicate c 48).toArray⟩) ∧ Below w.heap.size w w' := by
  have h := Tryd.strings_Repeat zB c w (by omega) (by show 1 * c ≤ _; omega)
  rw [rep_zero] at h
  exact h
theorem pow6 (k : Nat) (hk : k ≤ 6) : 0 < (10 : Int) ^ k ∧ (10 : Int) ^ k ≤ 1000000 := by
  have h : k = 0 ∨ k = 1 ∨ k = 2 ∨ k = 3 ∨ k = 4 ∨ k = 5 ∨ k = 6 := by omega
  rcases h with rfl | rfl | rfl | rfl | rfl | rfl | rfl <;> exact ⟨by decide, by decide⟩
theorem ext_front (L : List UInt8) (k : Nat) : (⟨L.toArray⟩ : ByteArray).extract 0 k = ⟨(L.take k).toArray⟩ := by
  refine ByteArray.ext ?_
  rw [ByteArray.data_extract]
  simp [List.extract_toArray]
theorem fl_bd {p a d : Int} (hp : 0 < p ∧ p ≤ 1000000) (h3 : -1048576 ≤ a) (h4 : a ≤ 1048576) (h5 : 1 ≤ d) : -1048576000000 ≤ p * a / d ∧ p * a / d ≤ 1048576000000 := by
  have b1 : p * a ≤ 1000000 * 1048576 := by
    have h := Int.mul_le_mul_of_nonneg_left h4 (show 0 ≤ p by omega)
    have h' := Int.mul_le_mul_of_nonneg_right hp.2 (show (0 : Int) ≤ 1048576 by decide)
    omega
  have b2 : 1000000 * (-1048576) ≤ p * a := by
    have h := Int.mul_le_mul_of_nonneg_left h3 (show 0 ≤ p by omega)
    have h' := Int.mul_le_mul_of_nonpos_right hp.2 (show (-1048576 : Int) ≤ 0 by decide)
    omega
  constructor
  · refine (Int.le_ediv_iff_mul_le (by omega)).2 ?_
    have h := Int.mul_le_mul_of_nonpos_left (show (-1048576000000 : Int) ≤ 0 by decide) h5
    omega
  · by_cases h : 0 ≤ p * a
    · have := Int.ediv_le_self d h; omega
    · have := Int.ediv_neg_of_neg_of_pos (show p * a < 0 by omega) (show 0 < d by omega); omega
set_option maxRecDepth 100000 in
set_option maxHeartbeats 2000000 in
theorem decimal_pmn (a d : Int) (k : Nat) (hk : k ≤ 6) (h3 : -1048576 ≤ a) (h4 : a ≤ 1048576) (h5 : 1 ≤ d) (h6 : d ≤ 1048576) (N : Int) (hN : N = (10 : Int) ^ k * a / d) (hs : N < 0) (hkp : 0 < k) (hm : Lib.nDigits N.natAbs < k + 1) (w : World) (ht : Tb w) :
    Calls Tryd.prog 10 #[.agg #[.int .i64 a, .int .i64 d], .int .i64 (k : Int)] w fun e w' => e = .returned (.tuple #[.string (dcB true k N.natAbs), .int .i64 0]) ∧ Below w.heap.size w w' := by
  obtain ⟨hp0, hp⟩ := pow6 k hk
  have hb := fl_bd ⟨hp0, hp⟩ h3 h4 h5
  have hk0 : ¬ (k : Int) < 0 := by omega
  have hk6 : ¬ (6 : Int) < (k : Int) := by omega
  have hk0' : (0 : Int) ≤ (k : Int) := by omega
  have hk6' : (k : Int) ≤ 6 := by omega
  obtain ⟨W, hW⟩ : ∃ W, W = w.alloc (.cells #[.int .i64 a, .int .i64 d] 23) := ⟨_, rfl⟩
  have hb1 : Below w.heap.size w W := by rw [hW]; exact (Below.refl _ _).alloc (Nat.le_refl _) _
  have C1 : Hid (∀ e os, Calls Tryd.prog 23 #[.int .i64 (k : Int)] (Go.Sort.grow (redrawn W e) os) fun e w'' => e = .returned (.int .i64 ((10 : Int) ^ k)) ∧ ∃ p : Regrown, w'' = Go.Sort.grow (redrawn W p.d) p.os) := Lib.hid (fun e os => Calls.regrown_of ((power_any k (by omega) _).mono (fun _ _ ⟨h, hw⟩ => ⟨h, hw ▸ Below.refl _ _⟩)))
  have C2 : Hid (∀ e os, Calls Tryd.prog 22 #[.int .i64 ((10 : Int) ^ k), .agg #[.int .i64 a, .int .i64 d]] (Go.Sort.grow (redrawn W e) os) fun e w'' => e = .returned (.int .i64 ((10 : Int) ^ k * a / d)) ∧ ∃ p : Regrown, w'' = Go.Sort.grow (redrawn W p.d) p.os) := Lib.hid (fun e os => Calls.regrown_of (floorOf_any _ a d (by omega) (by omega) h3 h4 h5 h6 _))
  have HB1 := Lib.hid hb1
  have HT := Lib.hid (ht.below hb1)
  have c0 : W.cell? ⟨w.heap.size, 0, none⟩ = some (.int .i64 a) := by rw [hW]; exact (cell_of_row _ _ 0 _ _ _ (Deep.blk_alloc_new w _)).trans rfl
  have c1 : W.cell? ⟨w.heap.size, 1, none⟩ = some (.int .i64 d) := by rw [hW]; exact (cell_of_row _ _ 1 _ _ _ (Deep.blk_alloc_new w _)).trans rfl
  have k0 := cell_regrown c0
  have k1 := cell_regrown c1
  obtain ⟨p, hpe⟩ : ∃ p, p = (10 : Int) ^ k := ⟨_, rfl⟩
  rw [← hpe] at C1 C2 hb hN
  obtain ⟨u, hu⟩ : ∃ u, u = N.natAbs := ⟨_, rfl⟩
  rw [← hN] at C2 hb
  have hu1 : u ≤ 1048576000000 := by omega
  have HM := Lib.hid (fun W => magnitude_any N (by omega) (by omega) W)
  rw [← hu] at HM
  have HF := Lib.hid (fun (W' : World) (h : Below W.heap.size W W') => fmt_any u (by omega) W' (HT.out.below h))
  change Hid (∀ (W' : World), Below W.heap.size W W' → Calls Tryd.prog 24 #[.int .u64 (u : Int), .int .i64 10] W' fun e w' => e = .returned (.string (dgB u)) ∧ Below W'.heap.size W' w') at HF
  have hnd := nd_le (k := 12) (u := u) (by omega)
  have hnp := Lib.nDigits_pos u
  have hDs : (dgB u).size = Lib.nDigits u := by show (Lib.decDigits u).toArray.size = _; rw [List.size_toArray, dec_len]
  rw [← hu] at hm
  rw [← hu]
  obtain ⟨c, hc⟩ : ∃ c, c = k + 1 - Lib.nDigits u := ⟨_, rfl⟩
  have HR := Lib.hid (fun W => repeat_any c (by omega) W)
  have hRs : (⟨(List.replicate c (48 : UInt8)).toArray⟩ : ByteArray).size = c := by show (List.replicate c (48 : UInt8)).toArray.size = c; rw [List.size_toArray, List.length_replicate]
  have hP0 : (⟨(List.replicate c (48 : UInt8)).toArray⟩ : ByteArray) ++ dgB u = ⟨(pad k u).toArray⟩ := by unfold dgB pad; rw [bytes_app, hc]
  have hql := pad_len k u
  obtain ⟨q, hq⟩ : ∃ q, q = Lib.nDigits (u / 10 ^ k) := ⟨_, rfl⟩
  have hq1 := Lib.nDigits_pos (u / 10 ^ k)
  have hq2 : Lib.nDigits (u / 10 ^ k) ≤ 13 := nd_le (k := 12) (by have := Nat.div_le_self u (10 ^ k); omega)
  have hF0 : (⟨(pad k u).toArray⟩ : ByteArray).extract 0 q = dgB (u / 10 ^ k) := by rw [ext_front, pad_eq, List.take_left' (by rw [hq, dec_len])]; rfl
  have hB0 : (⟨(pad k u).toArray⟩ : ByteArray).extract q (⟨(pad k u).toArray⟩ : ByteArray).size = ⟨(pd k u).toArray⟩ := by
    have e : (⟨(pad k u).toArray⟩ : ByteArray).size = (pad k u).length := List.size_toArray
    rw [e, ext_list, pad_eq, List.drop_left' (by rw [hq, dec_len])]
  have hPs : (⟨(pad k u).toArray⟩ : ByteArray).size = q + k := by rw [hq]; exact List.size_toArray.trans hql
  have hFs : (dgB (u / 10 ^ k)).size = q := by show (Lib.decDigits (u / 10 ^ k)).toArray.size = _; rw [List.size_toArray, dec_len, hq]
  have hBs : (⟨(pd k u).toArray⟩ : ByteArray).size = k := by show (pd k u).toArray.size = _; rw [List.size_toArray, pd_len]
  have hV0 : (⟨#[45]⟩ : ByteArray) ++ (dgB (u / 10 ^ k) ++ ⟨#[46]⟩ ++ ⟨(pd k u).toArray⟩) = dcB true k u := by
    unfold dcB dcL dgB
    rw [if_neg (show ¬ k = 0 by omega), if_pos rfl]
    show (⟨[45].toArray⟩ : ByteArray) ++ (⟨(Lib.decDigits (u / 10 ^ k)).toArray⟩ ++ ⟨[46].toArray⟩ ++ ⟨(pd k u).toArray⟩) = _
    rw [bytes_app, bytes_app, bytes_app, List.append_assoc]; rfl
  obtain ⟨V, hV⟩ : ∃ V, V = dcB true k u := ⟨_, rfl⟩
  rw [← hV] at hV0 ⊢
  obtain ⟨P, hP⟩ : ∃ P : ByteArray, P = ⟨(pad k u).toArray⟩ := ⟨_, rfl⟩
  rw [← hP] at hP0 hF0 hB0 hPs
  obtain ⟨F, hF⟩ : ∃ F, F = dgB (u / 10 ^ k) := ⟨_, rfl⟩
  rw [← hF] at hF0 hFs hV0
  obtain ⟨B, hB⟩ : ∃ B : ByteArray, B = ⟨(pd k u).toArray⟩ := ⟨_, rfl⟩
  rw [← hB] at hB0 hBs hV0
  obtain ⟨D, hD⟩ : ∃ D, D = dgB u := ⟨_, rfl⟩
  rw [← hD] at HF hDs hP0
  obtain ⟨R, hR⟩ : ∃ R : ByteArray, R = ⟨(List.replicate c (48 : UInt8)).toArray⟩ := ⟨_, rfl⟩
  rw [← hR] at HR hRs hP0
  have w1 : IntKind.i64.wrap ((k : Int) + 1) = (k : Int) + 1 := by simp only [IntKind.wrap_i64]; omega
  have e2 : (k : Int) + 1 - (D.size : Int) = (c : Int) := by omega
  have w2 : IntKind.i64.wrap (c : Int) = (c : Int) := by simp only [IntKind.wrap_i64]; omega
  have hcp : (0 : Int) < (c : Int) := by omega
  have n0 : ¬ 9223372036854775807 < R.size + D.size := by omega
  have e3 : (P.size : Int) - (k : Int) = (q : Int) := by omega
  have w3 : IntKind.i64.wrap (q : Int) = (q : Int) := by simp only [IntKind.wrap_i64]; omega
  have hkI : (0 : Int) < (k : Int) := by omega
  have hqP : (q : Int) ≤ (P.size : Int) := by omega
  have hqP2 : q ≤ P.size := by omega
  have hq0 : (0 : Int) ≤ (q : Int) := by omega
  have n1 : ¬ 9223372036854775807 < F.size + 1 := by omega
  have n2 : ¬ 9223372036854775807 < F.size + 1 + B.size := by omega
  have n3 : ¬ 9223372036854775807 < 1 + (F.size + 1 + B.size) := by omega
  have HP0 := Lib.hid hP0
  have HV0 := Lib.hid hV0
  clear hql hq hq1 hq2 hPs hFs hBs hV hP hF hB hD hV0 hDs hnd hnp hb hpe hN hu hu1 hp0 hp ht hb1 hkp hm hk hR hRs hc
  go_enter Tryd.func10, Tryd.ntmps10
  go_wp2_with fail
  rw [← hW]
  clear hW
  refine wp_region_quiet_below (by kernel_rfl) (by kernel_rfl) ?_
  repeat (go_big_quiet_step ((first | with_reducible exact C1.out _ _ | with_reducible exact C2.out _ _)))
  refine wpQuiet_nil ?_
  intro _ hw'
  obtain ⟨⟨dq, osq⟩, hw''⟩ := hw'
  subst hw''
  have hbr := below_regrown W dq osq
  obtain ⟨W2, hW2⟩ : ∃ x, x = Go.Sort.grow (redrawn W dq) osq := ⟨_, rfl⟩
  rw [← hW2] at hbr ⊢
  have HBR := Lib.hid hbr
  have HB2 := Lib.hid (HB1.out.trans (hbr.mono HB1.out.size))
  clear hW2 hbr k0 k1 c0 c1 C1 C2
  (try (refine (by assumption : ∀ _ _, _ → _) _ _ ?_))
  go_wp2_with fail
  refine (HM.out _).mono ?_
  rintro e w' ⟨rfl, rfl⟩
  go_wp2_with fail
  refine (HF.out _ HBR.out).mono ?_
  rintro e w3 ⟨rfl, hb⟩
  have HB3 := Lib.hid (HB2.out.trans (hb.mono HB2.out.size))
  clear hb
  have hP0 := HP0.out
  go_wp2_with fail
  refine (HR.out _).mono ?_
  rintro e w4 ⟨rfl, hb⟩
  have HB4 := Lib.hid (HB3.out.trans (hb.mono HB3.out.size))
  clear hb
  go_wp2_with fail
  go_quiet (fail)
  have HB9 : Hid (Below w.heap.size w (w4.drewN nq)) := Lib.hid (HB4.out.trans ⟨rfl, rfl, rfl, Nat.le_refl _, fun _ _ => rfl⟩)
  (refine (by assumption : ∀ _ _, _ → _) _ _ ?_)
  go_wp2_with fail
  go_ret2
  exact ⟨by rw [← HV0.out]; rfl, HB9.out⟩
set_option maxRecDepth 100000 in
set_option maxHeartbeats 2000000 in
theorem decimal_pmq (a d : Int) (k : Nat) (hk : k ≤ 6) (h3 : -1048576 ≤ a) (h4 : a ≤ 1048576) (h5 : 1 ≤ d) (h6 : d ≤ 1048576) (N : Int) (hN : N = (10 : Int) ^ k * a / d) (hs : 0 ≤ N) (hkp : 0 < k) (hm : Lib.nDigits N.natAbs < k + 1) (w : World) (ht : Tb w) :
    Calls Tryd.prog 10 #[.agg #[.int .i64 a, .int .i64 d], .int .i64 (k : Int)] w fun e w' => e = .returned (.tuple #[.string (dcB false k N.natAbs), .int .i64 0]) ∧ Below w.heap.size w w' := by
  obtain ⟨hp0, hp⟩ := pow6 k hk
  have hb := fl_bd ⟨hp0, hp⟩ h3 h4 h5
  have hk0 : ¬ (k : Int) < 0 := by omega
  have hk6 : ¬ (6 : Int) < (k : Int) := by omega
  have hk0' : (0 : Int) ≤ (k : Int) := by omega
  have hk6' : (k : Int) ≤ 6 := by omega
  obtain ⟨W, hW⟩ : ∃ W, W = w.alloc (.cells #[.int .i64 a, .int .i64 d] 23) := ⟨_, rfl⟩
  have hb1 : Below w.heap.size w W := by rw [hW]; exact (Below.refl _ _).alloc (Nat.le_refl _) _
  have C1 : Hid (∀ e os, Calls Tryd.prog 23 #[.int .i64 (k : Int)] (Go.Sort.grow (redrawn W e) os) fun e w'' => e = .returned (.int .i64 ((10 : Int) ^ k)) ∧ ∃ p : Regrown, w'' = Go.Sort.grow (redrawn W p.d) p.os) := Lib.hid (fun e os => Calls.regrown_of ((power_any k (by omega) _).mono (fun _ _ ⟨h, hw⟩ => ⟨h, hw ▸ Below.refl _ _⟩)))
  have C2 : Hid (∀ e os, Calls Tryd.prog 22 #[.int .i64 ((10 : Int) ^ k), .agg #[.int .i64 a, .int .i64 d]] (Go.Sort.grow (redrawn W e) os) fun e w'' => e = .returned (.int .i64 ((10 : Int) ^ k * a / d)) ∧ ∃ p : Regrown, w'' = Go.Sort.grow (redrawn W p.d) p.os) := Lib.hid (fun e os => Calls.regrown_of (floorOf_any _ a d (by omega) (by omega) h3 h4 h5 h6 _))
  have HB1 := Lib.hid hb1
  have HT := Lib.hid (ht.below hb1)
  have c0 : W.cell? ⟨w.heap.size, 0, none⟩ = some (.int .i64 a) := by rw [hW]; exact (cell_of_row _ _ 0 _ _ _ (Deep.blk_alloc_new w _)).trans rfl
  have c1 : W.cell? ⟨w.heap.size, 1, none⟩ = some (.int .i64 d) := by rw [hW]; exact (cell_of_row _ _ 1 _ _ _ (Deep.blk_alloc_new w _)).trans rfl
  have k0 := cell_regrown c0
  have k1 := cell_regrown c1
  obtain ⟨p, hpe⟩ : ∃ p, p = (10 : Int) ^ k := ⟨_, rfl⟩
  rw [← hpe] at C1 C2 hb hN
  obtain ⟨u, hu⟩ : ∃ u, u = N.natAbs := ⟨_, rfl⟩
  rw [← hN] at C2 hb
  have hu1 : u ≤ 1048576000000 := by omega
  have HM := Lib.hid (fun W => magnitude_any N (by omega) (by omega) W)
  rw [← hu] at HM
  have HF := Lib.hid (fun (W' : World) (h : Below W.heap.size W W') => fmt_any u (by omega) W' (HT.out.below h))
  change Hid (∀ (W' : World), Below W.heap.size W W' → Calls Tryd.prog 24 #[.int .u64 (u : Int), .int .i64 10] W' fun e w' => e = .returned (.string (dgB u)) ∧ Below W'.heap.size W' w') at HF
  have hnd := nd_le (k := 12) (u := u) (by omega)
  have hnp := Lib.nDigits_pos u
  have hDs : (dgB u).size = Lib.nDigits u := by show (Lib.decDigits u).toArray.size = _; rw [List.size_toArray, dec_len]
  rw [← hu] at hm
  rw [← hu]
  obtain ⟨c, hc⟩ : ∃ c, c = k + 1 - Lib.nDigits u := ⟨_, rfl⟩
  have HR := Lib.hid (fun W => repeat_any c (by omega) W)
  have hRs : (⟨(List.replicate c (48 : UInt8)).toArray⟩ : ByteArray).size = c := by show (List.replicate c (48 : UInt8)).toArray.size = c; rw [List.size_toArray, List.length_replicate]
  have hP0 : (⟨(List.replicate c (48 : UInt8)).toArray⟩ : ByteArray) ++ dgB u = ⟨(pad k u).toArray⟩ := by unfold dgB pad; rw [bytes_app, hc]
  have hql := pad_len k u
  obtain ⟨q, hq⟩ : ∃ q, q = Lib.nDigits (u / 10 ^ k) := ⟨_, rfl⟩
  have hq1 := Lib.nDigits_pos (u / 10 ^ k)
  have hq2 : Lib.nDigits (u / 10 ^ k) ≤ 13 := nd_le (k := 12) (by have := Nat.div_le_self u (10 ^ k); omega)
  have hF0 : (⟨(pad k u).toArray⟩ : ByteArray).extract 0 q = dgB (u / 10 ^ k) := by rw [ext_front, pad_eq, List.take_left' (by rw [hq, dec_len])]; rfl
  have hB0 : (⟨(pad k u).toArray⟩ : ByteArray).extract q (⟨(pad k u).toArray⟩ : ByteArray).size = ⟨(pd k u).toArray⟩ := by
    have e : (⟨(pad k u).toArray⟩ : ByteArray).size = (pad k u).length := List.size_toArray
    rw [e, ext_list, pad_eq, List.drop_left' (by rw [hq, dec_len])]
  have hPs : (⟨(pad k u).toArray⟩ : ByteArray).size = q + k := by rw [hq]; exact List.size_toArray.trans hql
  have hFs : (dgB (u / 10 ^ k)).size = q := by show (Lib.decDigits (u / 10 ^ k)).toArray.size = _; rw [List.size_toArray, dec_len, hq]
  have hBs : (⟨(pd k u).toArray⟩ : ByteArray).size = k := by show (pd k u).toArray.size = _; rw [List.size_toArray, pd_len]
  have hV0 : dgB (u / 10 ^ k) ++ ⟨#[46]⟩ ++ ⟨(pd k u).toArray⟩ = dcB false k u := by
    unfold dcB dcL dgB
    rw [if_neg (show ¬ k = 0 by omega)]
    show (⟨(Lib.decDigits (u / 10 ^ k)).toArray⟩ : ByteArray) ++ ⟨[46].toArray⟩ ++ ⟨(pd k u).toArray⟩ = _
    rw [bytes_app, bytes_app, List.append_assoc]; rfl
  obtain ⟨V, hV⟩ : ∃ V, V = dcB false k u := ⟨_, rfl⟩
  rw [← hV] at hV0 ⊢
  obtain ⟨P, hP⟩ : ∃ P : ByteArray, P = ⟨(pad k u).toArray⟩ := ⟨_, rfl⟩
  rw [← hP] at hP0 hF0 hB0 hPs
  obtain ⟨F, hF⟩ : ∃ F, F = dgB (u / 10 ^ k) := ⟨_, rfl⟩
  rw [← hF] at hF0 hFs hV0
  obtain ⟨B, hB⟩ : ∃ B : ByteArray, B = ⟨(pd k u).toArray⟩ := ⟨_, rfl⟩
  rw [← hB] at hB0 hBs hV0
  obtain ⟨D, hD⟩ : ∃ D, D = dgB u := ⟨_, rfl⟩
  rw [← hD] at HF hDs hP0
  obtain ⟨R, hR⟩ : ∃ R : ByteArray, R = ⟨(List.replicate c (48 : UInt8)).toArray⟩ := ⟨_, rfl⟩
  rw [← hR] at HR hRs hP0
  have w1 : IntKind.i64.wrap ((k : Int) + 1) = (k : Int) + 1 := by simp only [IntKind.wrap_i64]; omega
  have e2 : (k : Int) + 1 - (D.size : Int) = (c : Int) := by omega
  have w2 : IntKind.i64.wrap (c : Int) = (c : Int) := by simp only [IntKind.wrap_i64]; omega
  have hcp : (0 : Int) < (c : Int) := by omega
  have n0 : ¬ 9223372036854775807 < R.size + D.size := by omega
  have e3 : (P.size : Int) - (k : Int) = (q : Int) := by omega
  have w3 : IntKind.i64.wrap (q : Int) = (q : Int) := by simp only [IntKind.wrap_i64]; omega
  have hkI : (0 : Int) < (k : Int) := by omega
  have hqP : (q : Int) ≤ (P.size : Int) := by omega
  have hqP2 : q ≤ P.size := by omega
  have hq0 : (0 : Int) ≤ (q : Int) := by omega
  have n1 : ¬ 9223372036854775807 < F.size + 1 := by omega
  have n2 : ¬ 9223372036854775807 < F.size + 1 + B.size := by omega
  have n3 : ¬ 9223372036854775807 < 1 + (F.size + 1 + B.size) := by omega
  have HP0 := Lib.hid hP0
  have HV0 := Lib.hid hV0
  clear hql hq hq1 hq2 hPs hFs hBs hV hP hF hB hD hV0 hDs hnd hnp hb hpe hN hu hu1 hp0 hp ht hb1 hkp hm hk hR hRs hc
  have hnf : (N < 0) = False := eq_false (by omega)
  go_enter Tryd.func10, Tryd.ntmps10
  go_wp2_with fail
  rw [← hW]
  clear hW
  refine wp_region_quiet_below (by kernel_rfl) (by kernel_rfl) ?_
  repeat (go_big_quiet_step ((first | with_reducible exact C1.out _ _ | with_reducible exact C2.out _ _)))
  refine wpQuiet_nil ?_
  intro _ hw'
  obtain ⟨⟨dq, osq⟩, hw''⟩ := hw'
  subst hw''
  have hbr := below_regrown W dq osq
  obtain ⟨W2, hW2⟩ : ∃ x, x = Go.Sort.grow (redrawn W dq) osq := ⟨_, rfl⟩
  rw [← hW2] at hbr ⊢
  have HBR := Lib.hid hbr
  have HB2 := Lib.hid (HB1.out.trans (hbr.mono HB1.out.size))
  clear hW2 hbr k0 k1 c0 c1 C1 C2
  (try (refine (by assumption : ∀ _ _, _ → _) _ _ ?_))
  go_wp2_with fail
  refine (HM.out _).mono ?_
  rintro e w' ⟨rfl, rfl⟩
  go_wp2_with fail
  refine (HF.out _ HBR.out).mono ?_
  rintro e w3 ⟨rfl, hb⟩
  have HB3 := Lib.hid (HB2.out.trans (hb.mono HB2.out.size))
  clear hb
  have hP0 := HP0.out
  go_wp2_with fail
  refine (HR.out _).mono ?_
  rintro e w4 ⟨rfl, hb⟩
  have HB4 := Lib.hid (HB3.out.trans (hb.mono HB3.out.size))
  clear hb
  go_wp2_with fail
  go_quiet (fail)
  have HB9 : Hid (Below w.heap.size w (w4.drewN nq)) := Lib.hid (HB4.out.trans ⟨rfl, rfl, rfl, Nat.le_refl _, fun _ _ => rfl⟩)
  (refine (by assumption : ∀ _ _, _ → _) _ _ ?_)
  go_wp2_with fail
  go_ret2
  exact ⟨by rw [← HV0.out]; rfl, HB9.out⟩
set_option maxRecDepth 100000 in
set_option maxHeartbeats 2000000 in
theorem decimal_pfn (a d : Int) (k : Nat) (hk : k ≤ 6) (h3 : -1048576 ≤ a) (h4 : a ≤ 1048576) (h5 : 1 ≤ d) (h6 : d ≤ 1048576) (N : Int) (hN : N = (10 : Int) ^ k * a / d) (hs : N < 0) (hkp : 0 < k) (hm : k + 1 ≤ Lib.nDigits N.natAbs) (w : World) (ht : Tb w) :
    Calls Tryd.prog 10 #[.agg #[.int .i64 a, .int .i64 d], .int .i64 (k : Int)] w fun e w' => e = .returned (.tuple #[.string (dcB true k N.natAbs), .int .i64 0]) ∧ Below w.heap.size w w' := by
  obtain ⟨hp0, hp⟩ := pow6 k hk
  have hb := fl_bd ⟨hp0, hp⟩ h3 h4 h5
  have hk0 : ¬ (k : Int) < 0 := by omega
  have hk6 : ¬ (6 : Int) < (k : Int) := by omega
  have hk0' : (0 : Int) ≤ (k : Int) := by omega
  have hk6' : (k : Int) ≤ 6 := by omega
  obtain ⟨W, hW⟩ : ∃ W, W = w.alloc (.cells #[.int .i64 a, .int .i64 d] 23) := ⟨_, rfl⟩
  have hb1 : Below w.heap.size w W := by rw [hW]; exact (Below.refl _ _).alloc (Nat.le_refl _) _
  have C1 : Hid (∀ e os, Calls Tryd.prog 23 #[.int .i64 (k : Int)] (Go.Sort.grow (redrawn W e) os) fun e w'' => e = .returned (.int .i64 ((10 : Int) ^ k)) ∧ ∃ p : Regrown, w'' = Go.Sort.grow (redrawn W p.d) p.os) := Lib.hid (fun e os => Calls.regrown_of ((power_any k (by omega) _).mono (fun _ _ ⟨h, hw⟩ => ⟨h, hw ▸ Below.refl _ _⟩)))
  have C2 : Hid (∀ e os, Calls Tryd.prog 22 #[.int .i64 ((10 : Int) ^ k), .agg #[.int .i64 a, .int .i64 d]] (Go.Sort.grow (redrawn W e) os) fun e w'' => e = .returned (.int .i64 ((10 : Int) ^ k * a / d)) ∧ ∃ p : Regrown, w'' = Go.Sort.grow (redrawn W p.d) p.os) := Lib.hid (fun e os => Calls.regrown_of (floorOf_any _ a d (by omega) (by omega) h3 h4 h5 h6 _))
  have HB1 := Lib.hid hb1
  have HT := Lib.hid (ht.below hb1)
  have c0 : W.cell? ⟨w.heap.size, 0, none⟩ = some (.int .i64 a) := by rw [hW]; exact (cell_of_row _ _ 0 _ _ _ (Deep.blk_alloc_new w _)).trans rfl
  have c1 : W.cell? ⟨w.heap.size, 1, none⟩ = some (.int .i64 d) := by rw [hW]; exact (cell_of_row _ _ 1 _ _ _ (Deep.blk_alloc_new w _)).trans rfl
  have k0 := cell_regrown c0
  have k1 := cell_regrown c1
  obtain ⟨p, hpe⟩ : ∃ p, p = (10 : Int) ^ k := ⟨_, rfl⟩
  rw [← hpe] at C1 C2 hb hN
  obtain ⟨u, hu⟩ : ∃ u, u = N.natAbs := ⟨_, rfl⟩
  rw [← hN] at C2 hb
  have hu1 : u ≤ 1048576000000 := by omega
  have HM := Lib.hid (fun W => magnitude_any N (by omega) (by omega) W)
  rw [← hu] at HM
  have HF := Lib.hid (fun (W' : World) (h : Below W.heap.size W W') => fmt_any u (by omega) W' (HT.out.below h))
  change Hid (∀ (W' : World), Below W.heap.size W W' → Calls Tryd.prog 24 #[.int .u64 (u : Int), .int .i64 10] W' fun e w' => e = .returned (.string (dgB u)) ∧ Below W'.heap.size W' w') at HF
  have hnd := nd_le (k := 12) (u := u) (by omega)
  have hnp := Lib.nDigits_pos u
  have hDs : (dgB u).size = Lib.nDigits u := by show (Lib.decDigits u).toArray.size = _; rw [List.size_toArray, dec_len]
  rw [← hu] at hm
  rw [← hu]
  have hP0 : dgB u = ⟨(pad k u).toArray⟩ := by unfold dgB pad; rw [show k + 1 - Lib.nDigits u = 0 by omega]; rfl
  have hql := pad_len k u
  obtain ⟨q, hq⟩ : ∃ q, q = Lib.nDigits (u / 10 ^ k) := ⟨_, rfl⟩
  have hq1 := Lib.nDigits_pos (u / 10 ^ k)
  have hq2 : Lib.nDigits (u / 10 ^ k) ≤ 13 := nd_le (k := 12) (by have := Nat.div_le_self u (10 ^ k); omega)
  have hF0 : (⟨(pad k u).toArray⟩ : ByteArray).extract 0 q = dgB (u / 10 ^ k) := by rw [ext_front, pad_eq, List.take_left' (by rw [hq, dec_len])]; rfl
  have hB0 : (⟨(pad k u).toArray⟩ : ByteArray).extract q (⟨(pad k u).toArray⟩ : ByteArray).size = ⟨(pd k u).toArray⟩ := by
    have e : (⟨(pad k u).toArray⟩ : ByteArray).size = (pad k u).length := List.size_toArray
    rw [e, ext_list, pad_eq, List.drop_left' (by rw [hq, dec_len])]
  have hPs : (⟨(pad k u).toArray⟩ : ByteArray).size = q + k := by rw [hq]; exact List.size_toArray.trans hql
  have hFs : (dgB (u / 10 ^ k)).size = q := by show (Lib.decDigits (u / 10 ^ k)).toArray.size = _; rw [List.size_toArray, dec_len, hq]
  have hBs : (⟨(pd k u).toArray⟩ : ByteArray).size = k := by show (pd k u).toArray.size = _; rw [List.size_toArray, pd_len]
  have hV0 : (⟨#[45]⟩ : ByteArray) ++ (dgB (u / 10 ^ k) ++ ⟨#[46]⟩ ++ ⟨(pd k u).toArray⟩) = dcB true k u := by
    unfold dcB dcL dgB
    rw [if_neg (show ¬ k = 0 by omega), if_pos rfl]
    show (⟨[45].toArray⟩ : ByteArray) ++ (⟨(Lib.decDigits (u / 10 ^ k)).toArray⟩ ++ ⟨[46].toArray⟩ ++ ⟨(pd k u).toArray⟩) = _
    rw [bytes_app, bytes_app, bytes_app, List.append_assoc]; rfl
  obtain ⟨V, hV⟩ : ∃ V, V = dcB true k u := ⟨_, rfl⟩
  rw [← hV] at hV0 ⊢
  obtain ⟨P, hP⟩ : ∃ P : ByteArray, P = ⟨(pad k u).toArray⟩ := ⟨_, rfl⟩
  rw [← hP] at hP0 hF0 hB0 hPs
  obtain ⟨F, hF⟩ : ∃ F, F = dgB (u / 10 ^ k) := ⟨_, rfl⟩
  rw [← hF] at hF0 hFs hV0
  obtain ⟨B, hB⟩ : ∃ B : ByteArray, B = ⟨(pd k u).toArray⟩ := ⟨_, rfl⟩
  rw [← hB] at hB0 hBs hV0
  obtain ⟨D, hD⟩ : ∃ D, D = dgB u := ⟨_, rfl⟩
  rw [← hD] at HF hDs hP0
  have w1 : IntKind.i64.wrap ((k : Int) + 1) = (k : Int) + 1 := by simp only [IntKind.wrap_i64]; omega
  have w2 : IntKind.i64.wrap ((k : Int) + 1 - (D.size : Int)) = (k : Int) + 1 - (D.size : Int) := by simp only [IntKind.wrap_i64]; omega
  have hcn : (k : Int) + 1 - (D.size : Int) ≤ 0 := by omega
  have hcf : (0 < (k : Int) + 1 - (D.size : Int)) = False := eq_false (by omega)
  have hcm : (k : Int) + 1 ≤ (D.size : Int) := by omega
  have e3 : (P.size : Int) - (k : Int) = (q : Int) := by omega
  have w3 : IntKind.i64.wrap (q : Int) = (q : Int) := by simp only [IntKind.wrap_i64]; omega
  have hkI : (0 : Int) < (k : Int) := by omega
  have hqP : (q : Int) ≤ (P.size : Int) := by omega
  have hqP2 : q ≤ P.size := by omega
  have hq0 : (0 : Int) ≤ (q : Int) := by omega
  have n1 : ¬ 9223372036854775807 < F.size + 1 := by omega
  have n2 : ¬ 9223372036854775807 < F.size + 1 + B.size := by omega
  have n3 : ¬ 9223372036854775807 < 1 + (F.size + 1 + B.size) := by omega
  have HP0 := Lib.hid hP0
  have HV0 := Lib.hid hV0
  rw [hP0] at HF hDs w2 hcn hcf hcm
  clear hP0
  clear hql hq hq1 hq2 hPs hFs hBs hV hP hF hB hD hV0 hDs hnd hnp hb hpe hN hu hu1 hp0 hp ht hb1 hkp hm hk
  go_enter Tryd.func10, Tryd.ntmps10
  go_wp2_with fail
  rw [← hW]
  clear hW
  refine wp_region_quiet_below (by kernel_rfl) (by kernel_rfl) ?_
  repeat (go_big_quiet_step ((first | with_reducible exact C1.out _ _ | with_reducible exact C2.out _ _)))
  refine wpQuiet_nil ?_
  intro _ hw'
  obtain ⟨⟨dq, osq⟩, hw''⟩ := hw'
  subst hw''
  have hbr := below_regrown W dq osq
  obtain ⟨W2, hW2⟩ : ∃ x, x = Go.Sort.grow (redrawn W dq) osq := ⟨_, rfl⟩
  rw [← hW2] at hbr ⊢
  have HBR := Lib.hid hbr
  have HB2 := Lib.hid (HB1.out.trans (hbr.mono HB1.out.size))
  clear hW2 hbr k0 k1 c0 c1 C1 C2
  (try (refine (by assumption : ∀ _ _, _ → _) _ _ ?_))
  go_wp2_with fail
  refine (HM.out _).mono ?_
  rintro e w' ⟨rfl, rfl⟩
  go_wp2_with fail
  refine (HF.out _ HBR.out).mono ?_
  rintro e w3 ⟨rfl, hb⟩
  have HB3 := Lib.hid (HB2.out.trans (hb.mono HB2.out.size))
  clear hb
  go_wp2_with fail
  go_quiet (fail)
  have HB9 : Hid (Below w.heap.size w (w3.drewN nq)) := Lib.hid (HB3.out.trans ⟨rfl, rfl, rfl, Nat.le_refl _, fun _ _ => rfl⟩)
  (refine (by assumption : ∀ _ _, _ → _) _ _ ?_)
  go_wp2_with fail
  go_ret2
  exact ⟨by rw [← HV0.out]; rfl, HB9.out⟩
set_option maxRecDepth 100000 in
set_option maxHeartbeats 2000000 in
theorem decimal_pfq (a d : Int) (k : Nat) (hk : k ≤ 6) (h3 : -1048576 ≤ a) (h4 : a ≤ 1048576) (h5 : 1 ≤ d) (h6 : d ≤ 1048576) (N : Int) (hN : N = (10 : Int) ^ k * a / d) (hs : 0 ≤ N) (hkp : 0 < k) (hm : k + 1 ≤ Lib.nDigits N.natAbs) (w : World) (ht : Tb w) :
    Calls Tryd.prog 10 #[.agg #[.int .i64 a, .int .i64 d], .int .i64 (k : Int)] w fun e w' => e = .returned (.tuple #[.string (dcB false k N.natAbs), .int .i64 0]) ∧ Below w.heap.size w w' := by
  obtain ⟨hp0, hp⟩ := pow6 k hk
  have hb := fl_bd ⟨hp0, hp⟩ h3 h4 h5
  have hk0 : ¬ (k : Int) < 0 := by omega
  have hk6 : ¬ (6 : Int) < (k : Int) := by omega
  have hk0' : (0 : Int) ≤ (k : Int) := by omega
  have hk6' : (k : Int) ≤ 6 := by omega
  obtain ⟨W, hW⟩ : ∃ W, W = w.alloc (.cells #[.int .i64 a, .int .i64 d] 23) := ⟨_, rfl⟩
  have hb1 : Below w.heap.size w W := by rw [hW]; exact (Below.refl _ _).alloc (Nat.le_refl _) _
  have C1 : Hid (∀ e os, Calls Tryd.prog 23 #[.int .i64 (k : Int)] (Go.Sort.grow (redrawn W e) os) fun e w'' => e = .returned (.int .i64 ((10 : Int) ^ k)) ∧ ∃ p : Regrown, w'' = Go.Sort.grow (redrawn W p.d) p.os) := Lib.hid (fun e os => Calls.regrown_of ((power_any k (by omega) _).mono (fun _ _ ⟨h, hw⟩ => ⟨h, hw ▸ Below.refl _ _⟩)))
  have C2 : Hid (∀ e os, Calls Tryd.prog 22 #[.int .i64 ((10 : Int) ^ k), .agg #[.int .i64 a, .int .i64 d]] (Go.Sort.grow (redrawn W e) os) fun e w'' => e = .returned (.int .i64 ((10 : Int) ^ k * a / d)) ∧ ∃ p : Regrown, w'' = Go.Sort.grow (redrawn W p.d) p.os) := Lib.hid (fun e os => Calls.regrown_of (floorOf_any _ a d (by omega) (by omega) h3 h4 h5 h6 _))
  have HB1 := Lib.hid hb1
  have HT := Lib.hid (ht.below hb1)
  have c0 : W.cell? ⟨w.heap.size, 0, none⟩ = some (.int .i64 a) := by rw [hW]; exact (cell_of_row _ _ 0 _ _ _ (Deep.blk_alloc_new w _)).trans rfl
  have c1 : W.cell? ⟨w.heap.size, 1, none⟩ = some (.int .i64 d) := by rw [hW]; exact (cell_of_row _ _ 1 _ _ _ (Deep.blk_alloc_new w _)).trans rfl
  have k0 := cell_regrown c0
  have k1 := cell_regrown c1
  obtain ⟨p, hpe⟩ : ∃ p, p = (10 : Int) ^ k := ⟨_, rfl⟩
  rw [← hpe] at C1 C2 hb hN
  obtain ⟨u, hu⟩ : ∃ u, u = N.natAbs := ⟨_, rfl⟩
  rw [← hN] at C2 hb
  have hu1 : u ≤ 1048576000000 := by omega
  have HM := Lib.hid (fun W => magnitude_any N (by omega) (by omega) W)
  rw [← hu] at HM
  have HF := Lib.hid (fun (W' : World) (h : Below W.heap.size W W') => fmt_any u (by omega) W' (HT.out.below h))
  change Hid (∀ (W' : World), Below W.heap.size W W' → Calls Tryd.prog 24 #[.int .u64 (u : Int), .int .i64 10] W' fun e w' => e = .returned (.string (dgB u)) ∧ Below W'.heap.size W' w') at HF
  have hnd := nd_le (k := 12) (u := u) (by omega)
  have hnp := Lib.nDigits_pos u
  have hDs : (dgB u).size = Lib.nDigits u := by show (Lib.decDigits u).toArray.size = _; rw [List.size_toArray, dec_len]
  rw [← hu] at hm
  rw [← hu]
  have hP0 : dgB u = ⟨(pad k u).toArray⟩ := by unfold dgB pad; rw [show k + 1 - Lib.nDigits u = 0 by omega]; rfl
  have hql := pad_len k u
  obtain ⟨q, hq⟩ : ∃ q, q = Lib.nDigits (u / 10 ^ k) := ⟨_, rfl⟩
  have hq1 := Lib.nDigits_pos (u / 10 ^ k)
  have hq2 : Lib.nDigits (u / 10 ^ k) ≤ 13 := nd_le (k := 12) (by have := Nat.div_le_self u (10 ^ k); omega)
  have hF0 : (⟨(pad k u).toArray⟩ : ByteArray).extract 0 q = dgB (u / 10 ^ k) := by rw [ext_front, pad_eq, List.take_left' (by rw [hq, dec_len])]; rfl
  have hB0 : (⟨(pad k u).toArray⟩ : ByteArray).extract q (⟨(pad k u).toArray⟩ : ByteArray).size = ⟨(pd k u).toArray⟩ := by
    have e : (⟨(pad k u).toArray⟩ : ByteArray).size = (pad k u).length := List.size_toArray
    rw [e, ext_list, pad_eq, List.drop_left' (by rw [hq, dec_len])]
  have hPs : (⟨(pad k u).toArray⟩ : ByteArray).size = q + k := by rw [hq]; exact List.size_toArray.trans hql
  have hFs : (dgB (u / 10 ^ k)).size = q := by show (Lib.decDigits (u / 10 ^ k)).toArray.size = _; rw [List.size_toArray, dec_len, hq]
  have hBs : (⟨(pd k u).toArray⟩ : ByteArray).size = k := by show (pd k u).toArray.size = _; rw [List.size_toArray, pd_len]
  have hV0 : dgB (u / 10 ^ k) ++ ⟨#[46]⟩ ++ ⟨(pd k u).toArray⟩ = dcB false k u := by
    unfold dcB dcL dgB
    rw [if_neg (show ¬ k = 0 by omega)]
    show (⟨(Lib.decDigits (u / 10 ^ k)).toArray⟩ : ByteArray) ++ ⟨[46].toArray⟩ ++ ⟨(pd k u).toArray⟩ = _
    rw [bytes_app, bytes_app, List.append_assoc]; rfl
  obtain ⟨V, hV⟩ : ∃ V, V = dcB false k u := ⟨_, rfl⟩
  rw [← hV] at hV0 ⊢
  obtain ⟨P, hP⟩ : ∃ P : ByteArray, P = ⟨(pad k u).toArray⟩ := ⟨_, rfl⟩
  rw [← hP] at hP0 hF0 hB0 hPs
  obtain ⟨F, hF⟩ : ∃ F, F = dgB (u / 10 ^ k) := ⟨_, rfl⟩
  rw [← hF] at hF0 hFs hV0
  obtain ⟨B, hB⟩ : ∃ B : ByteArray, B = ⟨(pd k u).toArray⟩ := ⟨_, rfl⟩
  rw [← hB] at hB0 hBs hV0
  obtain ⟨D, hD⟩ : ∃ D, D = dgB u := ⟨_, rfl⟩
  rw [← hD] at HF hDs hP0
  have w1 : IntKind.i64.wrap ((k : Int) + 1) = (k : Int) + 1 := by simp only [IntKind.wrap_i64]; omega
  have w2 : IntKind.i64.wrap ((k : Int) + 1 - (D.size : Int)) = (k : Int) + 1 - (D.size : Int) := by simp only [IntKind.wrap_i64]; omega
  have hcn : (k : Int) + 1 - (D.size : Int) ≤ 0 := by omega
  have hcf : (0 < (k : Int) + 1 - (D.size : Int)) = False := eq_false (by omega)
  have hcm : (k : Int) + 1 ≤ (D.size : Int) := by omega
  have e3 : (P.size : Int) - (k : Int) = (q : Int) := by omega
  have w3 : IntKind.i64.wrap (q : Int) = (q : Int) := by simp only [IntKind.wrap_i64]; omega
  have hkI : (0 : Int) < (k : Int) := by omega
  have hqP : (q : Int) ≤ (P.size : Int) := by omega
  have hqP2 : q ≤ P.size := by omega
  have hq0 : (0 : Int) ≤ (q : Int) := by omega
  have n1 : ¬ 9223372036854775807 < F.size + 1 := by omega
  have n2 : ¬ 9223372036854775807 < F.size + 1 + B.size := by omega
  have n3 : ¬ 9223372036854775807 < 1 + (F.size + 1 + B.size) := by omega
  have HP0 := Lib.hid hP0
  have HV0 := Lib.hid hV0
  rw [hP0] at HF hDs w2 hcn hcf hcm
  clear hP0
  clear hql hq hq1 hq2 hPs hFs hBs hV hP hF hB hD hV0 hDs hnd hnp hb hpe hN hu hu1 hp0 hp ht hb1 hkp hm hk
  have hnf : (N < 0) = False := eq_false (by omega)
  go_enter Tryd.func10, Tryd.ntmps10
  go_wp2_with fail
  rw [← hW]
  clear hW
  refine wp_region_quiet_below (by kernel_rfl) (by kernel_rfl) ?_
  repeat (go_big_quiet_step ((first | with_reducible exact C1.out _ _ | with_reducible exact C2.out _ _)))
  refine wpQuiet_nil ?_
  intro _ hw'
  obtain ⟨⟨dq, osq⟩, hw''⟩ := hw'
  subst hw''
  have hbr := below_regrown W dq osq
  obtain ⟨W2, hW2⟩ : ∃ x, x = Go.Sort.grow (redrawn W dq) osq := ⟨_, rfl⟩
  rw [← hW2] at hbr ⊢
  have HBR := Lib.hid hbr
  have HB2 := Lib.hid (HB1.out.trans (hbr.mono HB1.out.size))
  clear hW2 hbr k0 k1 c0 c1 C1 C2
  (try (refine (by assumption : ∀ _ _, _ → _) _ _ ?_))
  go_wp2_with fail
  refine (HM.out _).mono ?_
  rintro e w' ⟨rfl, rfl⟩
  go_wp2_with fail
  refine (HF.out _ HBR.out).mono ?_
  rintro e w3 ⟨rfl, hb⟩
  have HB3 := Lib.hid (HB2.out.trans (hb.mono HB2.out.size))
  clear hb
  go_wp2_with fail
  go_quiet (fail)
  have HB9 : Hid (Below w.heap.size w (w3.drewN nq)) := Lib.hid (HB3.out.trans ⟨rfl, rfl, rfl, Nat.le_refl _, fun _ _ => rfl⟩)
  (refine (by assumption : ∀ _ _, _ → _) _ _ ?_)
  go_wp2_with fail
  go_ret2
  exact ⟨by rw [← HV0.out]; rfl, HB9.out⟩
set_option maxRecDepth 100000 in
set_option maxHeartbeats 2000000 in
theorem decimal_zfn (a d : Int) (k : Nat) (hk : k ≤ 6) (h3 : -1048576 ≤ a) (h4 : a ≤ 1048576) (h5 : 1 ≤ d) (h6 : d ≤ 1048576) (N : Int) (hN : N = (10 : Int) ^ k * a / d) (hs : N < 0) (hkz : k = 0) (w : World) (ht : Tb w) :
    Calls Tryd.prog 10 #[.agg #[.int .i64 a, .int .i64 d], .int .i64 (k : Int)] w fun e w' => e = .returned (.tuple #[.string (dcB true k N.natAbs), .int .i64 0]) ∧ Below w.heap.size w w' := by
  obtain ⟨hp0, hp⟩ := pow6 k hk
  have hb := fl_bd ⟨hp0, hp⟩ h3 h4 h5
  have hk0 : ¬ (k : Int) < 0 := by omega
  have hk6 : ¬ (6 : Int) < (k : Int) := by omega
  have hk0' : (0 : Int) ≤ (k : Int) := by omega
  have hk6' : (k : Int) ≤ 6 := by omega
  obtain ⟨W, hW⟩ : ∃ W, W = w.alloc (.cells #[.int .i64 a, .int .i64 d] 23) := ⟨_, rfl⟩
  have hb1 : Below w.heap.size w W := by rw [hW]; exact (Below.refl _ _).alloc (Nat.le_refl _) _
  have C1 : Hid (∀ e os, Calls Tryd.prog 23 #[.int .i64 (k : Int)] (Go.Sort.grow (redrawn W e) os) fun e w'' => e = .returned (.int .i64 ((10 : Int) ^ k)) ∧ ∃ p : Regrown, w'' = Go.Sort.grow (redrawn W p.d) p.os) := Lib.hid (fun e os => Calls.regrown_of ((power_any k (by omega) _).mono (fun _ _ ⟨h, hw⟩ => ⟨h, hw ▸ Below.refl _ _⟩)))
  have C2 : Hid (∀ e os, Calls Tryd.prog 22 #[.int .i64 ((10 : Int) ^ k), .agg #[.int .i64 a, .int .i64 d]] (Go.Sort.grow (redrawn W e) os) fun e w'' => e = .returned (.int .i64 ((10 : Int) ^ k * a / d)) ∧ ∃ p : Regrown, w'' = Go.Sort.grow (redrawn W p.d) p.os) := Lib.hid (fun e os => Calls.regrown_of (floorOf_any _ a d (by omega) (by omega) h3 h4 h5 h6 _))
  have HB1 := Lib.hid hb1
  have HT := Lib.hid (ht.below hb1)
  have c0 : W.cell? ⟨w.heap.size, 0, none⟩ = some (.int .i64 a) := by rw [hW]; exact (cell_of_row _ _ 0 _ _ _ (Deep.blk_alloc_new w _)).trans rfl
  have c1 : W.cell? ⟨w.heap.size, 1, none⟩ = some (.int .i64 d) := by rw [hW]; exact (cell_of_row _ _ 1 _ _ _ (Deep.blk_alloc_new w _)).trans rfl
  have k0 := cell_regrown c0
  have k1 := cell_regrown c1
  obtain ⟨p, hpe⟩ : ∃ p, p = (10 : Int) ^ k := ⟨_, rfl⟩
  rw [← hpe] at C1 C2 hb hN
  obtain ⟨u, hu⟩ : ∃ u, u = N.natAbs := ⟨_, rfl⟩
  rw [← hN] at C2 hb
  have hu1 : u ≤ 1048576000000 := by omega
  have HM := Lib.hid (fun W => magnitude_any N (by omega) (by omega) W)
  rw [← hu] at HM
  have HF := Lib.hid (fun (W' : World) (h : Below W.heap.size W W') => fmt_any u (by omega) W' (HT.out.below h))
  change Hid (∀ (W' : World), Below W.heap.size W W' → Calls Tryd.prog 24 #[.int .u64 (u : Int), .int .i64 10] W' fun e w' => e = .returned (.string (dgB u)) ∧ Below W'.heap.size W' w') at HF
  have hnd := nd_le (k := 12) (u := u) (by omega)
  have hnp := Lib.nDigits_pos u
  have hDs : (dgB u).size = Lib.nDigits u := by show (Lib.decDigits u).toArray.size = _; rw [List.size_toArray, dec_len]
  rw [← hu]
  have hP0 : dgB u = ⟨(pad k u).toArray⟩ := by unfold dgB pad; rw [show k + 1 - Lib.nDigits u = 0 by omega]; rfl
  have hV0 : (⟨#[45]⟩ : ByteArray) ++ dgB u = dcB true k u := by
    unfold dcB dcL dgB
    rw [if_pos hkz, hkz, Nat.pow_zero, Nat.div_one, List.append_nil]
    rw [bytes_cons]; rfl
  obtain ⟨V, hV⟩ : ∃ V, V = dcB true k u := ⟨_, rfl⟩
  rw [← hV] at hV0 ⊢
  obtain ⟨D, hD⟩ : ∃ D, D = dgB u := ⟨_, rfl⟩
  rw [← hD] at HF hDs hV0
  have hkI : (k : Int) = 0 := by omega
  rw [hkI] at C1 hk0 hk6 hk0' hk6' ⊢
  have w2 : IntKind.i64.wrap (1 - (D.size : Int)) = 1 - (D.size : Int) := by simp only [IntKind.wrap_i64]; omega
  have hcn : 1 - (D.size : Int) ≤ 0 := by omega
  have hcf : (0 < 1 - (D.size : Int)) = False := eq_false (by omega)
  have hcm : (1 : Int) ≤ (D.size : Int) := by omega
  have w3 : IntKind.i64.wrap (D.size : Int) = (D.size : Int) := by simp only [IntKind.wrap_i64]; omega
  have n3 : ¬ 9223372036854775807 < 1 + D.size := by omega
  have HV0 := Lib.hid hV0
  clear hV hD hV0 hDs hnd hnp hb hpe hN hu hu1 hp0 hp ht hb1 hP0 hkI hkz hk
  go_enter Tryd.func10, Tryd.ntmps10
  go_wp2_with fail
  rw [← hW]
  clear hW
  refine wp_region_quiet_below (by kernel_rfl) (by kernel_rfl) ?_
  repeat (go_big_quiet_step ((first | with_reducible exact C1.out _ _ | with_reducible exact C2.out _ _)))
  refine wpQuiet_nil ?_
  intro _ hw'
  obtain ⟨⟨dq, osq⟩, hw''⟩ := hw'
  subst hw''
  have hbr := below_regrown W dq osq
  obtain ⟨W2, hW2⟩ : ∃ x, x = Go.Sort.grow (redrawn W dq) osq := ⟨_, rfl⟩
  rw [← hW2] at hbr ⊢
  have HBR := Lib.hid hbr
  have HB2 := Lib.hid (HB1.out.trans (hbr.mono HB1.out.size))
  clear hW2 hbr k0 k1 c0 c1 C1 C2
  (try (refine (by assumption : ∀ _ _, _ → _) _ _ ?_))
  go_wp2_with fail
  refine (HM.out _).mono ?_
  rintro e w' ⟨rfl, rfl⟩
  go_wp2_with fail
  refine (HF.out _ HBR.out).mono ?_
  rintro e w3 ⟨rfl, hb⟩
  have HB3 := Lib.hid (HB2.out.trans (hb.mono HB2.out.size))
  clear hb
  go_wp2_with fail
  go_ret2
  exact ⟨by rw [← HV0.out]; rfl, HB3.out⟩
set_option maxRecDepth 100000 in
set_option maxHeartbeats 2000000 in
theorem decimal_zfq (a d : Int) (k : Nat) (hk : k ≤ 6) (h3 : -1048576 ≤ a) (h4 : a ≤ 1048576) (h5 : 1 ≤ d) (h6 : d ≤ 1048576) (N : Int) (hN : N = (10 : Int) ^ k * a / d) (hs : 0 ≤ N) (hkz : k = 0) (w : World) (ht : Tb w) :
    Calls Tryd.prog 10 #[.agg #[.int .i64 a, .int .i64 d], .int .i64 (k : Int)] w fun e w' => e = .returned (.tuple #[.string (dcB false k N.natAbs), .int .i64 0]) ∧ Below w.heap.size w w' := by
  obtain ⟨hp0, hp⟩ := pow6 k hk
  have hb := fl_bd ⟨hp0, hp⟩ h3 h4 h5
  have hk0 : ¬ (k : Int) < 0 := by omega
  have hk6 : ¬ (6 : Int) < (k : Int) := by omega
  have hk0' : (0 : Int) ≤ (k : Int) := by omega
  have hk6' : (k : Int) ≤ 6 := by omega
  obtain ⟨W, hW⟩ : ∃ W, W = w.alloc (.cells #[.int .i64 a, .int .i64 d] 23) := ⟨_, rfl⟩
  have hb1 : Below w.heap.size w W := by rw [hW]; exact (Below.refl _ _).alloc (Nat.le_refl _) _
  have C1 : Hid (∀ e os, Calls Tryd.prog 23 #[.int .i64 (k : Int)] (Go.Sort.grow (redrawn W e) os) fun e w'' => e = .returned (.int .i64 ((10 : Int) ^ k)) ∧ ∃ p : Regrown, w'' = Go.Sort.grow (redrawn W p.d) p.os) := Lib.hid (fun e os => Calls.regrown_of ((power_any k (by omega) _).mono (fun _ _ ⟨h, hw⟩ => ⟨h, hw ▸ Below.refl _ _⟩)))
  have C2 : Hid (∀ e os, Calls Tryd.prog 22 #[.int .i64 ((10 : Int) ^ k), .agg #[.int .i64 a, .int .i64 d]] (Go.Sort.grow (redrawn W e) os) fun e w'' => e = .returned (.int .i64 ((10 : Int) ^ k * a / d)) ∧ ∃ p : Regrown, w'' = Go.Sort.grow (redrawn W p.d) p.os) := Lib.hid (fun e os => Calls.regrown_of (floorOf_any _ a d (by omega) (by omega) h3 h4 h5 h6 _))
  have HB1 := Lib.hid hb1
  have HT := Lib.hid (ht.below hb1)
  have c0 : W.cell? ⟨w.heap.size, 0, none⟩ = some (.int .i64 a) := by rw [hW]; exact (cell_of_row _ _ 0 _ _ _ (Deep.blk_alloc_new w _)).trans rfl
  have c1 : W.cell? ⟨w.heap.size, 1, none⟩ = some (.int .i64 d) := by rw [hW]; exact (cell_of_row _ _ 1 _ _ _ (Deep.blk_alloc_new w _)).trans rfl
  have k0 := cell_regrown c0
  have k1 := cell_regrown c1
  obtain ⟨p, hpe⟩ : ∃ p, p = (10 : Int) ^ k := ⟨_, rfl⟩
  rw [← hpe] at C1 C2 hb hN
  obtain ⟨u, hu⟩ : ∃ u, u = N.natAbs := ⟨_, rfl⟩
  rw [← hN] at C2 hb
  have hu1 : u ≤ 1048576000000 := by omega
  have HM := Lib.hid (fun W => magnitude_any N (by omega) (by omega) W)
  rw [← hu] at HM
  have HF := Lib.hid (fun (W' : World) (h : Below W.heap.size W W') => fmt_any u (by omega) W' (HT.out.below h))
  change Hid (∀ (W' : World), Below W.heap.size W W' → Calls Tryd.prog 24 #[.int .u64 (u : Int), .int .i64 10] W' fun e w' => e = .returned (.string (dgB u)) ∧ Below W'.heap.size W' w') at HF
  have hnd := nd_le (k := 12) (u := u) (by omega)
  have hnp := Lib.nDigits_pos u
  have hDs : (dgB u).size = Lib.nDigits u := by show (Lib.decDigits u).toArray.size = _; rw [List.size_toArray, dec_len]
  rw [← hu]
  have hP0 : dgB u = ⟨(pad k u).toArray⟩ := by unfold dgB pad; rw [show k + 1 - Lib.nDigits u = 0 by omega]; rfl
  have hV0 : dgB u = dcB false k u := by
    unfold dcB dcL dgB
    rw [if_pos hkz, hkz, Nat.pow_zero, Nat.div_one, List.append_nil]; rfl
  obtain ⟨V, hV⟩ : ∃ V, V = dcB false k u := ⟨_, rfl⟩
  rw [← hV] at hV0 ⊢
  obtain ⟨D, hD⟩ : ∃ D, D = dgB u := ⟨_, rfl⟩
  rw [← hD] at HF hDs hV0
  have hkI : (k : Int) = 0 := by omega
  rw [hkI] at C1 hk0 hk6 hk0' hk6' ⊢
  have w2 : IntKind.i64.wrap (1 - (D.size : Int)) = 1 - (D.size : Int) := by simp only [IntKind.wrap_i64]; omega
  have hcn : 1 - (D.size : Int) ≤ 0 := by omega
  have hcf : (0 < 1 - (D.size : Int)) = False := eq_false (by omega)
  have hcm : (1 : Int) ≤ (D.size : Int) := by omega
  have w3 : IntKind.i64.wrap (D.size : Int) = (D.size : Int) := by simp only [IntKind.wrap_i64]; omega
  have n3 : ¬ 9223372036854775807 < 1 + D.size := by omega
  have HV0 := Lib.hid hV0
  clear hV hD hV0 hDs hnd hnp hb hpe hN hu hu1 hp0 hp ht hb1 hP0 hkI hkz hk
  have hnf : (N < 0) = False := eq_false (by omega)
  go_enter Tryd.func10, Tryd.ntmps10
  go_wp2_with fail
  rw [← hW]
  clear hW
  refine wp_region_quiet_below (by kernel_rfl) (by kernel_rfl) ?_
  repeat (go_big_quiet_step ((first | with_reducible exact C1.out _ _ | with_reducible exact C2.out _ _)))
  refine wpQuiet_nil ?_
  intro _ hw'
  obtain ⟨⟨dq, osq⟩, hw''⟩ := hw'
  subst hw''
  have hbr := below_regrown W dq osq
  obtain ⟨W2, hW2⟩ : ∃ x, x = Go.Sort.grow (redrawn W dq) osq := ⟨_, rfl⟩
  rw [← hW2] at hbr ⊢
  have HBR := Lib.hid hbr
  have HB2 := Lib.hid (HB1.out.trans (hbr.mono HB1.out.size))
  clear hW2 hbr k0 k1 c0 c1 C1 C2
  (try (refine (by assumption : ∀ _ _, _ → _) _ _ ?_))
  go_wp2_with fail
  refine (HM.out _).mono ?_
  rintro e w' ⟨rfl, rfl⟩
  go_wp2_with fail
  refine (HF.out _ HBR.out).mono ?_
  rintro e w3 ⟨rfl, hb⟩
  have HB3 := Lib.hid (HB2.out.trans (hb.mono HB2.out.size))
  clear hb
  go_wp2_with fail
  go_ret2
  exact ⟨by rw [← HV0.out]; rfl, HB3.out⟩
end Go.Proofs.YtokapficojgkgaaDoor
