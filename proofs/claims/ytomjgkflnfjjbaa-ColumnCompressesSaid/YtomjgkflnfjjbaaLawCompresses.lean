/- ColumnCompresses: for every value, difference and number of rows the law returns true. No condition. -/
import Derived.Test.YtomjgkflnfjjbaaRow
import Derived.Test.YtomjgkflnfjjbaaKp
namespace Go.Proofs.Ytomjgkflnfjjbaa.lawCompresses
open Go.ChangeShapes Go.WideShapes Go.ChangeAt Go.RowKit Go.Joins En

theorem info_int : (Try.prog.info? 3).map (fun i => (i.zero, i.size, i.bytes)) = some (some (.int .i64 0), 1, 8) := by kernel_rfl
theorem mul_bd (j : Nat) (b : Int) (hj : j ≤ 200) (hb : -32768 ≤ b ∧ b ≤ 32767) : -6553600 ≤ (j : Int) * b ∧ (j : Int) * b ≤ 6553600 := by
  have h1 : (j : Int) * b ≤ 6553600 := by
    rcases Int.lt_or_le b 0 with h | h
    · have := Int.mul_nonpos_of_nonneg_of_nonpos (show (0 : Int) ≤ (j : Int) by omega) (show b ≤ 0 by omega); omega
    · have := Int.mul_le_mul (show (j : Int) ≤ 200 by omega) hb.2 h (by omega); omega
  have h2 : -6553600 ≤ (j : Int) * b := by
    rcases Int.lt_or_le b 0 with h | h
    · have := Int.mul_le_mul (show (j : Int) ≤ 200 by omega) (show -b ≤ 32768 by omega) (by omega) (by omega)
      rw [Int.mul_neg] at this; omega
    · have := Int.mul_nonneg (show (0 : Int) ≤ (j : Int) by omega) h; omega
  exact ⟨h2, h1⟩
set_option maxRecDepth 100000 in
set_option maxHeartbeats 4000000 in
theorem walk (w : World) (a : Int) (wa0 : (Lit.int .i32 a).wf = true) (b : Int) (wb0 : (Lit.int .i16 b).wf = true) (r : Int) (wr1 : (Lit.int .u8 r).wf = true) :
    Calls Try.prog 5 #[.int .i32 a, .int .i16 b, .int .u8 r] w fun e w' => e = .returned (.bool true) ∧ Below w.heap.size w w' := by
  have wa : -2147483648 ≤ a ∧ a ≤ 2147483647 := by simp [Lit.wf, IntKind.min, IntKind.max, IntKind.signed, IntKind.bits] at wa0; omega
  have wb : -32768 ≤ b ∧ b ≤ 32767 := by simp [Lit.wf, IntKind.min, IntKind.max, IntKind.signed, IntKind.bits] at wb0; omega
  have wr0 : 0 ≤ r ∧ r ≤ 255 := by simp [Lit.wf, IntKind.min, IntKind.max, IntKind.signed, IntKind.bits] at wr1; omega
  clear wa0 wb0 wr1
  obtain ⟨i0, hi0, hz0, hz1, hz2⟩ := info_parts info_int
  have Hi0 := Lib.hid hi0
  have Hz0 := Lib.hid hz0
  have Hz1 := Lib.hid hz1
  have Hz2 := Lib.hid hz2
  obtain ⟨n, hn⟩ : ∃ n : Nat, (n : Int) = r % 201 := ⟨(r % 201).toNat, by omega⟩
  have hn200 : n ≤ 200 := by omega
  have q1 : r.tmod 201 = (n : Int) := by rw [Int.tmod_eq_emod_of_nonneg (by omega)]; omega
  have q2 : r % 201 = (n : Int) := hn.symm
  clear hn hi0 hz0 hz1 hz2
  go_enter Try.func5, Try.ntmps5
  go_wp2_with fail
  clear q1 q2
  go_loopw [8, 9, 10] (fun sv ev iv wr => ∃ j : Nat, j ≤ n ∧ iv = .int .i64 (j : Int) ∧ Hid (wr.ownsRow w.heap.size 3 1 sv j ((smL a j).map (Value.int .i64))) ∧ Hid (wr.ownsRow w.heap.size 3 1 ev j ((evL a b j).map (Value.int .i64))) ∧ Hid (Sep sv ev) ∧ Hid (Below w.heap.size w wr)) (fun _ _ iv _ => n - (intOf iv).toNat)
  case atStart => exact ⟨0, Nat.zero_le _, rfl, Lib.hid ⟨by simp [smL], Or.inl ⟨rfl, rfl⟩⟩, Lib.hid ⟨by simp [evL], Or.inl ⟨rfl, rfl⟩⟩, Lib.hid (Or.inl rfl), Lib.hid (Below.refl _ _)⟩
  case round =>
    obtain ⟨j, hj, rfl, HS, HE, HP, HB⟩ := hrel
    have hsz := HB.out.size
    by_cases hlt : j < n
    · have hm := mul_bd j b (by omega) wb
      have HSn : Hid ((smL a (j + 1)).map (Value.int .i64) = (smL a j).map (Value.int .i64) ++ [.int .i64 a]) := Lib.hid (by rw [smL_snoc, List.map_append]; rfl)
      have HEn : Hid ((evL a b (j + 1)).map (Value.int .i64) = (evL a b j).map (Value.int .i64) ++ [.int .i64 (a + (j : Int) * b)]) := Lib.hid (by rw [evL_snoc, List.map_append]; rfl)
      obtain ⟨p, hp⟩ : ∃ p, p = (j : Int) * b := ⟨_, rfl⟩
      rw [← hp] at hm HEn
      have e1 : IntKind.i64.wrap ((j : Int) * b) = p := by rw [← hp]; simp only [IntKind.wrap_i64]; omega
      have e2 : wrap64 ((j : Int) * b) = p := by rw [← hp]; unfold wrap64; omega
      have hjI : (j : Int) < (n : Int) := by omega
      have hj0 : (0 : Int) ≤ (j : Int) := by omega
      have hw1 : IntKind.i64.wrap ((j : Int) + 1) = (j : Int) + 1 := by simp only [IntKind.wrap_i64]; omega
      clear hp
      go_wp2_with (first
        | (at_builtin; refine wpList_append_two rfl (.tmp 27) (.tmp 30) 22 rfl w.heap.size 3 i0 _ 8 Try.underlying22 Hi0.out Hz0.out Hz1.out Hz2.out rfl u8 j _ rfl (World.ownsRow.alloc HS.out _) 3 u9 j _ (World.ownsRow.alloc HE.out _) HP.out wr.heap.size 1 (.int .i64 a) rfl (by simp [go_sem]) rfl (by omega) (by omega) (by simp; omega) ?_; intro v2 w2 hS2 hE2 hP2 hg2; have HB2 := Lib.hid (below_ownk (HB.out.alloc hsz _) (World.ownsRow.alloc HS.out _) hg2 (Nat.le_refl _) (Nat.le_refl _)); have HS2 := Lib.hid hS2; have HE2 := Lib.hid hE2; have HP2 := Lib.hid hP2; have hsz2 := HB2.out.size; clear hS2 hE2 hP2 hg2)
        | (at_builtin; refine wpList_append_two rfl (.tmp 32) (.tmp 40) 22 rfl w.heap.size 3 i0 _ 8 Try.underlying22 Hi0.out Hz0.out Hz1.out Hz2.out rfl u9 j _ rfl (World.ownsRow.alloc HE2.out _) 3 v2 (j + 1) _ (World.ownsRow.alloc HS2.out _) HP2.out.symm w2.heap.size 1 (.int .i64 (a + p)) rfl (by simp [go_sem]) rfl (by omega) (by omega) (by simp; omega) ?_; intro v3 w3 hE3 hS3 hP3 hg3; have HB3 := Lib.hid (below_ownk (HB2.out.alloc hsz2 _) (World.ownsRow.alloc HE2.out _) hg3 (Nat.le_refl _) (Nat.le_refl _)); have HS3 := Lib.hid hS3; have HE3 := Lib.hid hE3; have HP3 := Lib.hid hP3.symm; clear hS3 hE3 hP3 hg3))
      clear e1 e2
      go_roundw
      case rel => exact ⟨j + 1, by omega, by go_num, by rw [HSn.out]; exact HS3, by rw [HEn.out]; exact HE3, HP3, HB3⟩
      case measure => simp [intOf] <;> omega
    · obtain rfl : j = n := by omega
      obtain ⟨A, c, rfl, _, hR⟩ := out_own HS.out
      obtain ⟨A2, c2, rfl, _, hR2⟩ := out_own HE.out
      have HN1 := Lib.hid (new_ok A c (smL a j) (by rw [smL_len]; omega) (sm_ok a j hn200 wa) wr hR)
      have HN2 := Lib.hid (fun W (h : Rd (Value.int .i64) W A2 (evL a b j)) => new_ok A2 c2 (evL a b j) (by rw [evL_len]; omega) (ev_ok a b j hn200 wa wb) W h)
      have HE1 := Lib.hid (fun W q (h : Cl W q (smL a j)) => encode_any q (smL a j) (sm_ok a j hn200 wa) W h)
      have HE2 := Lib.hid (fun W q (h : Cl W q (evL a b j)) => encode_any q (evL a b j) (ev_ok a b j hn200 wa wb) W h)
      have HF1 := Lib.hid (fun W (h : Rd (Value.int .i64) W A2 (evL a b j)) => as_form 1 (by omega) A2 c2 (evL a b j) (ev_ok a b j hn200 wa wb) W h)
      have HF2 := Lib.hid (fun W (h : Rd (Value.int .i64) W A2 (evL a b j)) => as_form 2 (by omega) A2 c2 (evL a b j) (ev_ok a b j hn200 wa wb) W h)
      have hl14 : (bsF (smL a j) 4).2.size ≤ 14 := Nat.le_trans (bsF_le (smL a j) 4 2 (by omega)) (size3 a j hn200 wa)
      have hlp := bsF_le (evL a b j) 4 0 (by omega)
      have hld := bsF_le (evL a b j) 4 1 (by omega)
      have hl3 := size2 a b j hn200 wa wb
      rw [show (((0 : Nat) : Int) + 1) = 1 from rfl] at hlp
      rw [show (((1 : Nat) : Int) + 1) = 2 from rfl] at hld
      have hl3I : decide (((fmB 2 (evL a b j)).size : Int) ≤ 10 + 3 * (j : Int)) = true := by simp; omega
      rw [smL_len] at HN1 ⊢
      simp only [evL_len] at HN2 HF1 HF2 ⊢
      obtain ⟨S1, hS1⟩ : ∃ S, S = (bsF (smL a j) 4).2 := ⟨_, rfl⟩
      obtain ⟨S2, hS2⟩ : ∃ S, S = (bsF (evL a b j) 4).2 := ⟨_, rfl⟩
      obtain ⟨P1, hP1⟩ : ∃ S, S = fmB 1 (evL a b j) := ⟨_, rfl⟩
      obtain ⟨P2, hP2⟩ : ∃ S, S = fmB 2 (evL a b j) := ⟨_, rfl⟩
      rw [← hS1] at HE1 hl14
      rw [← hS2] at HE2 hlp hld
      rw [← hP1] at HF1 hlp
      rw [← hP2] at HF2 hld hl3 hl3I
      have HR2 := Lib.hid hR2
      clear hS1 hS2 hP1 hP2 hR hR2
      go_wp2_with fail
      refine HN1.out.mono ?_
      rintro e w1 ⟨⟨q1, rfl, hc⟩, hb⟩
      have HC1 := Lib.hid hc
      have HBa := Lib.hid hb
      clear hc hb
      go_wp2_with fail
      refine (HN2.out w1 (HR2.out.below HBa.out)).mono ?_
      rintro e w2 ⟨⟨q2, rfl, hc⟩, hb⟩
      have HC2 := Lib.hid hc
      have HC1b := Lib.hid (HC1.out.below hb)
      have HBb := Lib.hid (HBa.out.trans (hb.mono HBa.out.size))
      clear hc hb
      go_wp2_with fail
      refine (known_any w2).mono ?_
      rintro e w3 ⟨rfl, hb⟩
      have HC2b := Lib.hid (HC2.out.below hb)
      have HC1c := Lib.hid (HC1b.out.below hb)
      have HBc := Lib.hid (HBb.out.trans (hb.mono HBb.out.size))
      clear hb
      go_wp2_with fail
      refine (HF1.out w3 (HR2.out.below HBc.out)).mono ?_
      rintro e w4 ⟨rfl, hb⟩
      have HC2c := Lib.hid (HC2b.out.below hb)
      have HC1d := Lib.hid (HC1c.out.below hb)
      have HBd := Lib.hid (HBc.out.trans (hb.mono HBc.out.size))
      clear hb
      go_wp2_with fail
      refine (HF2.out w4 (HR2.out.below HBd.out)).mono ?_
      rintro e w5 ⟨rfl, hb⟩
      have HC2d := Lib.hid (HC2c.out.below hb)
      have HC1e := Lib.hid (HC1d.out.below hb)
      have HBe := Lib.hid (HBd.out.trans (hb.mono HBd.out.size))
      clear hb
      go_wp2_with fail
      refine (HE1.out w5 q1 HC1e.out).mono ?_
      rintro e w6 ⟨rfl, hb⟩
      have HC2e := Lib.hid (HC2d.out.below hb)
      have HBf := Lib.hid (HBe.out.trans (hb.mono HBe.out.size))
      clear hb
      go_wp2_with fail
      refine (HE2.out w6 q2 HC2e.out).mono ?_
      rintro e w7 ⟨rfl, hb⟩
      have HBg := Lib.hid (HBf.out.trans (hb.mono HBf.out.size))
      clear hb
      go_wp2_with fail
      go_ret
      exact ⟨rfl, HB.out.trans (HBg.out.mono hsz)⟩
set_option maxRecDepth 100000 in
theorem lifted (os : Os) (started : os.Started) (H : Type) (enc : TypeId × Value → H) :
    ReturnsInHanded {} Try.checked os 5 .any (Rows.columnCompressesSpec.pre6 enc Try.prog Try.f5 Rows.columnCompressesRow.domain false) (Rows.columnCompressesSpec.post enc Try.prog Try.f5 false true false false) := by
  refine returnsInHanded_of_change (C := Try.checked) own started (by kernel_rfl) Try.func5
    (ChangeSpec.witness6 (enc := enc) (C := Try.checked) false ⟨#[], #[.int .i32 0, .int .i16 0, .int .u8 0], []⟩ 8 (by kernel_rfl) (by kernel_rfl) (by kernel_rfl) (by kernel_rfl)) ?_
  intro W base args ds gs before hval0 hW _ _
  have hval : ∀ (j : Nat) t v, Try.f5.params[j]? = some t → args[j]? = some v → Value.okWide Try.prog W .any base t v := hval0
  have hW' := hW
  obtain ⟨p, q, hA0, hV, rfl, _, _⟩ := hW
  have hA : DataW.TrodAll enc Try.prog W 0 (fun _ => true) true Try.f5.params.toList args.toList ds p := hA0
  rw [Try.params5] at hA hval
  obtain ⟨v0, vs0, d0, ds0, p0, q0, hargs0, rfl, rfl, h0, r0⟩ := trodAll_cons hA
  obtain ⟨v1, vs1, d1, ds1, p1, q1, hargs1, rfl, rfl, h1, r1⟩ := trodAll_cons r0
  obtain ⟨v2, vs2, d2, ds2, p2, q2, hargs2, rfl, rfl, h2, r2⟩ := trodAll_cons r1
  obtain ⟨rfl, rfl, rfl⟩ := trodAll_nil r2
  obtain rfl : args = #[v0, v1, v2] := by cases args; simp_all
  obtain ⟨rfl, rfl⟩ := trodVars_none hV
  obtain ⟨a0, rfl, rfl, rfl, wa0⟩ := open_int Try.underlying21 (hval 0 21 v0 rfl rfl) h0
  obtain ⟨a1, rfl, rfl, rfl, wa1⟩ := open_int Try.underlying40 (hval 1 40 v1 rfl rfl) h1
  obtain ⟨a2, rfl, rfl, rfl, wa2⟩ := open_int Try.underlying5 (hval 2 5 v2 rfl rfl) h2
  clear hA0 hval0
  simp only [List.append_nil] at hW'
  refine (walk W a0 wa0 a1 wa1 a2 wa2).mono fun e W' ⟨he, hb⟩ => ?_
  subst he
  exact ⟨_, rfl, post_mem hW' hb (fun _ _ _ => trodAll_mk1 (shut_bool Try.underlying4 _)) (fun _ _ => by
    exact trodAll_cons_mk (shut_int Try.underlying21 wa0) (trodAll_cons_mk (shut_int Try.underlying40 wa1) (trodAll_cons_mk (shut_int Try.underlying5 wa2) trodAll_mk0))) (fun _ => rfl) (ok_one (by kernel_rfl) rfl (okWide_bool_mk Try.underlying4 _))⟩

theorem proved : Rows.ColumnCompressesSaid :=
  OpenClaim.holds_of_wide 5 Try.f5 rfl rfl rfl rfl rfl rfl rfl ⟨rfl, rfl, rfl, rfl, rfl⟩ rfl rfl rfl rfl rfl (by kernel_rfl) Try.func5 (by kernel_rfl)
    (of_decide_eq_true (by kernel_rfl)) (by unfold Func.isWrapper; first | (rw [if_pos (by decide +kernel)]; kernel_rfl) | (rw [if_neg (by decide +kernel)]; exact ⟨rfl, rfl⟩))
    (fun os started H enc _ => lifted os started H enc)

end Go.Proofs.Ytomjgkflnfjjbaa.lawCompresses
