/- DiskFull: a disk takes MaxFiles files and as many bytes as its capacity permits (written by wip/bin/gen_df26.py). No condition. -/
import Derived.Test.YtjajmlamlmnljaaDu
namespace Go.Proofs.Ytjajmlamlmnljaa.lawFull
open Go.ChangeShapes Go.WideShapes Go.ChangeAt Go.RowKit Go.Joins

set_option maxRecDepth 100000 in
set_option maxHeartbeats 8000000 in
theorem run (w : World) (n c : Nat) (hn : n ≤ 255) (hc : c ≤ 255) :
    Calls Try.prog 10 #[.int .u8 (n : Int), .int .u8 (c : Int)] w fun e w' => e = .returned (.bool true) ∧ Below w.heap.size w w' := by
  have HCp := Lib.hid (fun W => cap_law n hn W)
  obtain ⟨N, hN⟩ : ∃ N, N = 20 + n := ⟨_, rfl⟩
  rw [← hN] at HCp
  have hN1 : 20 ≤ N ∧ N ≤ 275 := by omega
  obtain ⟨p, hp⟩ : ∃ p, p = w.heap.size := ⟨_, rfl⟩
  have HPe := Lib.hid hp
  have HPl : Hid (p ≤ w.heap.size) := Lib.hid (Nat.le_of_eq hp)
  have HNw := Lib.hid (new_any (N : Int) w)
  rw [← hp] at HNw
  have HCu := Lib.hid (u8_cast c (by omega))
  clear hp hn hN
  go_enter Try.func10, Try.ntmps10
  go_wp2_with fail
  refine (HCp.out _).mono ?_
  rintro e w0 ⟨rfl, rfl⟩
  go_wp2_with fail
  refine HNw.out.mono ?_
  rintro e w1 ⟨h, hb⟩
  rw [if_neg (by omega)] at h
  obtain ⟨rfl, hD⟩ := h
  have HD1 : Hid (Dk w1 p p (Up (N : Int) none [])) := Lib.hid hD
  have HB1 : Hid (Below p w0 w1) := Lib.hid hb
  clear hD hb
  go_wp2_with fail
  refine (known_any _).mono ?_
  rintro e w2 ⟨rfl, hb⟩
  have HD2 := Lib.hid (HD1.out.below hb)
  have HB2 := Lib.hid (HB1.out.trans (hb.mono (Nat.le_trans HPl.out HB1.out.size)))
  clear hb
  go_wp2_with fail
  go_loopw [4, 7] (fun _r iv wr => ∃ (j : Nat) (L : List (Ct Fl)) (m : Option Nat), j ≤ 256 ∧ iv = .int .i64 (j : Int) ∧ Hid (Dk wr p p (Up (N : Int) m L)) ∧ Hid (Fi j L) ∧ Hid (Below p w0 wr)) (fun _ iv _ => 256 - (intOf iv).toNat)
  case atStart => exact ⟨0, [], none, Nat.zero_le _, rfl, HD2, Lib.hid fi_zero, HB2⟩
  case round =>
    obtain ⟨j, L, m, hj, rfl, HD, HF, HB⟩ := hrel
    by_cases hlt : j < 256
    · have hjI : (j : Int) < 256 := by omega
      have hwj : IntKind.i64.wrap ((j : Int) + 1) = (j : Int) + 1 := by simp only [IntKind.wrap_i64]; omega
      have hC := (Below.refl wr.heap.size wr).alloc (Nat.le_refl _) (.cells #[.int .u8 102, .int .u8 (97 + (j : Int) / 16), .int .u8 (97 + (j : Int) % 16)] 5)
      have HDa := Lib.hid (HD.out.below hC)
      have HBa := Lib.hid (HB.out.trans (hC.mono (Nat.le_trans HPl.out HB.out.size)))
      have q39 := fnm_conv j hlt wr
      have hap := app_step p p (N : Int) m L (by omega) (by rw [HF.out.len]; omega) (by rw [HF.out.us]; decide) (fnm j) (by show 3 ≤ 1000; decide) ⟨#[]⟩ (by decide) (nm_f j hlt) (.inr (by rw [HF.out.len]; exact hlt)) (by rw [HF.out.us]; show (0 : Int) ≤ (N : Int) - ((0 : Nat) : Int); omega) w0 _ HPl.out HBa.out HDa.out
      have HAp := Lib.hid hap
      clear hap hC
      go_wp2_with fail
      refine HAp.out.mono ?_
      rintro e w3 ⟨rfl, ⟨b, r, hD, h1, _, _⟩, hb⟩
      have HD3 := Lib.hid hD
      have HB3 := Lib.hid hb
      have HF3 := Lib.hid (HF.out.next HD.out.sd hlt r ((gt L (fnm j)).2 ++ ([] : List UInt8)) (by rw [h1, HF.out.gt0]; rfl))
      clear hD h1 hb q39
      go_wp2_with fail
      go_roundw
      case rel => exact ⟨j + 1, _, some b, by omega, by go_num, HD3, HF3, HB3⟩
      case measure => simp [intOf] <;> omega
    · have hjI : ¬ (j : Int) < 256 := by omega
      obtain rfl : j = 256 := by omega
      clear hjI hlt hj
      have HDr := HD
      have HBr := HB
      go_wp2_with fail
      refine (HCp.out _).mono ?_
      rintro e w3 ⟨rfl, rfl⟩
      have q44 := make_bytes N (by omega) w3
      obtain ⟨g, hg⟩ : ∃ g, g = w3.heap.size := ⟨_, rfl⟩
      have HGe := Lib.hid hg
      have HGl : Hid (p ≤ g) := Lib.hid (by rw [hg]; exact Nat.le_trans HPl.out HBr.out.size)
      obtain ⟨W4, hW4⟩ : ∃ W4, W4 = w3.alloc (.cells (List.replicate N (Value.int .u8 0)).toArray 5) := ⟨_, rfl⟩
      rw [← hW4, ← hg] at q44
      have HY4 : Hid (By W4 g N (List.replicate 0 (UInt8.ofNat c))) := Lib.hid ⟨Nat.zero_le _, by rw [hW4, hg]; exact Deep.blk_alloc_new _ _⟩
      have HB4 : Hid (Below g w3 W4) := Lib.hid (by rw [hW4, hg]; exact (Below.refl _ _).alloc (Nat.le_refl _) _)
      clear hW4 hg
      go_wp2_with fail
      go_loopw [9] (fun iv wr => ∃ j : Nat, j ≤ N ∧ iv = .int .i64 (j : Int) ∧ Hid (By wr g N (List.replicate j (UInt8.ofNat c))) ∧ Hid (Below g w3 wr)) (fun iv _ => N - (intOf iv).toNat)
      case atStart => exact ⟨0, Nat.zero_le _, rfl, HY4, HB4⟩
      case round =>
        obtain ⟨j, hj, rfl, HY, HB⟩ := hrel
        by_cases hlt : j < N
        · have hjI : (j : Int) < (N : Int) := by omega
          have hj0 : (0 : Int) ≤ (j : Int) := by omega
          have hwj : IntKind.i64.wrap ((j : Int) + 1) = (j : Int) + 1 := by simp only [IntKind.wrap_i64]; omega
          obtain ⟨⟨u, hu⟩, hf⟩ := HY.out.cell j hlt
          have hgl := HY.out.lt
          have hy := HY.out.put j (by rw [List.length_replicate]) hlt (UInt8.ofNat c)
          rw [HCu.out, ← List.replicate_succ'] at hy
          have HY2 := Lib.hid hy
          have HB2' := Lib.hid (HB.out.setCell (p := ⟨g, j, none⟩) (Nat.le_refl _) (.int .u8 (c : Int)))
          clear hy
          go_wp2_with fail
          go_roundw
          case rel => exact ⟨j + 1, by omega, by go_num, HY2, HB2'⟩
          case measure => simp [intOf] <;> omega
        · have hjI : ¬ (j : Int) < (N : Int) := by omega
          obtain rfl : N = j := by omega
          clear hjI hlt hj
          have HBg : Hid (Below w3.heap.size w3 wr) := Lib.hid (by rw [← HGe.out]; exact HB.out)
          have HDw := Lib.hid (HDr.out.below HBg.out)
          have HBw := Lib.hid (HBr.out.trans (HBg.out.mono (Nat.le_trans HPl.out HBr.out.size)))
          obtain ⟨data, hdata⟩ : ∃ data : ByteArray, data = ⟨(List.replicate N (UInt8.ofNat c)).toArray⟩ := ⟨_, rfl⟩
          have hds : data.size = N := by rw [hdata]; show (List.replicate N (UInt8.ofNat c)).toArray.size = N; simp
          have HDs := Lib.hid hds
          have HBy : Hid (∀ W, W.heap[g]? = wr.heap[g]? → (convert 59 9 (.slice (some ⟨g, 0, none⟩) N N)).run Try.prog W = .ok (.string data) W) := Lib.hid (fun W h => by
            rw [hdata]
            exact by_conv (n := N) ⟨HY.out.1, h.trans HY.out.2⟩ (List.length_replicate ..))
          have HYl := Lib.hid HY.out.lt
          clear hdata hds
          have hNb : (0 : Int) ≤ (N : Int) ∧ (N : Int) ≤ 100000000 := by omega
          have H6 := Lib.hid (app_fail p p (N : Int) m L hNb (by rw [HF.out.len]; decide) (by rw [HF.out.us]; decide) kg (by decide) ⟨#[]⟩ (by decide) 6 (ap_six HF.out _ _) (by decide) w0 wr HPl.out HBw.out HDw.out)
          go_wp2_with fail
          refine H6.out.mono ?_
          rintro e w5 ⟨rfl, hD, hb, hT⟩
          have HD5 := Lib.hid hD
          have HB5 := Lib.hid hb
          have q59 := HBy.out w5 (hT.block g HYl.out (fun h => by have := (HDr.out.ft_lt h).2; have := HGe.out; omega))
          clear hD hb hT H6
          have H7 := Lib.hid (app_step p p (N : Int) m L hNb (by rw [HF.out.len]; decide) (by rw [HF.out.us]; decide) (fnm 0) (by decide) data (by rw [HDs.out]; omega) (nm_f 0 (by decide)) (.inl ((HF.out.has _).2 ⟨0, by decide, rfl⟩)) (by rw [HF.out.us, HDs.out]; omega) w0 w5 HPl.out HB5.out HD5.out)
          have hk0 : fnm 0 = ⟨#[102, 97, 97]⟩ := by decide
          have hk1 : fnm 1 = ⟨#[102, 97, 98]⟩ := by decide
          have HK0 := Lib.hid hk0
          have HK1 := Lib.hid hk1
          rw [hk0] at H7
          clear hk0 hk1
          go_wp2_with fail
          refine H7.out.mono ?_
          rintro e w6 ⟨rfl, ⟨b2, r2, hD, h1, _, _⟩, hb⟩
          rw [← HK0.out] at hD h1
          rw [HF.out.gt0, HDs.out, Nat.zero_add] at h1
          obtain ⟨L2, hL2⟩ : ∃ L2, L2 = pt L (fnm 0) (r2, (gt L (fnm 0)).2 ++ data.data.toList) := ⟨_, rfl⟩
          have hfu := HF.out.full HDr.out.sd r2 ((gt L (fnm 0)).2 ++ data.data.toList)
          rw [← hL2, h1] at hfu
          rw [← hL2] at hD
          have HFu := Lib.hid hfu
          have HD6 := Lib.hid hD
          have HB6 := Lib.hid hb
          clear hD h1 hb hL2 hfu H7 q59
          have H8 := Lib.hid (app_fail p p (N : Int) (some b2) L2 hNb (by rw [HFu.out.1]; decide) (by rw [HFu.out.2.1]; omega) (fnm 1) (by decide) ⟨#[120]⟩ (by decide) 28 (ap_28 (nm_f 1 (by decide)) HFu.out.2.2.2.1 _ _ (by rw [HFu.out.2.1]; show (N : Int) - (N : Int) < ((1 : Nat) : Int); omega)) (by decide) w0 w6 HPl.out HB6.out HD6.out)
          rw [HK1.out] at H8
          go_wp2_with fail
          refine H8.out.mono ?_
          rintro e w7 ⟨rfl, hD, hb, _⟩
          have HD7 := Lib.hid hD
          have HB7 := Lib.hid hb
          clear hD hb H8
          have HUs : Hid (Calls Try.prog 32 #[.pointer (some ⟨p, 0, none⟩)] w7 fun e w' => e = .returned (.int .i64 (N : Int)) ∧ Below w7.heap.size w7 w') := Lib.hid (by
            have h := used_any p p (Up (N : Int) (some b2) L2) (by show usF L2 ≤ _; rw [HFu.out.2.1]; omega) w7 HD7.out
            rw [if_neg (show ¬ (false = true) by decide), show sv (fun f : Fl => f.1.n) (Up (N : Int) (some b2) L2).fs = N from HFu.out.2.1] at h
            exact h)
          go_wp2_with fail
          refine HUs.out.mono ?_
          rintro e w8 ⟨rfl, hb⟩
          have HD8 := Lib.hid (HD7.out.below hb)
          have HB8 := Lib.hid (HB7.out.trans (hb.mono (Nat.le_trans HPl.out HB7.out.size)))
          clear hb HUs
          go_wp2_with fail
          refine (HCp.out _).mono ?_
          rintro e w9 ⟨rfl, rfl⟩
          have H9 := Lib.hid (rm_step p p (N : Int) (some b2) L2 (fnm 0) (by decide) (nm_f 0 (by decide)) HFu.out.2.2.1 w0 w9 HPl.out HB8.out HD8.out)
          rw [HK0.out] at H9
          go_wp2_with fail
          refine H9.out.mono ?_
          rintro e w10 ⟨rfl, hD, hb⟩
          rw [← HK0.out] at hD
          have HD10 := Lib.hid hD
          have HB10 := Lib.hid hb
          clear hD hb H9
          have H10 := Lib.hid (app_step p p (N : Int) (some b2) (dl L2 (fnm 0)) hNb (by rw [HFu.out.2.2.2.2.1]; decide) (by rw [HFu.out.2.2.2.2.2]; decide) kg (by decide) ⟨#[120]⟩ (by decide) nm_g (.inr (by rw [HFu.out.2.2.2.2.1]; decide)) (by rw [HFu.out.2.2.2.2.2]; show ((1 : Nat) : Int) ≤ (N : Int) - ((0 : Nat) : Int); omega) w0 w10 HPl.out HB10.out HD10.out)
          go_wp2_with fail
          refine H10.out.mono ?_
          rintro e w11 ⟨rfl, _, hb⟩
          have HB11 := Lib.hid hb
          clear hb H10
          go_wp2_with fail
          go_ret
          exact ⟨by first | rfl | simp, by rw [← HPe.out]; exact HB11.out⟩
theorem bd8 {a : Int} (w : (Lit.int .u8 a).wf = true) : 0 ≤ a ∧ a ≤ 255 := by
  simpa [Lit.wf, IntKind.min, IntKind.max, IntKind.signed, IntKind.bits] using w
theorem walk (w : World) (n : Int) (wn : (Lit.int .u8 n).wf = true) (c : Int) (wc : (Lit.int .u8 c).wf = true) :
    Calls Try.prog 10 #[.int .u8 n, .int .u8 c] w fun e w' => e = .returned (.bool true) ∧ Below w.heap.size w w' := by
  have h1 := bd8 wn
  have h2 := bd8 wc
  obtain ⟨i, rfl⟩ : ∃ i : Nat, n = (i : Int) := ⟨n.toNat, by omega⟩
  obtain ⟨j, rfl⟩ : ∃ j : Nat, c = (j : Int) := ⟨c.toNat, by omega⟩
  exact run w i j (by omega) (by omega)
set_option maxRecDepth 100000 in
theorem lifted (os : Os) (started : os.Started) (H : Type) (enc : TypeId × Value → H) :
    ReturnsInHanded {} Try.checked os 10 .any (Rows.diskFullSpec.pre6 enc Try.prog Try.f10 Rows.diskFullRow.domain false) (Rows.diskFullSpec.post enc Try.prog Try.f10 false true false false) := by
  refine returnsInHanded_of_change (C := Try.checked) own started (by kernel_rfl) Try.func10
    (ChangeSpec.witness6 (enc := enc) (C := Try.checked) false ⟨#[], #[.int .u8 0, .int .u8 0], []⟩ 8 (by kernel_rfl) (by kernel_rfl) (by kernel_rfl) (by kernel_rfl)) ?_
  intro W base args ds gs before hval0 hW _ _
  have hval : ∀ (j : Nat) t v, Try.f10.params[j]? = some t → args[j]? = some v → Value.okWide Try.prog W .any base t v := hval0
  have hW' := hW
  obtain ⟨p, q, hA0, hV, rfl, _, _⟩ := hW
  have hA : DataW.TrodAll enc Try.prog W 0 (fun _ => true) true Try.f10.params.toList args.toList ds p := hA0
  rw [Try.params10] at hA hval
  obtain ⟨v0, vs0, d0, ds0, p0, q0, hargs0, rfl, rfl, h0, r0⟩ := trodAll_cons hA
  obtain ⟨v1, vs1, d1, ds1, p1, q1, hargs1, rfl, rfl, h1, r1⟩ := trodAll_cons r0
  obtain ⟨rfl, rfl, rfl⟩ := trodAll_nil r1
  obtain rfl : args = #[v0, v1] := by cases args; simp_all
  obtain ⟨rfl, rfl⟩ := trodVars_none hV
  obtain ⟨a0, rfl, rfl, rfl, wa0⟩ := open_int Try.underlying5 (hval 0 5 v0 rfl rfl) h0
  obtain ⟨a1, rfl, rfl, rfl, wa1⟩ := open_int Try.underlying5 (hval 1 5 v1 rfl rfl) h1
  clear hA0 hval0
  simp only [List.append_nil] at hW'
  refine (walk W a0 wa0 a1 wa1).mono fun e W' ⟨he, hb⟩ => ?_
  subst he
  exact ⟨_, rfl, post_mem hW' hb (fun _ _ _ => trodAll_mk1 (shut_bool Try.underlying4 _)) (fun _ _ => by
    exact trodAll_cons_mk (shut_int Try.underlying5 wa0) (trodAll_cons_mk (shut_int Try.underlying5 wa1) trodAll_mk0)) (fun _ => rfl) (ok_one (by kernel_rfl) rfl (okWide_bool_mk Try.underlying4 _))⟩

theorem proved : Rows.DiskFullSaid :=
  OpenClaim.holds_of_wide 10 Try.f10 rfl rfl rfl rfl rfl rfl rfl ⟨rfl, rfl, rfl, rfl, rfl⟩ rfl rfl rfl rfl rfl (by kernel_rfl) Try.func10 (by kernel_rfl)
    (of_decide_eq_true (by kernel_rfl)) (by unfold Func.isWrapper; first | (rw [if_pos (by decide +kernel)]; kernel_rfl) | (rw [if_neg (by decide +kernel)]; exact ⟨rfl, rfl⟩))
    (fun os started H enc _ => lifted os started H enc)
end Go.Proofs.Ytjajmlamlmnljaa.lawFull
