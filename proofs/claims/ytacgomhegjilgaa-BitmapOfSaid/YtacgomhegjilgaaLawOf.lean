/- The statement BitmapOf: for any numbers, the law returns true and changes nothing (written by wip/bin/gen_lof.py). -/
import Derived.Test.YtacgomhegjilgaaHe
import Derived.Test.YtacgomhegjilgaaGi
namespace Go.Proofs.Ytacgomhegjilgaa.lawOf
open Go.Proofs.Ytacgomhegjilgaa Go.ChangeShapes Go.WideShapes Go.ChangeAt Go.RowKit Go.Joins Ts

attribute [local go_sem ↓] Go.wp_at_zero Go.wp_at_succ
theorem nil_bs (n : Nat) : Bs n [] := ⟨Nrm.nil, Nat.zero_le _, fun _ h => absurd h In.nil⟩
set_option maxRecDepth 100000 in
set_option maxHeartbeats 16000000 in
theorem walk (w : World) (A0 : Option Addr) (c0 : Nat) (L0 : List Int) (hL0 : L0.length ≤ 9223372036854775807) (hR0 : Rs w w.heap.size A0 (nC L0)) :
    Calls Try.prog 3 #[.slice A0 L0.length c0] w fun e w' => e = .returned (.bool true) ∧ Below w.heap.size w w' := by
  have H0 := Lib.hid ((Hold.start w).addN hR0)
  clear hR0
  by_cases hlen : L0.length ≤ 40
  · have hlI : ¬ (40 : Int) < (L0.length : Int) := by omega
    have hlI2 : (L0.length : Int) ≤ 40 := by omega
    cases hv : L0.all isR with
    | true =>
      have hr : ∀ n ∈ L0, isR n = true := fun n hn => List.all_eq_true.1 hv n hn
      have hB := set_bs (l := L0) (by omega) hr
      have CO := Lib.hid (fun A c W h => of_any A c L0 (by omega) (any_ok hr) W h)
      have CV := Lib.hid (fun A c W h => valid_any A c L0 (by omega) W h)
      rw [hv] at CV
      have CS := Lib.hid (fun A c W h => ref_sorted A c L0 (by omega) W h)
      have hbl : (bds L0).length ≤ 40 := by have := (bds_gen L0 [] List.Pairwise.nil).2.2; unfold bds; simp only [List.length_nil] at this; omega
      have hbi : Inc (bds L0) := (bds_gen L0 [] List.Pairwise.nil).1
      have hbm : ∀ n, n ∈ bds L0 ↔ In n (setL L0) := fun n => (bds_mem L0 n).trans ((setL_spec L0).2 n).symm
      have CI := Lib.hid (fun A c v W (hv : Sl W v (rn (setL L0))) (hR : Rs W W.heap.size A (nC (bds L0))) => is_true (v := v) hB A c (bds L0) (by omega) hbi hbm W hv hR)
      obtain ⟨M, hM⟩ : ∃ M, M = setL L0 := ⟨_, rfl⟩
      rw [← hM] at CO CI
      obtain ⟨T, hT⟩ : ∃ T, T = bds L0 := ⟨_, rfl⟩
      rw [← hT] at CS CI
      clear hr hB hbl hbi hbm hM hT hv
      go_enter Try.func3, Try.ntmps3
      go_wp2_with fail
      refine (known_any _).mono ?_
      rintro e v1 ⟨rfl, hb⟩
      have HH1 := Lib.hid (H0.out.next hb)
      clear hb
      go_wp2_with fail
      refine (CO.out A0 c0 _ (HH1.out.row _ (.head _))).mono ?_
      rintro e v2 ⟨⟨r, rfl, hr⟩, hb⟩
      have HH2 := Lib.hid ((HH1.out.next hb).addV hr)
      obtain ⟨D2, d2, rfl, _, _, _, _⟩ := hr
      clear hb
      have HA2 := Lib.hid (HH2.out.alloc (.cells #[.slice D2 (rn M).length d2] 26) (Deep.blk_alloc_new v2 _))
      go_wp2_with fail
      refine (CV.out A0 c0 _ (HA2.out.row _ (.head _))).mono ?_
      rintro e v3 ⟨rfl, hw⟩
      have HH3 := Lib.hid (HA2.out)
      rw [← hw] at HH3
      clear hw
      go_wp2_with fail
      go_region_held3 (fun W => W.cell? ⟨v2.heap.size, 0, none⟩ = some (.slice D2 (rn M).length d2))
        (first | exact HH5.out.cell (.head _) 0 | exact HH4.out.cell (.head _) 0 | exact HH3.out.drew.cell (.head _) 0 | assumption)
        ((first
          | (go_at_call 16; have := HH4; refine (CI.out _ _ _ _ (HH4.out.set _ (.head _)) (HH4.out.row _ (.head _))).mono ?_; rintro e v5 ⟨rfl, hb⟩; have HH5 := Lib.hid (HH4.out.next hb); clear hb)
          | (go_at_call 17; refine (CS.out A0 c0 _ (HH3.out.drew.row _ (.head _))).mono ?_; rintro e v4 ⟨⟨r, rfl, hown⟩, hb⟩; obtain ⟨D4, d4, rfl, _, hr, _⟩ := rs_ownn hown; have HH4 := Lib.hid ((HH3.out.drew.next hb).addN hr); clear hb hown hr)
          | fail))
      go_wp2_with fail
      go_ret
      exact ⟨by simp, HH5.out.out⟩
    | false =>
      have hin : L0.any (fun x => !isR x) = true := by
        obtain ⟨x, hx, hx2⟩ := List.all_eq_false.1 hv
        exact List.any_eq_true.2 ⟨x, hx, by simpa using hx2⟩
      have CO := Lib.hid (fun A c W h => of_bad A c L0 (by omega) hin W h)
      have CV := Lib.hid (fun A c W h => valid_any A c L0 (by omega) W h)
      rw [hv] at CV
      clear hin hv
      go_enter Try.func3, Try.ntmps3
      go_wp2_with fail
      refine (known_any _).mono ?_
      rintro e v1 ⟨rfl, hb⟩
      have HH1 := Lib.hid (H0.out.next hb)
      clear hb
      go_wp2_with fail
      refine (CO.out A0 c0 _ (HH1.out.row _ (.head _))).mono ?_
      rintro e v2 ⟨rfl, hb⟩
      have HH2 := Lib.hid (HH1.out.next hb)
      clear hb
      have HA2 := Lib.hid (HH2.out.alloc (.cells #[.slice none 0 0] 26) (Deep.blk_alloc_new v2 _))
      go_wp2_with fail
      refine (CV.out A0 c0 _ (HA2.out.row _ (.head _))).mono ?_
      rintro e v3 ⟨rfl, hw⟩
      have HH3 := Lib.hid (HA2.out)
      rw [← hw] at HH3
      clear hw
      have hc0 := HH3.out.cell (.head _) 0
      go_wp2_with fail
      refine (is_true (N := []) (nil_bs _) none 0 [] (by decide) List.Pairwise.nil (fun n => ⟨(fun h => nomatch h), (fun h => absurd h In.nil)⟩) _ (sl_zero _) Rs.nil).mono ?_
      rintro e v4 ⟨rfl, hb⟩
      have HH4 := Lib.hid (HH3.out.next hb)
      clear hb
      clear hc0
      go_wp2_with fail
      go_ret
      exact ⟨rfl, HH4.out.out⟩
  · have hlI : (40 : Int) < (L0.length : Int) := by omega
    go_enter Try.func3, Try.ntmps3
    go_wp2_with fail
    refine (known_any _).mono ?_
    rintro e v1 ⟨rfl, hb⟩
    have HH1 := Lib.hid (H0.out.next hb)
    clear hb
    go_wp2_with fail
    refine (known_any _).mono ?_
    rintro e v2 ⟨rfl, hb⟩
    have HH2 := Lib.hid (HH1.out.next hb)
    clear hb
    go_wp2_with fail
    go_ret
    exact ⟨rfl, HH2.out.out⟩
set_option maxRecDepth 100000 in
theorem lifted (os : Os) (started : os.Started) (H : Type) (enc : TypeId × Value → H) :
    ReturnsInHanded {} Try.checked os 3 .any (Rows.bitmapOfSpec.pre6 enc Try.prog Try.f3 Rows.bitmapOfRow.domain false) (Rows.bitmapOfSpec.post enc Try.prog Try.f3 false true false false) := by
  refine returnsInHanded_of_change (C := Try.checked) own started (by kernel_rfl) Try.func3
    (ChangeSpec.witness6 (enc := enc) (C := Try.checked) false ⟨#[], #[.slice none 0 0], []⟩ 8 (by kernel_rfl) (by kernel_rfl) (by kernel_rfl) (by kernel_rfl)) ?_
  intro W base args ds gs before hval0 hW _ _
  have hval : ∀ (j : Nat) t v, Try.f3.params[j]? = some t → args[j]? = some v → Value.okWide Try.prog W .any base t v := hval0
  have hW' := hW
  obtain ⟨p, q, hA0, hV, rfl, _, _⟩ := hW
  have hA : DataW.TrodAll enc Try.prog W 0 (fun _ => true) true Try.f3.params.toList args.toList ds p := hA0
  rw [Try.params3] at hA hval
  obtain ⟨v0, vs0, d0, ds0, p0, q0, hargs0, rfl, rfl, h0, r0⟩ := trodAll_cons hA
  obtain ⟨rfl, rfl, rfl⟩ := trodAll_nil r0
  obtain rfl : args = #[v0] := by cases args; simp_all
  obtain ⟨rfl, rfl⟩ := trodVars_none hV
  have lt0 : ∀ x ∈ p0, x.block < W.heap.size := fun x hx => hW'.lt x (by simp [hx])
  obtain ⟨A0, c0, L0, rfl, hL0, hR0⟩ := open_nums (hval 0 22 v0 rfl rfl) h0 lt0
  clear hA0 hval0
  simp only [List.append_nil] at hW'
  refine (walk W A0 c0 L0 hL0 hR0).mono fun e W' ⟨he, hb⟩ => ?_
  subst he
  exact ⟨_, rfl, post_mem hW' hb (fun _ _ _ => trodAll_mk1 (shut_bool Try.underlying4 _)) (fun sp hsp => by
    have t := trodAll_cons_mk (carry laidOut (by kernel_rfl) (of_decide_eq_true (by kernel_rfl)) h0 hb lt0 sp (fun x hx => hsp x (by simp [hx]))) trodAll_mk0
    simp only [List.append_nil] at t
    exact t) (fun _ => rfl) (ok_one (by kernel_rfl) rfl (okWide_bool_mk Try.underlying4 _))⟩

theorem proved : Rows.BitmapOfSaid :=
  OpenClaim.holds_of_wide 3 Try.f3 rfl rfl rfl rfl rfl rfl rfl ⟨rfl, rfl, rfl, rfl, rfl⟩ rfl rfl rfl rfl rfl (by kernel_rfl) Try.func3 (by kernel_rfl)
    (of_decide_eq_true (by kernel_rfl)) (by unfold Func.isWrapper; first | (rw [if_pos (by decide +kernel)]; kernel_rfl) | (rw [if_neg (by decide +kernel)]; exact ⟨rfl, rfl⟩))
    (fun os started H enc _ => lifted os started H enc)

end Go.Proofs.Ytacgomhegjilgaa.lawOf
