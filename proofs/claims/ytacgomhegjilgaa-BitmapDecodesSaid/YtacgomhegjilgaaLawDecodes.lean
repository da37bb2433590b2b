/- The statement BitmapDecodes: for any string, the law returns true and changes nothing (written by wip/bin/gen_dec5.py). -/
import Derived.Test.YtacgomhegjilgaaRow
import Derived.Test.YtacgomhegjilgaaJg
namespace Go.Proofs.Ytacgomhegjilgaa.lawDecodes
open Go.Proofs.Ytacgomhegjilgaa Go.ChangeShapes Go.WideShapes Go.ChangeAt Go.RowKit Go.Joins Ts En

theorem dc_none (s : ByteArray) (h : dcE s ≠ 0) : dcL s = [] := by
  unfold dcE at h
  unfold dcL
  by_cases he : endE s (stB s (cntB s)) = 0
  · rw [if_pos he] at h ⊢
    cases hf : fdB s (cntB s) with
    | none => rfl
    | some x => rw [hf] at h; exact absurd rfl h
  · rw [if_neg he]
set_option maxRecDepth 100000 in
set_option maxHeartbeats 8000000 in
theorem walk (w : World) (s : ByteArray) (hs : s.size ≤ 9223372036854775807) :
    Calls Try.prog 12 #[.string s] w fun e w' => e = .returned (.bool true) ∧ Below w.heap.size w w' := by
  by_cases hlen : s.size ≤ 100
  · have hlI : ¬ (100 : Int) < (s.size : Int) := by omega
    have hlI2 : (s.size : Int) ≤ 100 := by omega
    have CD := Lib.hid (fun W => decode_any s (by omega) W)
    have CR := Lib.hid (fun W => ref_decode s (by omega) W)
    by_cases h0 : dcE s = 0
    · obtain ⟨f1, f2, f3⟩ := dc_sound s (by omega) h0
      rw [h0] at CD CR
      have CL := Lib.hid (fun A c v W hv h => law_runs (v := v) (L := dcL s) (by omega) A c (dcL s) (by omega) W hv h)
      rw [show decide (dcL s = dcL s) = true from decide_eq_true rfl] at CL
      have CE := Lib.hid (fun v W h => encode_any (v := v) (L := dcL s) (by omega) f2 W h)
      have ebb : (⟨(frmB (dcL s)).toArray⟩ : ByteArray) = s := f1
      rw [ebb] at CE
      obtain ⟨M, hM⟩ : ∃ M, M = dcL s := ⟨_, rfl⟩
      rw [← hM] at CD CR CL CE
      have H0 := Lib.hid (Hold.start w)
      clear h0 f1 f2 f3 ebb hM
      go_enter Try.func12, Try.ntmps12
      go_wp2_with fail
      refine (known_any _).mono ?_
      rintro e w1 ⟨rfl, hb⟩
      have H1 := Lib.hid (H0.out.next hb)
      clear hb
      go_wp2_with fail
      refine (CD.out _).mono ?_
      rintro e w2 ⟨⟨r, rfl, hr⟩, hb⟩
      have H2 := Lib.hid ((H1.out.next hb).addV hr)
      obtain ⟨D1, d1, rfl, _, _, _, _⟩ := hr
      clear hb
      have H3 := Lib.hid (H2.out.alloc (.cells #[.slice D1 M.length d1] 26) (Deep.blk_alloc_new w2 _))
      go_wp2_with fail
      refine (CR.out _).mono ?_
      rintro e w3 ⟨⟨r, rfl, hown⟩, hb⟩
      obtain ⟨D2, d2, rfl, _, hr, _⟩ := rs_own hown
      have H4 := Lib.hid ((H3.out.next hb).addN hr)
      clear hb hown hr
      have hc0 := H4.out.cell (.head _) 0
      go_wp2_with fail
      refine (CL.out _ _ _ _ (H4.out.set _ (.head _)) (H4.out.row _ (.head _))).mono ?_
      rintro e w4 ⟨rfl, hb⟩
      have H5 := Lib.hid (H4.out.next hb)
      clear hb hc0
      have hc0 := H5.out.cell (.head _) 0
      go_wp2_with fail
      refine (CE.out _ _ (H5.out.set _ (.head _))).mono ?_
      rintro e w5 ⟨rfl, hb⟩
      have H6 := Lib.hid (H5.out.next hb)
      clear hb hc0
      go_wp2_with fail
      go_ret
      exact ⟨by simp, H6.out.out⟩
    · have hz := dc_none s h0
      have CL := Lib.hid (fun A c v W hv h => law_runs (v := v) (L := []) (by decide) A c [] (by decide) W hv h)
      rw [show decide (([] : List Iv) = []) = true from decide_eq_true rfl] at CL
      rw [hz] at CD CR
      obtain ⟨E, hE⟩ : ∃ E, E = dcE s := ⟨_, rfl⟩
      rw [← hE] at CD CR h0
      have hEb : (E != (0 : Int)) = true := by simpa using h0
      have hEc : (E == (0 : Int)) = false := by simpa using h0
      have H0 := Lib.hid (Hold.start w)
      clear hz hE
      go_enter Try.func12, Try.ntmps12
      go_wp2_with fail
      refine (known_any _).mono ?_
      rintro e w1 ⟨rfl, hb⟩
      have H1 := Lib.hid (H0.out.next hb)
      clear hb
      go_wp2_with fail
      refine (CD.out _).mono ?_
      rintro e w2 ⟨⟨r, rfl, hr⟩, hb⟩
      have H2 := Lib.hid ((H1.out.next hb).addV hr)
      obtain ⟨D1, d1, rfl, _, _, _, _⟩ := hr
      clear hb
      have H3 := Lib.hid (H2.out.alloc (.cells #[.slice D1 0 d1] 26) (Deep.blk_alloc_new w2 _))
      go_wp2_with fail
      refine (CR.out _).mono ?_
      rintro e w3 ⟨⟨r, rfl, hown⟩, hb⟩
      obtain ⟨D2, d2, rfl, _, hr, _⟩ := rs_own hown
      have H4 := Lib.hid ((H3.out.next hb).addN hr)
      clear hb hown hr
      have hc0 := H4.out.cell (.head _) 0
      go_wp2_with fail
      refine (CL.out _ _ _ _ (H4.out.set _ (.head _)) (H4.out.row _ (.head _))).mono ?_
      rintro e w4 ⟨rfl, hb⟩
      have H5 := Lib.hid (H4.out.next hb)
      clear hb hc0
      go_wp2_with fail
      go_ret
      exact ⟨by simp, H5.out.out⟩
  · have hlI : (100 : Int) < (s.size : Int) := by omega
    have H0 := Lib.hid (Hold.start w)
    go_enter Try.func12, Try.ntmps12
    go_wp2_with fail
    refine (known_any _).mono ?_
    rintro e w1 ⟨rfl, hb⟩
    have H1 := Lib.hid (H0.out.next hb)
    clear hb
    go_wp2_with fail
    refine (known_any _).mono ?_
    rintro e w2 ⟨rfl, hb⟩
    have H2 := Lib.hid (H1.out.next hb)
    clear hb
    go_wp2_with fail
    go_ret
    exact ⟨rfl, H2.out.out⟩
set_option maxRecDepth 100000 in
theorem lifted (os : Os) (started : os.Started) (H : Type) (enc : TypeId × Value → H) :
    ReturnsInHanded {} Try.checked os 12 .any (Rows.bitmapDecodesSpec.pre6 enc Try.prog Try.f12 Rows.bitmapDecodesRow.domain false) (Rows.bitmapDecodesSpec.post enc Try.prog Try.f12 false true false false) := by
  refine returnsInHanded_of_change (C := Try.checked) own started (by kernel_rfl) Try.func12
    (ChangeSpec.witness6 (enc := enc) (C := Try.checked) false ⟨#[], #[.string ByteArray.empty], []⟩ 8 (by kernel_rfl) (by kernel_rfl) (by kernel_rfl) (by kernel_rfl)) ?_
  intro W base args ds gs before hval0 hW _ _
  have hval : ∀ (j : Nat) t v, Try.f12.params[j]? = some t → args[j]? = some v → Value.okWide Try.prog W .any base t v := hval0
  have hW' := hW
  obtain ⟨p, q, hA0, hV, rfl, _, _⟩ := hW
  have hA : DataW.TrodAll enc Try.prog W 0 (fun _ => true) true Try.f12.params.toList args.toList ds p := hA0
  rw [Try.params12] at hA hval
  obtain ⟨v0, vs0, d0, ds0, p0, q0, hargs0, rfl, rfl, h0, r0⟩ := trodAll_cons hA
  obtain ⟨rfl, rfl, rfl⟩ := trodAll_nil r0
  obtain rfl : args = #[v0] := by cases args; simp_all
  obtain ⟨rfl, rfl⟩ := trodVars_none hV
  obtain ⟨s0, rfl, rfl, rfl, ws0⟩ := Go.ChangeMaps.open_string Try.underlying9 (hval 0 9 v0 rfl rfl) h0
  clear hA0 hval0
  simp only [List.append_nil] at hW'
  refine (walk W s0 ws0).mono fun e W' ⟨he, hb⟩ => ?_
  subst he
  exact ⟨_, rfl, post_mem hW' hb (fun _ _ _ => trodAll_mk1 (shut_bool Try.underlying4 _)) (fun _ _ => by
    exact trodAll_cons_mk (Go.ChangeMaps.shut_string Try.underlying9 ws0) trodAll_mk0) (fun _ => rfl) (ok_one (by kernel_rfl) rfl (okWide_bool_mk Try.underlying4 _))⟩

theorem proved : Rows.BitmapDecodesSaid :=
  OpenClaim.holds_of_wide 12 Try.f12 rfl rfl rfl rfl rfl rfl rfl ⟨rfl, rfl, rfl, rfl, rfl⟩ rfl rfl rfl rfl rfl (by kernel_rfl) Try.func12 (by kernel_rfl)
    (of_decide_eq_true (by kernel_rfl)) (by unfold Func.isWrapper; first | (rw [if_pos (by decide +kernel)]; kernel_rfl) | (rw [if_neg (by decide +kernel)]; exact ⟨rfl, rfl⟩))
    (fun os started H enc _ => lifted os started H enc)

end Go.Proofs.Ytacgomhegjilgaa.lawDecodes
