/- The statement DictionaryEncodes: for any strings, the law returns true and changes nothing. No condition. -/
import Derived.Test.YtjkpjcklfpmcnaaRow
import Derived.Test.YtjkpjcklfpmcnaaDd
import Derived.Test.YtjkpjcklfpmcnaaDg
import Derived.Test.YtjkpjcklfpmcnaaEn
namespace Go.Proofs.Ytjkpjcklfpmcnaa.lawEncodes
open Go.Proofs.Ytjkpjcklfpmcnaa Go.ChangeShapes Go.WideShapes Go.ChangeAt Go.RowKit Go.Joins Dp

theorem few_true {L : List ByteArray} (h : fewB L = true) : L.length ≤ 60 ∧ ∀ x ∈ L, x.size ≤ 300 := by
  unfold fewB at h
  rw [Bool.and_eq_true] at h
  refine ⟨of_decide_eq_true h.2, fun x hx => ?_⟩
  exact of_decide_eq_true (List.all_eq_true.1 h.1 x hx)
set_option maxRecDepth 100000 in
set_option maxHeartbeats 4000000 in
theorem walk (w : World) (A : Option Addr) (c : Nat) (L : List ByteArray) (hL : L.length ≤ 9223372036854775807) (hs : ∀ x ∈ L, x.size ≤ 9223372036854775807) (hR : Rd Value.string w A L) :
    Calls Try.prog 10 #[.slice A L.length c] w fun e w' => e = .returned (.bool true) ∧ Below w.heap.size w w' := by
  have HR := Lib.hid hR
  have hfew := fun W => few_any A c L hL hs W
  cases hf : fewB L with
  | true =>
    rw [hf] at hfew
    have HFW := Lib.hid hfew
    obtain ⟨hl, hz⟩ := few_true hf
    have hd := fun W => dictionaryOf_any A c L (by omega) hs W
    have hDl := dcO_len L
    have hDS := dcO_srt L
    have hDz := dcO_size L
    obtain ⟨d, hdd⟩ : ∃ d, d = dcO L := ⟨_, rfl⟩
    rw [← hdd] at hd hDl hDS hDz
    have hck := chk_srt hDS hDz (by omega)
    have h1 := fun X x W g => encode_any X x d (by omega) (fun y hy => by have := hDz y hy; omega) W g hck
    have h3 := fun X x W g => rencode_any X x d (by omega) hDz W g
    have h4 := fun X x W g => size_any X x d (by omega) (fun y hy => by have := hDz y hy; omega) W g
    have hdec := dec_frm hck
    have hfb := frm_bound d d.length (fun y hy => by have := hDz y hy; omega)
    have hts : (⟨(frm d d.length).toArray⟩ : ByteArray).size = (frm d d.length).length := by
      show (frm d d.length).toArray.size = _
      simp
    obtain ⟨t, ht⟩ : ∃ t : ByteArray, t = ⟨(frm d d.length).toArray⟩ := ⟨_, rfl⟩
    rw [← hts] at h4 hfb
    rw [← ht] at h1 h3 h4 hdec hfb
    have h5 := fun W => decode_any t (by omega) W
    unfold DecPost at h5
    rw [hdec] at h5
    have htt : (t.toList == t.toList) = true := by simp
    have HD := Lib.hid hd
    have HE := Lib.hid h1
    have HRE := Lib.hid h3
    have HSZ := Lib.hid h4
    have HDE := Lib.hid h5
    have hrc := fun W => rcheck_any A c L hL hs W
    have HRC := Lib.hid hrc
    clear hfew hf hd hDS hDz hdd hck h1 h3 h4 h5 hdec hts ht hR hrc
    by_cases h0 : chk L = 0
    · obtain ⟨z1, z2, z3⟩ := chk_zero h0
      have h6 := fun W g => encode_any A c L hL hs W g h0
      have h7 := fun W g => rencode_any A c L (by omega) z1 W g
      rw [h0] at HRC
      obtain ⟨s, hse⟩ : ∃ s : ByteArray, s = ⟨(frm L L.length).toArray⟩ := ⟨_, rfl⟩
      rw [← hse] at h6 h7
      have hss : (s.toList == s.toList) = true := by simp
      have H6 := Lib.hid h6
      have H7 := Lib.hid h7
      clear h6 h7 z1 z2 z3 h0 hse hz hs
      go_enter Try.func10, Try.ntmps10
      go_wp2_with fail
      refine (known_any w).mono ?_
      rintro e w1 ⟨rfl, hB1⟩
      have HB1 := Lib.hid hB1
      have K1 := Lib.hid (HR.out.below hB1)
      clear hB1
      go_wp2_with fail
      refine (HFW.out w1 K1.out).mono ?_
      rintro e w1' ⟨rfl, rfl⟩
      go_wp2_with fail
      refine (H6.out _ K1.out).mono ?_
      rintro e w2 ⟨rfl, hB2⟩
      have HB2 := Lib.hid (below_to HB1.out hB2)
      have K2 := Lib.hid (K1.out.below hB2)
      clear hB2
      go_wp2_with fail
      refine (HRC.out _ K2.out).mono ?_
      rintro e w3 ⟨rfl, hB3⟩
      have HB3 := Lib.hid (below_to HB2.out hB3)
      have K3 := Lib.hid (K2.out.below hB3)
      clear hB3
      go_wp2_with fail
      refine (H7.out _ K3.out).mono ?_
      rintro e w4 ⟨rfl, hB4⟩
      have HB4 := Lib.hid (below_to HB3.out hB4)
      have K4 := Lib.hid (K3.out.below hB4)
      clear hB4
      go_wp2_with fail
      refine (HD.out _ K4.out).mono ?_
      rintro e w5 ⟨⟨A5, c5, rfl, hc5, _, hr5⟩, hB5⟩
      have HB5 := Lib.hid (below_to HB4.out hB5)
      have D5 := Lib.hid hr5
      clear hB5 hr5
      go_wp2_with fail
      refine (HE.out A5 c5 _ D5.out).mono ?_
      rintro e w6 ⟨rfl, hB6⟩
      have HB6 := Lib.hid (below_to HB5.out hB6)
      have D6 := Lib.hid (D5.out.below hB6)
      clear hB6
      go_wp2_with fail
      refine (HDE.out _).mono ?_
      rintro e w7 ⟨⟨A7, c7, rfl, hc7, hr7⟩, hB7⟩
      have HB7 := Lib.hid (below_to HB6.out hB7)
      have D7 := Lib.hid (D6.out.below hB7)
      have R7 := Lib.hid hr7
      clear hB7 hr7
      go_wp2_with fail
      refine (HRE.out A5 c5 _ D7.out).mono ?_
      rintro e w8 ⟨rfl, hB8⟩
      have HB8 := Lib.hid (below_to HB7.out hB8)
      have D8 := Lib.hid (D7.out.below hB8)
      have R8 := Lib.hid (R7.out.below hB8)
      clear hB8
      go_wp2_with fail
      refine (HSZ.out A5 c5 _ D8.out).mono ?_
      rintro e w9 ⟨rfl, q9, rfl⟩
      have hsm := same_any A7 A5 c7 c5 d d (by omega) (by omega) (w8.drewN q9) (R8.out.below (drewN_below _ _)) (D8.out.below (drewN_below _ _))
      rw [decide_eq_true rfl] at hsm
      go_wp2_with fail
      refine hsm.mono ?_
      rintro e w10 ⟨rfl, hB10⟩
      have HB10 := Lib.hid (below_to (below_drewN HB8.out q9) hB10)
      clear hB10 hsm
      go_wp2_with fail
      go_ret
      exact ⟨rfl, HB10.out⟩
    · have h6 := fun W g => encode_bad A c L hL hs W g h0
      obtain ⟨E, hE⟩ : ∃ E, E = chk L := ⟨_, rfl⟩
      rw [← hE] at h6 HRC h0
      have hne : (E != 0) = true := by simpa using h0
      have hne2 : (E == 0) = false := by simpa using h0
      have H6 := Lib.hid h6
      clear h6 hE h0 hz hs
      go_enter Try.func10, Try.ntmps10
      go_wp2_with fail
      refine (known_any w).mono ?_
      rintro e w1 ⟨rfl, hB1⟩
      have HB1 := Lib.hid hB1
      have K1 := Lib.hid (HR.out.below hB1)
      clear hB1
      go_wp2_with fail
      refine (HFW.out w1 K1.out).mono ?_
      rintro e w1' ⟨rfl, rfl⟩
      go_wp2_with fail
      refine (H6.out _ K1.out).mono ?_
      rintro e w2 ⟨rfl, hB2⟩
      have HB2 := Lib.hid (below_to HB1.out hB2)
      have K2 := Lib.hid (K1.out.below hB2)
      clear hB2
      go_wp2_with fail
      refine (HRC.out _ K2.out).mono ?_
      rintro e w3 ⟨rfl, hB3⟩
      have HB3 := Lib.hid (below_to HB2.out hB3)
      have K3 := Lib.hid (K2.out.below hB3)
      clear hB3
      go_wp2_with fail
      refine (HD.out _ K3.out).mono ?_
      rintro e w5 ⟨⟨A5, c5, rfl, hc5, _, hr5⟩, hB5⟩
      have HB5 := Lib.hid (below_to HB3.out hB5)
      have D5 := Lib.hid hr5
      clear hB5 hr5
      go_wp2_with fail
      refine (HE.out A5 c5 _ D5.out).mono ?_
      rintro e w6 ⟨rfl, hB6⟩
      have HB6 := Lib.hid (below_to HB5.out hB6)
      have D6 := Lib.hid (D5.out.below hB6)
      clear hB6
      go_wp2_with fail
      refine (HDE.out _).mono ?_
      rintro e w7 ⟨⟨A7, c7, rfl, hc7, hr7⟩, hB7⟩
      have HB7 := Lib.hid (below_to HB6.out hB7)
      have D7 := Lib.hid (D6.out.below hB7)
      have R7 := Lib.hid hr7
      clear hB7 hr7
      go_wp2_with fail
      refine (HRE.out A5 c5 _ D7.out).mono ?_
      rintro e w8 ⟨rfl, hB8⟩
      have HB8 := Lib.hid (below_to HB7.out hB8)
      have D8 := Lib.hid (D7.out.below hB8)
      have R8 := Lib.hid (R7.out.below hB8)
      clear hB8
      go_wp2_with fail
      refine (HSZ.out A5 c5 _ D8.out).mono ?_
      rintro e w9 ⟨rfl, q9, rfl⟩
      have hsm := same_any A7 A5 c7 c5 d d (by omega) (by omega) (w8.drewN q9) (R8.out.below (drewN_below _ _)) (D8.out.below (drewN_below _ _))
      rw [decide_eq_true rfl] at hsm
      go_wp2_with fail
      refine hsm.mono ?_
      rintro e w10 ⟨rfl, hB10⟩
      have HB10 := Lib.hid (below_to (below_drewN HB8.out q9) hB10)
      clear hB10 hsm
      go_wp2_with fail
      go_ret
      exact ⟨rfl, HB10.out⟩
  | false =>
    rw [hf] at hfew
    have HFW := Lib.hid hfew
    clear hfew hf hR hs hL
    go_enter Try.func10, Try.ntmps10
    go_wp2_with fail
    refine (known_any w).mono ?_
    rintro e w1 ⟨rfl, hB1⟩
    have HB1 := Lib.hid hB1
    have K1 := Lib.hid (HR.out.below hB1)
    clear hB1
    go_wp2_with fail
    refine (HFW.out w1 K1.out).mono ?_
    rintro e w1' ⟨rfl, rfl⟩
    go_wp2_with fail
    refine (known_any _).mono ?_
    rintro e w2 ⟨rfl, hB2⟩
    have HB2 := Lib.hid (below_to HB1.out hB2)
    clear hB2
    go_wp2_with fail
    go_ret
    exact ⟨rfl, HB2.out⟩

set_option maxRecDepth 100000 in
theorem lifted (os : Os) (started : os.Started) (H : Type) (enc : TypeId × Value → H) :
    ReturnsInHanded {} Try.checked os 10 .any (Rows.dictionaryEncodesSpec.pre6 enc Try.prog Try.f10 Rows.dictionaryEncodesRow.domain false) (Rows.dictionaryEncodesSpec.post enc Try.prog Try.f10 false true false false) := by
  refine returnsInHanded_of_change (C := Try.checked) own started (by kernel_rfl) Try.func10
    (ChangeSpec.witness6 (enc := enc) (C := Try.checked) false ⟨#[], #[.slice none 0 0], []⟩ 8 (by kernel_rfl) (by kernel_rfl) (by kernel_rfl) (by kernel_rfl)) ?_
  intro W base args ds gs before hval0 hW _ _
  have hval : ∀ (j : Nat) t v, Try.f10.params[j]? = some t → args[j]? = some v → Value.okWide Try.prog W .any base t v := hval0
  have hW' := hW
  obtain ⟨p, q, hA0, hV, rfl, _, _⟩ := hW
  have hA : DataW.TrodAll enc Try.prog W 0 (fun _ => true) true Try.f10.params.toList args.toList ds p := hA0
  rw [Try.params10] at hA hval
  obtain ⟨v0, vs0, d0, ds0, p0, q0, hargs0, rfl, rfl, h0, r0⟩ := trodAll_cons hA
  obtain ⟨rfl, rfl, rfl⟩ := trodAll_nil r0
  obtain rfl : args = #[v0] := by cases args; simp_all
  obtain ⟨rfl, rfl⟩ := trodVars_none hV
  have lt0 : ∀ x ∈ p0, x.block < W.heap.size := fun x hx => hW'.lt x (by simp [hx])
  obtain ⟨A0, c0, L0, rfl, hL0, hs0, hR0⟩ := open_strs (hval 0 22 v0 rfl rfl) h0 lt0
  clear hA0 hval0
  simp only [List.append_nil] at hW'
  refine (walk W A0 c0 L0 hL0 hs0 hR0).mono fun e W' ⟨he, hb⟩ => ?_
  subst he
  exact ⟨_, rfl, post_mem hW' hb (fun _ _ _ => trodAll_mk1 (shut_bool Try.underlying4 _)) (fun sp hsp => by
    have t := trodAll_cons_mk (carry laidOut (by kernel_rfl) (of_decide_eq_true (by kernel_rfl)) h0 hb lt0 sp (fun x hx => hsp x (by simp [hx]))) trodAll_mk0
    simp only [List.append_nil] at t
    exact t) (fun _ => rfl) (ok_one (by kernel_rfl) rfl (okWide_bool_mk Try.underlying4 _))⟩

theorem proved : Rows.DictionaryEncodesSaid :=
  OpenClaim.holds_of_wide 10 Try.f10 rfl rfl rfl rfl rfl rfl rfl ⟨rfl, rfl, rfl, rfl, rfl⟩ rfl rfl rfl rfl rfl (by kernel_rfl) Try.func10 (by kernel_rfl)
    (of_decide_eq_true (by kernel_rfl)) (by unfold Func.isWrapper; first | (rw [if_pos (by decide +kernel)]; kernel_rfl) | (rw [if_neg (by decide +kernel)]; exact ⟨rfl, rfl⟩))
    (fun os started H enc _ => lifted os started H enc)

end Go.Proofs.Ytjkpjcklfpmcnaa.lawEncodes
