/- The statement DictionaryChecks: for any strings, the law returns true and changes nothing. No condition. -/
import Derived.Test.YtjkpjcklfpmcnaaRow
namespace Go.Proofs.Ytjkpjcklfpmcnaa.lawChecks
open Go.Proofs.Ytjkpjcklfpmcnaa Go.ChangeShapes Go.WideShapes Go.ChangeAt Go.RowKit Go.Joins Dp

theorem few_true {L : List ByteArray} (h : fewB L = true) : L.length ≤ 60 ∧ ∀ x ∈ L, x.size ≤ 300 := by
  unfold fewB at h
  rw [Bool.and_eq_true] at h
  refine ⟨of_decide_eq_true h.2, fun x hx => ?_⟩
  exact of_decide_eq_true (List.all_eq_true.1 h.1 x hx)
theorem chk_bld {L : List ByteArray} (h : bdE L = 0) (hl : L.length ≤ 60) : chk (bld L) = 0 := by
  have hs : ∀ x ∈ L, x.size ≤ 255 := by
    intro x hx
    by_cases hh : x.size ≤ 255
    · exact hh
    · obtain ⟨k, hk, rfl⟩ := List.mem_iff_getElem.1 hx
      rw [bdE_long ⟨k, hk, by omega⟩] at h
      exact absurd h (by decide)
  exact chk_srt (bld_srt L) (fun x hx => hs x ((bld_mem L x).1 hx)) (by have := bld_len L; omega)
set_option maxRecDepth 100000 in
set_option maxHeartbeats 1000000 in
theorem walk (w : World) (A : Option Addr) (c : Nat) (L : List ByteArray) (hL : L.length ≤ 9223372036854775807) (hs : ∀ x ∈ L, x.size ≤ 9223372036854775807) (hR : Rd Value.string w A L) :
    Calls Try.prog 3 #[.slice A L.length c] w fun e w' => e = .returned (.bool true) ∧ Below w.heap.size w w' := by
  have HR := Lib.hid hR
  have hfew := fun W => few_any A c L hL hs W
  cases hf : fewB L with
  | true =>
    obtain ⟨hl, hz⟩ := few_true hf
    rw [hf] at hfew
    have HFW := Lib.hid hfew
    have hb := fun W => build_any A c L (by omega) hs W
    have hrb := fun W => rbuild_any A c L (by omega) hs W
    have hc1 := fun W => check_any A c L hL hs W
    have hc2 := fun W => rcheck_any A c L hL hs W
    have hE0 := fun h => chk_bld (L := L) h hl
    have hV0 : bdE L = 0 → bdV L = bld L := fun h => by unfold bdV; rw [if_pos h]
    have hVl : (bdV L).length ≤ 60 := by
      unfold bdV; split
      · have := bld_len L; omega
      · simp
    have hVs : ∀ x ∈ bdV L, x.size ≤ 9223372036854775807 := by
      intro x hx
      unfold bdV at hx
      split at hx
      · exact hs x ((bld_mem L x).1 hx)
      · simp at hx
    have hck : bdE L = 0 → chk (bdV L) = 0 := fun h => by rw [hV0 h]; exact hE0 h
    obtain ⟨E, hE⟩ : ∃ E, E = bdE L := ⟨_, rfl⟩
    obtain ⟨V, hV⟩ : ∃ V, V = bdV L := ⟨_, rfl⟩
    obtain ⟨C, hC⟩ : ∃ C, C = chk L := ⟨_, rfl⟩
    rw [← hE] at hb hrb hck
    rw [← hV] at hb hrb hck hVl hVs
    rw [← hC] at hc1 hc2
    have H1 := Lib.hid hb
    have H2 := Lib.hid hrb
    have H3 := Lib.hid hc1
    have H4 := Lib.hid hc2
    have H5 := Lib.hid hck
    have H6 := Lib.hid hVs
    clear hfew hf hb hrb hc1 hc2 hE0 hV0 hck hVs hE hV hC hR hs hz
    by_cases hE : E = 0
    · subst hE
      have hcd := fun A' c' W => check_any A' c' V (by omega) H6.out W
      rw [H5.out rfl] at hcd
      have H7 := Lib.hid hcd
      clear hcd
      go_enter Try.func3, Try.ntmps3
      go_wp2_with fail
      refine (known_any w).mono ?_
      rintro e w1 ⟨rfl, hB1⟩
      have HB1 := Lib.hid hB1
      have K1 := Lib.hid (HR.out.below hB1)
      clear hB1
      go_wp2_with fail
      refine (HFW.out w1 K1.out).mono ?_
      rintro e w1' ⟨rfl, rfl⟩
      go_wp2_with fail
      refine (H1.out _ K1.out).mono ?_
      rintro e w2 ⟨⟨A2, c2, rfl, hc2, hA2, hr2⟩, hB2⟩
      have HB2 := Lib.hid (below_to HB1.out hB2)
      have K2 := Lib.hid (K1.out.below hB2)
      have S2 := Lib.hid hr2
      clear hB2 hr2 hA2
      go_wp2_with fail
      refine (H2.out _ K2.out).mono ?_
      rintro e w3 ⟨⟨A3, c3, rfl, hc3, hA3, hr3⟩, hB3⟩
      have HB3 := Lib.hid (below_to HB2.out hB3)
      have K3 := Lib.hid (K2.out.below hB3)
      have S3 := Lib.hid (S2.out.below hB3)
      have T3 := Lib.hid hr3
      clear hB3 hr3 hA3
      go_wp2_with fail
      refine (H3.out _ K3.out).mono ?_
      rintro e w4 ⟨rfl, hB4⟩
      have HB4 := Lib.hid (below_to HB3.out hB4)
      have K4 := Lib.hid (K3.out.below hB4)
      have S4 := Lib.hid (S3.out.below hB4)
      have T4 := Lib.hid (T3.out.below hB4)
      clear hB4
      go_wp2_with fail
      refine (H4.out _ K4.out).mono ?_
      rintro e w5 ⟨rfl, hB5⟩
      have HB5 := Lib.hid (below_to HB4.out hB5)
      have S5 := Lib.hid (S4.out.below hB5)
      have T5 := Lib.hid (T4.out.below hB5)
      have hsm := same_any A2 A3 c2 c3 V V (by omega) (by omega) _ S5.out T5.out
      rw [decide_eq_true rfl] at hsm
      clear hB5
      go_wp2_with fail
      refine hsm.mono ?_
      rintro e w6 ⟨rfl, hB6⟩
      have HB6 := Lib.hid (below_to HB5.out hB6)
      have S6 := Lib.hid (S5.out.below hB6)
      clear hB6 hsm
      go_wp2_with fail
      refine (H7.out A2 c2 _ S6.out).mono ?_
      rintro e w7 ⟨rfl, hB7⟩
      have HB7 := Lib.hid (below_to HB6.out hB7)
      clear hB7
      go_wp2_with fail
      go_ret
      exact ⟨rfl, HB7.out⟩
    · have hne : (E != 0) = true := by simpa using hE
      have hne2 : (E == 0) = false := by simpa using hE
      clear hE
      go_enter Try.func3, Try.ntmps3
      go_wp2_with fail
      refine (known_any w).mono ?_
      rintro e w1 ⟨rfl, hB1⟩
      have HB1 := Lib.hid hB1
      have K1 := Lib.hid (HR.out.below hB1)
      clear hB1
      go_wp2_with fail
      refine (HFW.out w1 K1.out).mono ?_
      rintro e w1' ⟨rfl, rfl⟩
      go_wp2_with fail
      refine (H1.out _ K1.out).mono ?_
      rintro e w2 ⟨⟨A2, c2, rfl, hc2, hA2, hr2⟩, hB2⟩
      have HB2 := Lib.hid (below_to HB1.out hB2)
      have K2 := Lib.hid (K1.out.below hB2)
      have S2 := Lib.hid hr2
      clear hB2 hr2 hA2
      go_wp2_with fail
      refine (H2.out _ K2.out).mono ?_
      rintro e w3 ⟨⟨A3, c3, rfl, hc3, hA3, hr3⟩, hB3⟩
      have HB3 := Lib.hid (below_to HB2.out hB3)
      have K3 := Lib.hid (K2.out.below hB3)
      have S3 := Lib.hid (S2.out.below hB3)
      have T3 := Lib.hid hr3
      clear hB3 hr3 hA3
      go_wp2_with fail
      refine (H3.out _ K3.out).mono ?_
      rintro e w4 ⟨rfl, hB4⟩
      have HB4 := Lib.hid (below_to HB3.out hB4)
      have K4 := Lib.hid (K3.out.below hB4)
      have S4 := Lib.hid (S3.out.below hB4)
      have T4 := Lib.hid (T3.out.below hB4)
      clear hB4
      go_wp2_with fail
      refine (H4.out _ K4.out).mono ?_
      rintro e w5 ⟨rfl, hB5⟩
      have HB5 := Lib.hid (below_to HB4.out hB5)
      have S5 := Lib.hid (S4.out.below hB5)
      have T5 := Lib.hid (T4.out.below hB5)
      have hsm := same_any A2 A3 c2 c3 V V (by omega) (by omega) _ S5.out T5.out
      rw [decide_eq_true rfl] at hsm
      clear hB5
      go_wp2_with fail
      refine hsm.mono ?_
      rintro e w6 ⟨rfl, hB6⟩
      have HB6 := Lib.hid (below_to HB5.out hB6)
      have S6 := Lib.hid (S5.out.below hB6)
      clear hB6 hsm
      go_wp2_with fail
      go_ret
      exact ⟨rfl, HB6.out⟩
  | false =>
    rw [hf] at hfew
    have HFW := Lib.hid hfew
    clear hfew hf hR hs hL
    go_enter Try.func3, Try.ntmps3
    go_wp2_with fail
    refine (known_any w).mono ?_
    rintro e w1 ⟨rfl, hB1⟩
    have HB1 := Lib.hid hB1
    have K1 := Lib.hid (HR.out.below hB1)
    go_wp2_with fail
    refine (HFW.out w1 K1.out).mono ?_
    rintro e w1' ⟨rfl, rfl⟩
    clear hB1
    go_wp2_with fail
    refine (known_any _).mono ?_
    rintro e w2 ⟨rfl, hB2⟩
    have HB2 := Lib.hid (below_to HB1.out hB2)
    clear hB2
    go_wp2_with fail
    go_ret
    exact ⟨rfl, HB2.out⟩

set_option maxRecDepth 100000 in
theorem lifted (os : Os) (started : os.Started) (H : Type) (enc : TypeId × Value → H) :
    ReturnsInHanded {} Try.checked os 3 .any (Rows.dictionaryChecksSpec.pre6 enc Try.prog Try.f3 Rows.dictionaryChecksRow.domain false) (Rows.dictionaryChecksSpec.post enc Try.prog Try.f3 false true false false) := by
  refine returnsInHanded_of_change (C := Try.checked) own started (by kernel_rfl) Try.func3
    (ChangeSpec.witness6 (enc := enc) (C := Try.checked) false ⟨#[], #[.slice none 0 0], []⟩ 8 (by kernel_rfl) (by kernel_rfl) (by kernel_rfl) (by kernel_rfl)) ?_
  intro W base args ds gs before hval0 hW _ _
  have hval : ∀ (j : Nat) t v, Try.f3.params[j]? = some t → args[j]? = some v → Value.okWide Try.prog W .any base t v := hval0
  have hW' := hW
  obtain ⟨p, q, hA0, hV, rfl, _, _⟩ := hW
  have hA : DataW.TrodAll enc Try.prog W 0 (fun _ => true) true Try.f3.params.toList args.toList ds p := hA0
  rw [Try.params3] at hA hval
  obtain ⟨v0, vs0, d0, ds0, p0, q0, hargs0, rfl, rfl, h0, r0⟩ := trodAll_cons hA
  obtain ⟨rfl, rfl, rfl⟩ := trodAll_nil r0
  obtain rfl : args = #[v0] := by cases args; simp_all
  obtain ⟨rfl, rfl⟩ := trodVars_none hV
  have lt0 : ∀ x ∈ p0, x.block < W.heap.size := fun x hx => hW'.lt x (by simp [hx])
  obtain ⟨A0, c0, L0, rfl, hL0, hs0, hR0⟩ := open_strs (hval 0 22 v0 rfl rfl) h0 lt0
  clear hA0 hval0
  simp only [List.append_nil] at hW'
  refine (walk W A0 c0 L0 hL0 hs0 hR0).mono fun e W' ⟨he, hb⟩ => ?_
  subst he
  exact ⟨_, rfl, post_mem hW' hb (fun _ _ _ => trodAll_mk1 (shut_bool Try.underlying4 _)) (fun sp hsp => by
    have t := trodAll_cons_mk (carry laidOut (by kernel_rfl) (of_decide_eq_true (by kernel_rfl)) h0 hb lt0 sp (fun x hx => hsp x (by simp [hx]))) trodAll_mk0
    simp only [List.append_nil] at t
    exact t) (fun _ => rfl) (ok_one (by kernel_rfl) rfl (okWide_bool_mk Try.underlying4 _))⟩

theorem proved : Rows.DictionaryChecksSaid :=
  OpenClaim.holds_of_wide 3 Try.f3 rfl rfl rfl rfl rfl rfl rfl ⟨rfl, rfl, rfl, rfl, rfl⟩ rfl rfl rfl rfl rfl (by kernel_rfl) Try.func3 (by kernel_rfl)
    (of_decide_eq_true (by kernel_rfl)) (by unfold Func.isWrapper; first | (rw [if_pos (by decide +kernel)]; kernel_rfl) | (rw [if_neg (by decide +kernel)]; exact ⟨rfl, rfl⟩))
    (fun os started H enc _ => lifted os started H enc)

end Go.Proofs.Ytjkpjcklfpmcnaa.lawChecks
