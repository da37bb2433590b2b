/- The statement DictionaryDecodes: for any string, the law returns true and changes nothing. No condition. -/
import Derived.Test.YtjkpjcklfpmcnaaRow
import Derived.Test.YtjkpjcklfpmcnaaRe
import Derived.Test.YtjkpjcklfpmcnaaDf
namespace Go.Proofs.Ytjkpjcklfpmcnaa.lawDecodes
open Go.Proofs.Ytjkpjcklfpmcnaa Go.ChangeShapes Go.WideShapes Go.ChangeAt Go.RowKit Go.Joins Dp

theorem dgo_none : ∀ (n : Nat) (D : List ByteArray) (r : ByteArray), (dgo n D r).1 ≠ 0 → (dgo n D r).2 = []
  | 0, D, r, h => by
    have e : dgo 0 D r = if r.size = 0 then (0, D) else (3, []) := rfl
    rw [e] at h ⊢
    by_cases hz : r.size = 0
    · rw [if_pos hz] at h; exact absurd rfl h
    · rw [if_neg hz]
  | n + 1, D, r, h => by
    by_cases hE : scE D.length r = 0
    · by_cases hj : jE D (scS D.length r) (scO D.length r) = 0
      · rw [dgo_next hE hj] at h ⊢
        exact dgo_none n _ _ h
      · rw [dgo_bad2 hE hj]
    · rw [dgo_bad hE]
theorem dec_none (s : ByteArray) (h : (dec s).1 ≠ 0) : (dec s).2 = [] := by
  unfold dec at h ⊢
  by_cases h2 : s.size < 2
  · rw [if_pos h2]
  · rw [if_neg h2] at h ⊢
    by_cases h4 : 4096 < cnt s
    · rw [if_pos h4]
    · rw [if_neg h4] at h ⊢
      exact dgo_none _ _ _ h
set_option maxRecDepth 100000 in
set_option maxHeartbeats 2000000 in
theorem walk (w : World) (s : ByteArray) (hs : s.size ≤ 9223372036854775807) :
    Calls Try.prog 11 #[.string s] w fun e w' => e = .returned (.bool true) ∧ Below w.heap.size w w' := by
  by_cases h4 : s.size ≤ 400
  · have h1 := fun W => decode_any s (by omega) W
    have h2 := fun W => rdecode_any s (by omega) W
    unfold DecPost at h1 h2
    by_cases h0 : (dec s).1 = 0
    · have hf := dec_form (s := s) (R := (dec s).2) (by rw [← h0])
      rw [h0] at h1 h2
      obtain ⟨R, hR⟩ : ∃ R, R = (dec s).2 := ⟨_, rfl⟩
      rw [← hR] at h1 h2 hf
      obtain ⟨hz1, hz2, hz3⟩ := chk_zero hf.1
      have h3 := fun X x W g => encode_any X x R (by omega) (fun y hy => by have := hz1 y hy; omega) W g hf.1
      rw [hf.2] at h3
      have H1 := Lib.hid h1
      have H2 := Lib.hid h2
      have H3 := Lib.hid h3
      have hss : (s.toList == s.toList) = true := by simp
      clear h1 h2 h3 hR h0 hf hz1 hz2
      go_enter Try.func11, Try.ntmps11
      go_wp2_with fail
      refine (known_any w).mono ?_
      rintro e w1 ⟨rfl, hB1⟩
      have HB1 := Lib.hid hB1
      clear hB1
      go_wp2_with fail
      refine (H1.out _).mono ?_
      rintro e w2 ⟨⟨A2, c2, rfl, hc2, hr2⟩, hB2⟩
      have HB2 := Lib.hid (below_to HB1.out hB2)
      have R2 := Lib.hid hr2
      clear hB2 hr2
      go_wp2_with fail
      refine (H2.out _).mono ?_
      rintro e w3 ⟨⟨A3, c3, rfl, hc3, hr3⟩, hB3⟩
      have HB3 := Lib.hid (below_to HB2.out hB3)
      have R3 := Lib.hid (R2.out.below hB3)
      have hsm := same_any A2 A3 c2 c3 R R (by omega) (by omega) _ R3.out hr3
      rw [decide_eq_true rfl] at hsm
      clear hB3 hr3
      go_wp2_with fail
      refine hsm.mono ?_
      rintro e w4 ⟨rfl, hB4⟩
      have HB4 := Lib.hid (below_to HB3.out hB4)
      have R4 := Lib.hid (R3.out.below hB4)
      clear hB4 hsm
      go_wp2_with fail
      refine (H3.out A2 c2 _ R4.out).mono ?_
      rintro e w5 ⟨rfl, hB5⟩
      have HB5 := Lib.hid (below_to HB4.out hB5)
      clear hB5
      go_wp2_with fail
      go_ret
      exact ⟨rfl, HB5.out⟩
    · have hn := dec_none s h0
      rw [hn] at h1 h2
      obtain ⟨E, hE⟩ : ∃ E, E = (dec s).1 := ⟨_, rfl⟩
      rw [← hE] at h1 h2 h0
      have hne : (E != 0) = true := by simpa using h0
      have hne2 : (E == 0) = false := by simpa using h0
      have H1 := Lib.hid h1
      have H2 := Lib.hid h2
      clear h1 h2 hE h0 hn
      go_enter Try.func11, Try.ntmps11
      go_wp2_with fail
      refine (known_any w).mono ?_
      rintro e w1 ⟨rfl, hB1⟩
      have HB1 := Lib.hid hB1
      clear hB1
      go_wp2_with fail
      refine (H1.out _).mono ?_
      rintro e w2 ⟨⟨A2, c2, rfl, hc2, hr2⟩, hB2⟩
      have HB2 := Lib.hid (below_to HB1.out hB2)
      have R2 := Lib.hid hr2
      clear hB2 hr2
      go_wp2_with fail
      refine (H2.out _).mono ?_
      rintro e w3 ⟨⟨A3, c3, rfl, hc3, hr3⟩, hB3⟩
      have HB3 := Lib.hid (below_to HB2.out hB3)
      have R3 := Lib.hid (R2.out.below hB3)
      have hsm := same_any A2 A3 c2 c3 [] [] (Nat.zero_le _) (Nat.zero_le _) _ R3.out hr3
      rw [decide_eq_true rfl] at hsm
      clear hB3 hr3
      go_wp2_with fail
      refine hsm.mono ?_
      rintro e w4 ⟨rfl, hB4⟩
      have HB4 := Lib.hid (below_to HB3.out hB4)
      have R4 := Lib.hid (R3.out.below hB4)
      clear hB4 hsm
      go_wp2_with fail
      go_ret
      exact ⟨rfl, HB4.out⟩
  · have h4' : 400 < s.size := by omega
    clear h4
    go_enter Try.func11, Try.ntmps11
    go_wp2_with fail
    refine (known_any w).mono ?_
    rintro e w1 ⟨rfl, hB1⟩
    have HB1 := Lib.hid hB1
    clear hB1
    go_wp2_with fail
    refine (known_any _).mono ?_
    rintro e w2 ⟨rfl, hB2⟩
    have HB2 := Lib.hid (below_to HB1.out hB2)
    clear hB2
    go_wp2_with fail
    go_ret
    exact ⟨rfl, HB2.out⟩

set_option maxRecDepth 100000 in
theorem lifted (os : Os) (started : os.Started) (H : Type) (enc : TypeId × Value → H) :
    ReturnsInHanded {} Try.checked os 11 .any (Rows.dictionaryDecodesSpec.pre6 enc Try.prog Try.f11 Rows.dictionaryDecodesRow.domain false) (Rows.dictionaryDecodesSpec.post enc Try.prog Try.f11 false true false false) := by
  refine returnsInHanded_of_change (C := Try.checked) own started (by kernel_rfl) Try.func11
    (ChangeSpec.witness6 (enc := enc) (C := Try.checked) false ⟨#[], #[.string ByteArray.empty], []⟩ 8 (by kernel_rfl) (by kernel_rfl) (by kernel_rfl) (by kernel_rfl)) ?_
  intro W base args ds gs before hval0 hW _ _
  have hval : ∀ (j : Nat) t v, Try.f11.params[j]? = some t → args[j]? = some v → Value.okWide Try.prog W .any base t v := hval0
  have hW' := hW
  obtain ⟨p, q, hA0, hV, rfl, _, _⟩ := hW
  have hA : DataW.TrodAll enc Try.prog W 0 (fun _ => true) true Try.f11.params.toList args.toList ds p := hA0
  rw [Try.params11] at hA hval
  obtain ⟨v0, vs0, d0, ds0, p0, q0, hargs0, rfl, rfl, h0, r0⟩ := trodAll_cons hA
  obtain ⟨rfl, rfl, rfl⟩ := trodAll_nil r0
  obtain rfl : args = #[v0] := by cases args; simp_all
  obtain ⟨rfl, rfl⟩ := trodVars_none hV
  obtain ⟨s0, rfl, rfl, rfl, ws0⟩ := Go.ChangeMaps.open_string Try.underlying9 (hval 0 9 v0 rfl rfl) h0
  clear hA0 hval0
  simp only [List.append_nil] at hW'
  refine (walk W s0 ws0).mono fun e W' ⟨he, hb⟩ => ?_
  subst he
  exact ⟨_, rfl, post_mem hW' hb (fun _ _ _ => trodAll_mk1 (shut_bool Try.underlying4 _)) (fun _ _ => by
    exact trodAll_cons_mk (Go.ChangeMaps.shut_string Try.underlying9 ws0) trodAll_mk0) (fun _ => rfl) (ok_one (by kernel_rfl) rfl (okWide_bool_mk Try.underlying4 _))⟩

theorem proved : Rows.DictionaryDecodesSaid :=
  OpenClaim.holds_of_wide 11 Try.f11 rfl rfl rfl rfl rfl rfl rfl ⟨rfl, rfl, rfl, rfl, rfl⟩ rfl rfl rfl rfl rfl (by kernel_rfl) Try.func11 (by kernel_rfl)
    (of_decide_eq_true (by kernel_rfl)) (by unfold Func.isWrapper; first | (rw [if_pos (by decide +kernel)]; kernel_rfl) | (rw [if_neg (by decide +kernel)]; exact ⟨rfl, rfl⟩))
    (fun os started H enc _ => lifted os started H enc)

end Go.Proofs.Ytjkpjcklfpmcnaa.lawDecodes
