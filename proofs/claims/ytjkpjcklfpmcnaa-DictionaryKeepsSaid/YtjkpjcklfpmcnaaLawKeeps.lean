/- The statement DictionaryKeeps: for any strings and any codes, the law returns true and changes nothing. No condition. -/
import Derived.Test.YtjkpjcklfpmcnaaRow
import Derived.Test.YtjkpjcklfpmcnaaKr
namespace Go.Proofs.Ytjkpjcklfpmcnaa.lawKeeps
open Go.Proofs.Ytjkpjcklfpmcnaa Go.ChangeShapes Go.WideShapes Go.ChangeAt Go.RowKit Go.Joins Dp

theorem few_true {L : List ByteArray} (h : fewB L = true) : L.length ≤ 60 ∧ ∀ x ∈ L, x.size ≤ 300 := by
  unfold fewB at h
  rw [Bool.and_eq_true] at h
  refine ⟨of_decide_eq_true h.2, fun x hx => ?_⟩
  exact of_decide_eq_true (List.all_eq_true.1 h.1 x hx)
set_option maxRecDepth 100000 in
set_option maxHeartbeats 2000000 in
theorem walk (w : World) (A : Option Addr) (c : Nat) (L : List ByteArray) (hL : L.length ≤ 9223372036854775807) (hs : ∀ x ∈ L, x.size ≤ 9223372036854775807) (hR : Rd Value.string w A L) (A' : Option Addr) (c' : Nat) (U : List Int) (hU : U.length ≤ 9223372036854775807) (hRN : Rd (Value.int .i64) w A' U) :
    Calls Try.prog 8 #[.slice A L.length c, .slice A' U.length c'] w fun e w' => e = .returned (.bool true) ∧ Below w.heap.size w w' := by
  have HR := Lib.hid hR
  have HRN := Lib.hid hRN
  have hfew := fun W => few_any A c L hL hs W
  cases hf : fewB L with
  | true =>
    rw [hf] at hfew
    have HFW := Lib.hid hfew
    obtain ⟨hl, hz⟩ := few_true hf
    by_cases h3 : U.length ≤ 100
    · have hd := fun W => dictionaryOf_any A c L (by omega) hs W
      have hDl := dcO_len L
      have hDS := dcO_srt L
      have hDz := dcO_size L
      obtain ⟨D, hD⟩ : ∃ D, D = dcO L := ⟨_, rfl⟩
      rw [← hD] at hd hDl hDS hDz
      have h1 := fun X x W => keep_any X A' x c' D U (by omega) (by omega) W
      have h2 := fun X x W => rkeep_any X A' x c' D U hDS hDz (by omega) (by omega) W
      unfold KeepPost at h1
      unfold KeepRef at h2
      have HD := Lib.hid hd
      by_cases h0 : fe (stE D) U = 0
      · have hX : (frL D U D.length).length ≤ 60 := by simp [frL]; omega
        have hK := kp_len D U D.length
        obtain ⟨b1, b2, b3⟩ := remap_back h0
        have h3' := fun X Y x y W => rfrom_any X Y y x D (kp D U D.length) (by omega) (by omega) W
        have h4 := fun X Y x y W => remap_any X Y x y U (frL D U D.length) (by omega) (by omega) W
        have h5 := fun X Y x y W => strings_any X Y x y (kp D U D.length) (U.map (rmV (frL D U D.length))) (by omega) (by rw [List.length_map]; omega) W
        have h6 := fun X x W => strings_any X A' x c' D U (by omega) (by omega) W
        have r4 : res (rmE (frL D U D.length)) (rmV (frL D U D.length)) U = U.map (rmV (frL D U D.length)) := by unfold res; rw [if_pos b1]
        have r5 : res (stE (kp D U D.length)) (stV (kp D U D.length)) (U.map (rmV (frL D U D.length))) = U.map (stV D) := by unfold res; rw [if_pos b2, b3]
        have r6 : res (stE D) (stV D) U = U.map (stV D) := by unfold res; rw [if_pos h0]
        have hTl : (U.map (stV D)).length ≤ 100 := by rw [List.length_map]; exact h3
        rw [from_fr hDS U] at h3'
        rw [r4, b1] at h4
        rw [r5, b2] at h5
        rw [r6, h0] at h6
        rw [h0, if_pos rfl, if_pos rfl] at h1
        rw [h0, if_pos rfl] at h2
        obtain ⟨T, hT⟩ : ∃ T, T = U.map (stV D) := ⟨_, rfl⟩
        obtain ⟨C, hC⟩ : ∃ C, C = U.map (rmV (frL D U D.length)) := ⟨_, rfl⟩
        rw [← hC] at h4 h5
        rw [← hT] at h5 h6 hTl
        obtain ⟨K, hKe⟩ : ∃ K, K = kp D U D.length := ⟨_, rfl⟩
        obtain ⟨X, hXe⟩ : ∃ X, X = frL D U D.length := ⟨_, rfl⟩
        rw [← hKe, ← hXe] at h1
        rw [← hKe] at h2 h5 hK
        rw [← hKe, ← hXe] at h3'
        rw [← hXe] at h4 hX
        have h4' : ∀ (p q : Option Addr) (x y : Nat) (W : World), Rd (Value.int .i64) W q U → Rd (Value.int .i64) W p X → Calls Try.prog 37 #[.slice q U.length y, .slice p X.length x] W fun e w' => Out (Value.int .i64) w' e C 0 ∧ Below W.heap.size W w' := h4
        have H1 := Lib.hid h1
        have H2 := Lib.hid h2
        have H3 := Lib.hid h3'
        have H4 := Lib.hid h4'
        have H5 := Lib.hid h5
        have H6 := Lib.hid h6
        clear hfew hf hd hDS hDz hD h1 h2 h3' h4 h4' h5 h6 r4 r5 r6 b1 b2 b3 hT hC hKe hXe h0 hR hRN hs hz
        go_enter Try.func8, Try.ntmps8
        go_wp2_with fail
        refine (known_any w).mono ?_
        rintro e w1 ⟨rfl, hB1⟩
        have HB1 := Lib.hid hB1
        have K1 := Lib.hid (HR.out.below hB1)
        have N1 := Lib.hid (HRN.out.below hB1)
        clear hB1
        go_wp2_with fail
        refine (HFW.out w1 K1.out).mono ?_
        rintro e w1' ⟨rfl, rfl⟩
        go_wp2_with fail
        refine (HD.out _ K1.out).mono ?_
        rintro e w2 ⟨⟨A2, c2, rfl, hc2, _, hr2⟩, hB2⟩
        have HB2 := Lib.hid (below_to HB1.out hB2)
        have S2 := Lib.hid hr2
        have N2 := Lib.hid (N1.out.below hB2)
        clear hB2 hr2
        go_wp2_with fail
        refine (H1.out A2 c2 _ S2.out N2.out).mono ?_
        rintro e w3 ⟨⟨A3, c3, A4, c4, rfl, hc3, hc4, hr3, hr4⟩, hB3⟩
        have HB3 := Lib.hid (below_to HB2.out hB3)
        have S3 := Lib.hid (S2.out.below hB3)
        have N3 := Lib.hid (N2.out.below hB3)
        have K3 := Lib.hid hr3
        have X3 := Lib.hid hr4
        clear hB3 hr3 hr4
        go_wp2_with fail
        refine (H2.out A2 c2 _ S3.out N3.out).mono ?_
        rintro e w4 ⟨⟨A5, c5, rfl, hc5, hr5⟩, hB4⟩
        have HB4 := Lib.hid (below_to HB3.out hB4)
        have S4 := Lib.hid (S3.out.below hB4)
        have N4 := Lib.hid (N3.out.below hB4)
        have K4 := Lib.hid (K3.out.below hB4)
        have X4 := Lib.hid (X3.out.below hB4)
        have W4 := Lib.hid hr5
        clear hB4 hr5
        go_wp2_with fail
        have hsm := same_any A3 A5 c3 c5 K K (by omega) (by omega) _ K4.out W4.out
        rw [decide_eq_true rfl] at hsm
        refine hsm.mono ?_
        rintro e w5 ⟨rfl, hB5⟩
        have HB5 := Lib.hid (below_to HB4.out hB5)
        have S5 := Lib.hid (S4.out.below hB5)
        have N5 := Lib.hid (N4.out.below hB5)
        have K5 := Lib.hid (K4.out.below hB5)
        have X5 := Lib.hid (X4.out.below hB5)
        have W5 := Lib.hid (W4.out.below hB5)
        clear hB5 hsm
        go_wp2_with fail
        refine (H3.out A5 A2 c2 c5 _ S5.out W5.out).mono ?_
        rintro e w6 ⟨⟨A6, c6, rfl, hc6, hr6⟩, hB6⟩
        have HB6 := Lib.hid (below_to HB5.out hB6)
        have S6 := Lib.hid (S5.out.below hB6)
        have N6 := Lib.hid (N5.out.below hB6)
        have K6 := Lib.hid (K5.out.below hB6)
        have X6 := Lib.hid (X5.out.below hB6)
        have hsm := sameInts_any A4 A6 c4 c6 X X (by omega) (by omega) _ X6.out hr6
        rw [decide_eq_true rfl] at hsm
        clear hB6 hr6
        go_wp2_with fail
        refine hsm.mono ?_
        rintro e w7 ⟨rfl, hB7⟩
        have HB7 := Lib.hid (below_to HB6.out hB7)
        have S7 := Lib.hid (S6.out.below hB7)
        have N7 := Lib.hid (N6.out.below hB7)
        have K7 := Lib.hid (K6.out.below hB7)
        have X7 := Lib.hid (X6.out.below hB7)
        clear hB7 hsm
        go_wp2_with fail
        refine (H4.out A4 A' c4 c' _ N7.out X7.out).mono ?_
        rintro e w8 ⟨⟨A8, c8, rfl, hc8, hr8⟩, hB8⟩
        have HB8 := Lib.hid (below_to HB7.out hB8)
        have S8 := Lib.hid (S7.out.below hB8)
        have N8 := Lib.hid (N7.out.below hB8)
        have K8 := Lib.hid (K7.out.below hB8)
        have C8 := Lib.hid hr8
        clear hB8 hr8
        go_wp2_with fail
        refine (H5.out A3 A8 c3 c8 _ K8.out C8.out).mono ?_
        rintro e w9 ⟨⟨A9, c9, rfl, hc9, hr9⟩, hB9⟩
        have HB9 := Lib.hid (below_to HB8.out hB9)
        have S9 := Lib.hid (S8.out.below hB9)
        have N9 := Lib.hid (N8.out.below hB9)
        have T9 := Lib.hid hr9
        clear hB9 hr9
        go_wp2_with fail
        refine (H6.out A2 c2 _ S9.out N9.out).mono ?_
        rintro e w10 ⟨⟨A10, c10, rfl, hc10, hr10⟩, hB10⟩
        have HB10 := Lib.hid (below_to HB9.out hB10)
        have T10 := Lib.hid (T9.out.below hB10)
        have hsm := same_any A9 A10 c9 c10 T T (by omega) (by omega) _ T10.out hr10
        rw [decide_eq_true rfl] at hsm
        clear hB10 hr10
        go_wp2_with fail
        refine hsm.mono ?_
        rintro e w11 ⟨rfl, hB11⟩
        have HB11 := Lib.hid (below_to HB10.out hB11)
        clear hB11 hsm
        go_wp2_with fail
        go_ret
        exact ⟨rfl, HB11.out⟩
      · obtain h20 : fe (stE D) U = 2 := (fe_st D U).resolve_left h0
        rw [h20, if_neg (by decide), if_neg (by decide)] at h1
        rw [h20, if_neg (by decide)] at h2
        have H1 := Lib.hid h1
        have H2 := Lib.hid h2
        clear hfew hf hd hDS hDz hD h1 h2 h0 h20 hR hRN hs hz
        go_enter Try.func8, Try.ntmps8
        go_wp2_with fail
        refine (known_any w).mono ?_
        rintro e w1 ⟨rfl, hB1⟩
        have HB1 := Lib.hid hB1
        have K1 := Lib.hid (HR.out.below hB1)
        have N1 := Lib.hid (HRN.out.below hB1)
        clear hB1
        go_wp2_with fail
        refine (HFW.out w1 K1.out).mono ?_
        rintro e w1' ⟨rfl, rfl⟩
        go_wp2_with fail
        refine (HD.out _ K1.out).mono ?_
        rintro e w2 ⟨⟨A2, c2, rfl, hc2, _, hr2⟩, hB2⟩
        have HB2 := Lib.hid (below_to HB1.out hB2)
        have S2 := Lib.hid hr2
        have N2 := Lib.hid (N1.out.below hB2)
        clear hB2 hr2
        go_wp2_with fail
        refine (H1.out A2 c2 _ S2.out N2.out).mono ?_
        rintro e w3 ⟨⟨A3, c3, A4, c4, rfl, hc3, hc4, hr3, hr4⟩, hB3⟩
        have HB3 := Lib.hid (below_to HB2.out hB3)
        have S3 := Lib.hid (S2.out.below hB3)
        have N3 := Lib.hid (N2.out.below hB3)
        have K3 := Lib.hid hr3
        have X3 := Lib.hid hr4
        clear hB3 hr3 hr4
        go_wp2_with fail
        refine (H2.out A2 c2 _ S3.out N3.out).mono ?_
        rintro e w4 ⟨⟨A5, c5, rfl, hc5, hr5⟩, hB4⟩
        have HB4 := Lib.hid (below_to HB3.out hB4)
        have S4 := Lib.hid (S3.out.below hB4)
        have N4 := Lib.hid (N3.out.below hB4)
        have K4 := Lib.hid (K3.out.below hB4)
        have X4 := Lib.hid (X3.out.below hB4)
        have W4 := Lib.hid hr5
        clear hB4 hr5
        go_wp2_with fail
        go_ret
        exact ⟨rfl, HB4.out⟩
    · clear hfew hf hR hRN hs hL hU hz
      go_enter Try.func8, Try.ntmps8
      go_wp2_with fail
      refine (known_any w).mono ?_
      rintro e w1 ⟨rfl, hB1⟩
      have HB1 := Lib.hid hB1
      have K1 := Lib.hid (HR.out.below hB1)
      have N1 := Lib.hid (HRN.out.below hB1)
      clear hB1
      go_wp2_with fail
      refine (HFW.out w1 K1.out).mono ?_
      rintro e w1' ⟨rfl, rfl⟩
      go_wp2_with fail
      refine (known_any _).mono ?_
      rintro e w2 ⟨rfl, hB2⟩
      have HB2 := Lib.hid (below_to HB1.out hB2)
      clear hB2
      go_wp2_with fail
      go_ret
      exact ⟨rfl, HB2.out⟩
  | false =>
    rw [hf] at hfew
    have HFW := Lib.hid hfew
    clear hfew hf hR hRN hs hL hU
    go_enter Try.func8, Try.ntmps8
    go_wp2_with fail
    refine (known_any w).mono ?_
    rintro e w1 ⟨rfl, hB1⟩
    have HB1 := Lib.hid hB1
    have K1 := Lib.hid (HR.out.below hB1)
    have N1 := Lib.hid (HRN.out.below hB1)
    clear hB1
    go_wp2_with fail
    refine (HFW.out w1 K1.out).mono ?_
    rintro e w1' ⟨rfl, rfl⟩
    go_wp2_with fail
    refine (known_any _).mono ?_
    rintro e w2 ⟨rfl, hB2⟩
    have HB2 := Lib.hid (below_to HB1.out hB2)
    clear hB2
    go_wp2_with fail
    go_ret
    exact ⟨rfl, HB2.out⟩

set_option maxRecDepth 100000 in
theorem lifted (os : Os) (started : os.Started) (H : Type) (enc : TypeId × Value → H) :
    ReturnsInHanded {} Try.checked os 8 .any (Rows.dictionaryKeepsSpec.pre6 enc Try.prog Try.f8 Rows.dictionaryKeepsRow.domain false) (Rows.dictionaryKeepsSpec.post enc Try.prog Try.f8 false true false false) := by
  refine returnsInHanded_of_change (C := Try.checked) own started (by kernel_rfl) Try.func8
    (ChangeSpec.witness6 (enc := enc) (C := Try.checked) false ⟨#[], #[.slice none 0 0, .slice none 0 0], []⟩ 8 (by kernel_rfl) (by kernel_rfl) (by kernel_rfl) (by kernel_rfl)) ?_
  intro W base args ds gs before hval0 hW _ _
  have hval : ∀ (j : Nat) t v, Try.f8.params[j]? = some t → args[j]? = some v → Value.okWide Try.prog W .any base t v := hval0
  have hW' := hW
  obtain ⟨p, q, hA0, hV, rfl, _, _⟩ := hW
  have hA : DataW.TrodAll enc Try.prog W 0 (fun _ => true) true Try.f8.params.toList args.toList ds p := hA0
  rw [Try.params8] at hA hval
  obtain ⟨v0, vs0, d0, ds0, p0, q0, hargs0, rfl, rfl, h0, r0⟩ := trodAll_cons hA
  obtain ⟨v1, vs1, d1, ds1, p1, q1, hargs1, rfl, rfl, h1, r1⟩ := trodAll_cons r0
  obtain ⟨rfl, rfl, rfl⟩ := trodAll_nil r1
  obtain rfl : args = #[v0, v1] := by cases args; simp_all
  obtain ⟨rfl, rfl⟩ := trodVars_none hV
  have lt0 : ∀ x ∈ p0, x.block < W.heap.size := fun x hx => hW'.lt x (by simp [hx])
  obtain ⟨A0, c0, L0, rfl, hL0, hs0, hR0⟩ := open_strs (hval 0 22 v0 rfl rfl) h0 lt0
  have lt1 : ∀ x ∈ p1, x.block < W.heap.size := fun x hx => hW'.lt x (by simp [hx])
  obtain ⟨A1, c1, L1, rfl, hL1, hR1⟩ := open_nums (hval 1 31 v1 rfl rfl) h1 lt1
  clear hA0 hval0
  simp only [List.append_nil] at hW'
  refine (walk W A0 c0 L0 hL0 hs0 hR0 A1 c1 L1 hL1 hR1).mono fun e W' ⟨he, hb⟩ => ?_
  subst he
  exact ⟨_, rfl, post_mem hW' hb (fun _ _ _ => trodAll_mk1 (shut_bool Try.underlying4 _)) (fun sp hsp => by
    have t := trodAll_cons_mk (carry laidOut (by kernel_rfl) (of_decide_eq_true (by kernel_rfl)) h0 hb lt0 sp (fun x hx => hsp x (by simp [hx]))) (trodAll_cons_mk (carry laidOut (by kernel_rfl) (of_decide_eq_true (by kernel_rfl)) h1 hb lt1 sp (fun x hx => hsp x (by simp [hx]))) trodAll_mk0)
    simp only [List.append_nil] at t
    exact t) (fun _ => rfl) (ok_one (by kernel_rfl) rfl (okWide_bool_mk Try.underlying4 _))⟩

theorem proved : Rows.DictionaryKeepsSaid :=
  OpenClaim.holds_of_wide 8 Try.f8 rfl rfl rfl rfl rfl rfl rfl ⟨rfl, rfl, rfl, rfl, rfl⟩ rfl rfl rfl rfl rfl (by kernel_rfl) Try.func8 (by kernel_rfl)
    (of_decide_eq_true (by kernel_rfl)) (by unfold Func.isWrapper; first | (rw [if_pos (by decide +kernel)]; kernel_rfl) | (rw [if_neg (by decide +kernel)]; exact ⟨rfl, rfl⟩))
    (fun os started H enc _ => lifted os started H enc)

end Go.Proofs.Ytjkpjcklfpmcnaa.lawKeeps
