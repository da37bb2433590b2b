/- The statement DictionaryCodes: for any strings and any codes, the law returns true and changes nothing. No condition. -/
import Derived.Test.YtjkpjcklfpmcnaaRow
namespace Go.Proofs.Ytjkpjcklfpmcnaa.lawCodes
open Go.Proofs.Ytjkpjcklfpmcnaa Go.ChangeShapes Go.WideShapes Go.ChangeAt Go.RowKit Go.Joins Dp

theorem few_true {L : List ByteArray} (h : fewB L = true) : L.length ≤ 60 ∧ ∀ x ∈ L, x.size ≤ 300 := by
  unfold fewB at h
  rw [Bool.and_eq_true] at h
  refine ⟨of_decide_eq_true h.2, fun x hx => ?_⟩
  exact of_decide_eq_true (List.all_eq_true.1 h.1 x hx)
theorem codes_back {D M : List ByteArray} (h : fe (cdE D) M = 0) : fe (stE D) (M.map (cdV D)) = 0 ∧ res (stE D) (stV D) (M.map (cdV D)) = M := by
  have each : ∀ x ∈ M, stE D (cdV D x) = 0 ∧ stV D (cdV D x) = x := by
    intro x hx
    have h0 : cdE D x = 0 := by
      by_cases h0 : cdE D x = 0
      · exact h0
      · exfalso
        induction M with
        | nil => simp at hx
        | cons y M ih =>
          have h' : (if cdE D y = 0 then fe (cdE D) M else cdE D y) = 0 := h
          by_cases hy : cdE D y = 0
          · rw [if_pos hy] at h'
            rcases List.mem_cons.1 hx with rfl | hx
            · exact h0 hy
            · exact ih h' hx
          · rw [if_neg hy] at h'; exact hy h'
    unfold cdE at h0
    cases hf : fd D x with
    | none => rw [hf] at h0; exact absurd h0 (by decide)
    | some k =>
      obtain ⟨hg, _, hk⟩ := fd_some hf
      have hv : cdV D x = (k : Int) := by unfold cdV; rw [hf]; rfl
      rw [hv]
      constructor
      · unfold stE; rw [if_pos]
        unfold ixB; simp; omega
      · unfold stV; rw [Int.toNat_natCast]
        simp [List.getD, hg]
  have h0 : fe (stE D) (M.map (cdV D)) = 0 := fe_all _ _ fun j _ hj => by
    rw [List.getElem_map]
    exact (each _ (List.getElem_mem _)).1
  refine ⟨h0, ?_⟩
  unfold res
  rw [if_pos h0, List.map_map]
  conv => rhs; rw [← List.map_id M]
  exact List.map_congr_left fun x hx => (each x hx).2
theorem res_len {α β : Type} (er : α → Int) (val : α → β) (M : List α) : (res er val M).length ≤ M.length := by
  unfold res; split
  · rw [List.length_map]; exact Nat.le_refl _
  · simp
set_option maxRecDepth 100000 in
set_option maxHeartbeats 2000000 in
theorem walk (w : World) (A : Option Addr) (c : Nat) (L : List ByteArray) (hL : L.length ≤ 9223372036854775807) (hs : ∀ x ∈ L, x.size ≤ 9223372036854775807) (hR : Rd Value.string w A L) (A' : Option Addr) (c' : Nat) (M : List ByteArray) (hM : M.length ≤ 9223372036854775807) (hsM : ∀ x ∈ M, x.size ≤ 9223372036854775807) (hRM : Rd Value.string w A' M) (A'' : Option Addr) (c'' : Nat) (N : List Int) (hN : N.length ≤ 9223372036854775807) (hRN : Rd (Value.int .i64) w A'' N) :
    Calls Try.prog 6 #[.slice A L.length c, .slice A' M.length c', .slice A'' N.length c''] w fun e w' => e = .returned (.bool true) ∧ Below w.heap.size w w' := by
  have HR := Lib.hid hR
  have HRM := Lib.hid hRM
  have HRN := Lib.hid hRN
  have hfew := fun W => few_any A c L hL hs W
  have hfewM := fun W => few_any A' c' M hM hsM W
  cases hf : fewB L with
  | true =>
    rw [hf] at hfew
    have HFW := Lib.hid hfew
    obtain ⟨hl, hz⟩ := few_true hf
    cases hfM : fewB M with
    | true =>
      rw [hfM] at hfewM
      have HFM := Lib.hid hfewM
      obtain ⟨hlM, hzM⟩ := few_true hfM
      by_cases h3 : N.length ≤ 100
      · have hd := fun W => dictionaryOf_any A c L (by omega) hs W
        have hDl := dcO_len L
        have hDS := dcO_srt L
        obtain ⟨D, hD⟩ : ∃ D, D = dcO L := ⟨_, rfl⟩
        rw [← hD] at hd hDl hDS
        have h1 := fun X x W => codes_any X A' x c' D hDS M (by omega) (by omega) W
        have h2 := fun X x W => rcodes_any X A' x c' D M (by omega) (by omega) W
        have h4 := fun X x W => strings_any X A'' x c'' D N (by omega) (by omega) W
        have h5 := fun X x W => rstrings_any X A'' x c'' D N (by omega) (by omega) W
        have hl1 := res_len (cdE D) (cdV D) M
        have hl2 := res_len (stE D) (stV D) N
        have h6 := fun (h : fe (cdE D) M = 0) X x Y y W => strings_any X Y x y D (M.map (cdV D)) (by omega) (by rw [List.length_map]; omega) W
        have hcb := fun h => codes_back (D := D) (M := M) h
        have hres : fe (cdE D) M = 0 → res (cdE D) (cdV D) M = M.map (cdV D) := fun h => by unfold res; rw [if_pos h]
        have h7 : fe (cdE D) M = 0 → ∀ X x Y y W, Rd Value.string W X D → Rd (Value.int .i64) W Y (res (cdE D) (cdV D) M) → Calls Try.prog 30 #[.slice X D.length x, .slice Y (res (cdE D) (cdV D) M).length y] W fun e w' => Out Value.string w' e M 0 ∧ Below W.heap.size W w' := fun h X x Y y W g1 g2 => by
          rw [hres h] at g2 ⊢
          have := h6 h X x Y y W g1 g2
          rw [(hcb h).1, (hcb h).2] at this
          exact this
        obtain ⟨E, hE⟩ : ∃ E, E = fe (cdE D) M := ⟨_, rfl⟩
        obtain ⟨R, hRR⟩ : ∃ R, R = res (cdE D) (cdV D) M := ⟨_, rfl⟩
        obtain ⟨E2, hE2⟩ : ∃ E, E = fe (stE D) N := ⟨_, rfl⟩
        obtain ⟨R2, hR2⟩ : ∃ R, R = res (stE D) (stV D) N := ⟨_, rfl⟩
        rw [← hE, ← hRR] at h1 h2 h7
        rw [← hE2, ← hR2] at h4 h5
        rw [← hRR] at hl1
        rw [← hR2] at hl2
        have H1 := Lib.hid h1
        have H2 := Lib.hid h2
        have H4 := Lib.hid h4
        have H5 := Lib.hid h5
        have H7 := Lib.hid h7
        have HD := Lib.hid hd
        clear hfew hfewM hf hfM hd hDS hD h1 h2 h4 h5 h6 h7 hcb hres hE hRR hE2 hR2 hR hRM hRN hs hsM hz hzM
        by_cases hE0 : E = 0
        · subst hE0
          have H8 := Lib.hid (H7.out rfl)
          go_enter Try.func6, Try.ntmps6
          go_wp2_with fail
          refine (known_any w).mono ?_
          rintro e w1 ⟨rfl, hB1⟩
          have HB1 := Lib.hid hB1
          have K1 := Lib.hid (HR.out.below hB1)
          have M1 := Lib.hid (HRM.out.below hB1)
          have N1 := Lib.hid (HRN.out.below hB1)
          clear hB1
          go_wp2_with fail
          refine (HFW.out w1 K1.out).mono ?_
          rintro e w1' ⟨rfl, rfl⟩
          go_wp2_with fail
          refine (HFM.out _ M1.out).mono ?_
          rintro e w1' ⟨rfl, rfl⟩
          go_wp2_with fail
          refine (HD.out _ K1.out).mono ?_
          rintro e w2 ⟨⟨A2, c2, rfl, hc2, hA2, hr2⟩, hB2⟩
          have HB2 := Lib.hid (below_to HB1.out hB2)
          have S2 := Lib.hid hr2
          have M2 := Lib.hid (M1.out.below hB2)
          have N2 := Lib.hid (N1.out.below hB2)
          clear hB2 hr2 hA2
          go_wp2_with fail
          refine (H1.out A2 c2 _ S2.out M2.out).mono ?_
          rintro e w3 ⟨⟨A3, c3, rfl, hc3, hr3⟩, hB3⟩
          have HB3 := Lib.hid (below_to HB2.out hB3)
          have S3 := Lib.hid (S2.out.below hB3)
          have M3 := Lib.hid (M2.out.below hB3)
          have N3 := Lib.hid (N2.out.below hB3)
          have C3 := Lib.hid hr3
          clear hB3 hr3
          go_wp2_with fail
          refine (H2.out A2 c2 _ S3.out M3.out).mono ?_
          rintro e w4 ⟨⟨A4, c4, rfl, hc4, hr4⟩, hB4⟩
          have HB4 := Lib.hid (below_to HB3.out hB4)
          have S4 := Lib.hid (S3.out.below hB4)
          have M4 := Lib.hid (M3.out.below hB4)
          have N4 := Lib.hid (N3.out.below hB4)
          have C4 := Lib.hid (C3.out.below hB4)
          have W4 := Lib.hid hr4
          clear hB4 hr4
          go_wp2_with fail
          refine (H4.out A2 c2 _ S4.out N4.out).mono ?_
          rintro e w5 ⟨⟨A5, c5, rfl, hc5, hr5⟩, hB5⟩
          have HB5 := Lib.hid (below_to HB4.out hB5)
          have S5 := Lib.hid (S4.out.below hB5)
          have M5 := Lib.hid (M4.out.below hB5)
          have N5 := Lib.hid (N4.out.below hB5)
          have C5 := Lib.hid (C4.out.below hB5)
          have W5 := Lib.hid (W4.out.below hB5)
          have T5 := Lib.hid hr5
          clear hB5 hr5
          go_wp2_with fail
          refine (H5.out A2 c2 _ S5.out N5.out).mono ?_
          rintro e w6 ⟨⟨A6, c6, rfl, hc6, hr6⟩, hB6⟩
          have HB6 := Lib.hid (below_to HB5.out hB6)
          have S6 := Lib.hid (S5.out.below hB6)
          have M6 := Lib.hid (M5.out.below hB6)
          have C6 := Lib.hid (C5.out.below hB6)
          have T6 := Lib.hid (T5.out.below hB6)
          have V6 := Lib.hid hr6
          have hsm := sameInts_any A3 A4 c3 c4 R R (by omega) (by omega) _ C6.out (W5.out.below hB6)
          rw [decide_eq_true rfl] at hsm
          clear hB6 hr6
          go_wp2_with fail
          refine hsm.mono ?_
          rintro e w7 ⟨rfl, hB7⟩
          have HB7 := Lib.hid (below_to HB6.out hB7)
          have S7 := Lib.hid (S6.out.below hB7)
          have M7 := Lib.hid (M6.out.below hB7)
          have C7 := Lib.hid (C6.out.below hB7)
          have hsm2 := same_any A5 A6 c5 c6 R2 R2 (by omega) (by omega) _ (T6.out.below hB7) (V6.out.below hB7)
          rw [decide_eq_true rfl] at hsm2
          clear hB7 hsm
          go_wp2_with fail
          refine hsm2.mono ?_
          rintro e w8 ⟨rfl, hB8⟩
          have HB8 := Lib.hid (below_to HB7.out hB8)
          have S8 := Lib.hid (S7.out.below hB8)
          have M8 := Lib.hid (M7.out.below hB8)
          have C8 := Lib.hid (C7.out.below hB8)
          clear hB8 hsm2
          go_wp2_with fail
          refine (H8.out A2 c2 A3 c3 _ S8.out C8.out).mono ?_
          rintro e w9 ⟨⟨A9, c9, rfl, hc9, hr9⟩, hB9⟩
          have HB9 := Lib.hid (below_to HB8.out hB9)
          have hsm3 := same_any A9 A' c9 c' M M (by omega) (by omega) _ hr9 (M8.out.below hB9)
          rw [decide_eq_true rfl] at hsm3
          clear hB9 hr9
          go_wp2_with fail
          refine hsm3.mono ?_
          rintro e w10 ⟨rfl, hB10⟩
          have HB10 := Lib.hid (below_to HB9.out hB10)
          clear hB10 hsm3
          go_wp2_with fail
          go_ret
          exact ⟨rfl, HB10.out⟩
        · have hne : (E != 0) = true := by simpa using hE0
          have hne2 : (E == 0) = false := by simpa using hE0
          clear hE0
          go_enter Try.func6, Try.ntmps6
          go_wp2_with fail
          refine (known_any w).mono ?_
          rintro e w1 ⟨rfl, hB1⟩
          have HB1 := Lib.hid hB1
          have K1 := Lib.hid (HR.out.below hB1)
          have M1 := Lib.hid (HRM.out.below hB1)
          have N1 := Lib.hid (HRN.out.below hB1)
          clear hB1
          go_wp2_with fail
          refine (HFW.out w1 K1.out).mono ?_
          rintro e w1' ⟨rfl, rfl⟩
          go_wp2_with fail
          refine (HFM.out _ M1.out).mono ?_
          rintro e w1' ⟨rfl, rfl⟩
          go_wp2_with fail
          refine (HD.out _ K1.out).mono ?_
          rintro e w2 ⟨⟨A2, c2, rfl, hc2, hA2, hr2⟩, hB2⟩
          have HB2 := Lib.hid (below_to HB1.out hB2)
          have S2 := Lib.hid hr2
          have M2 := Lib.hid (M1.out.below hB2)
          have N2 := Lib.hid (N1.out.below hB2)
          clear hB2 hr2 hA2
          go_wp2_with fail
          refine (H1.out A2 c2 _ S2.out M2.out).mono ?_
          rintro e w3 ⟨⟨A3, c3, rfl, hc3, hr3⟩, hB3⟩
          have HB3 := Lib.hid (below_to HB2.out hB3)
          have S3 := Lib.hid (S2.out.below hB3)
          have M3 := Lib.hid (M2.out.below hB3)
          have N3 := Lib.hid (N2.out.below hB3)
          have C3 := Lib.hid hr3
          clear hB3 hr3
          go_wp2_with fail
          refine (H2.out A2 c2 _ S3.out M3.out).mono ?_
          rintro e w4 ⟨⟨A4, c4, rfl, hc4, hr4⟩, hB4⟩
          have HB4 := Lib.hid (below_to HB3.out hB4)
          have S4 := Lib.hid (S3.out.below hB4)
          have M4 := Lib.hid (M3.out.below hB4)
          have N4 := Lib.hid (N3.out.below hB4)
          have C4 := Lib.hid (C3.out.below hB4)
          have W4 := Lib.hid hr4
          clear hB4 hr4
          go_wp2_with fail
          refine (H4.out A2 c2 _ S4.out N4.out).mono ?_
          rintro e w5 ⟨⟨A5, c5, rfl, hc5, hr5⟩, hB5⟩
          have HB5 := Lib.hid (below_to HB4.out hB5)
          have S5 := Lib.hid (S4.out.below hB5)
          have M5 := Lib.hid (M4.out.below hB5)
          have N5 := Lib.hid (N4.out.below hB5)
          have C5 := Lib.hid (C4.out.below hB5)
          have W5 := Lib.hid (W4.out.below hB5)
          have T5 := Lib.hid hr5
          clear hB5 hr5
          go_wp2_with fail
          refine (H5.out A2 c2 _ S5.out N5.out).mono ?_
          rintro e w6 ⟨⟨A6, c6, rfl, hc6, hr6⟩, hB6⟩
          have HB6 := Lib.hid (below_to HB5.out hB6)
          have S6 := Lib.hid (S5.out.below hB6)
          have M6 := Lib.hid (M5.out.below hB6)
          have C6 := Lib.hid (C5.out.below hB6)
          have T6 := Lib.hid (T5.out.below hB6)
          have V6 := Lib.hid hr6
          have hsm := sameInts_any A3 A4 c3 c4 R R (by omega) (by omega) _ C6.out (W5.out.below hB6)
          rw [decide_eq_true rfl] at hsm
          clear hB6 hr6
          go_wp2_with fail
          refine hsm.mono ?_
          rintro e w7 ⟨rfl, hB7⟩
          have HB7 := Lib.hid (below_to HB6.out hB7)
          have S7 := Lib.hid (S6.out.below hB7)
          have M7 := Lib.hid (M6.out.below hB7)
          have C7 := Lib.hid (C6.out.below hB7)
          have hsm2 := same_any A5 A6 c5 c6 R2 R2 (by omega) (by omega) _ (T6.out.below hB7) (V6.out.below hB7)
          rw [decide_eq_true rfl] at hsm2
          clear hB7 hsm
          go_wp2_with fail
          refine hsm2.mono ?_
          rintro e w8 ⟨rfl, hB8⟩
          have HB8 := Lib.hid (below_to HB7.out hB8)
          have S8 := Lib.hid (S7.out.below hB8)
          have M8 := Lib.hid (M7.out.below hB8)
          have C8 := Lib.hid (C7.out.below hB8)
          clear hB8 hsm2
          go_wp2_with fail
          go_ret
          exact ⟨rfl, HB8.out⟩
      · clear hfew hfewM hf hfM hR hRM hRN hs hsM hL hM hz hzM
        go_enter Try.func6, Try.ntmps6
        go_wp2_with fail
        refine (known_any w).mono ?_
        rintro e w1 ⟨rfl, hB1⟩
        have HB1 := Lib.hid hB1
        have K1 := Lib.hid (HR.out.below hB1)
        have M1 := Lib.hid (HRM.out.below hB1)
        go_wp2_with fail
        refine (HFW.out w1 K1.out).mono ?_
        rintro e w1' ⟨rfl, rfl⟩
        go_wp2_with fail
        refine (HFM.out _ M1.out).mono ?_
        rintro e w1' ⟨rfl, rfl⟩
        clear hB1
        go_wp2_with fail
        refine (known_any _).mono ?_
        rintro e w2 ⟨rfl, hB2⟩
        have HB2 := Lib.hid (below_to HB1.out hB2)
        clear hB2
        go_wp2_with fail
        go_ret
        exact ⟨rfl, HB2.out⟩
    | false =>
      rw [hfM] at hfewM
      have HFM := Lib.hid hfewM
      clear hfew hfewM hf hfM hR hRM hRN hs hsM hL hM hz
      go_enter Try.func6, Try.ntmps6
      go_wp2_with fail
      refine (known_any w).mono ?_
      rintro e w1 ⟨rfl, hB1⟩
      have HB1 := Lib.hid hB1
      have K1 := Lib.hid (HR.out.below hB1)
      have M1 := Lib.hid (HRM.out.below hB1)
      go_wp2_with fail
      refine (HFW.out w1 K1.out).mono ?_
      rintro e w1' ⟨rfl, rfl⟩
      go_wp2_with fail
      refine (HFM.out _ M1.out).mono ?_
      rintro e w1' ⟨rfl, rfl⟩
      clear hB1
      go_wp2_with fail
      refine (known_any _).mono ?_
      rintro e w2 ⟨rfl, hB2⟩
      have HB2 := Lib.hid (below_to HB1.out hB2)
      clear hB2
      go_wp2_with fail
      go_ret
      exact ⟨rfl, HB2.out⟩
  | false =>
    rw [hf] at hfew
    have HFW := Lib.hid hfew
    clear hfew hfewM hf hR hRM hRN hs hsM hL hM
    go_enter Try.func6, Try.ntmps6
    go_wp2_with fail
    refine (known_any w).mono ?_
    rintro e w1 ⟨rfl, hB1⟩
    have HB1 := Lib.hid hB1
    have K1 := Lib.hid (HR.out.below hB1)
    go_wp2_with fail
    refine (HFW.out w1 K1.out).mono ?_
    rintro e w1' ⟨rfl, rfl⟩
    clear hB1
    go_wp2_with fail
    refine (known_any _).mono ?_
    rintro e w2 ⟨rfl, hB2⟩
    have HB2 := Lib.hid (below_to HB1.out hB2)
    clear hB2
    go_wp2_with fail
    go_ret
    exact ⟨rfl, HB2.out⟩

set_option maxRecDepth 100000 in
theorem lifted (os : Os) (started : os.Started) (H : Type) (enc : TypeId × Value → H) :
    ReturnsInHanded {} Try.checked os 6 .any (Rows.dictionaryCodesSpec.pre6 enc Try.prog Try.f6 Rows.dictionaryCodesRow.domain false) (Rows.dictionaryCodesSpec.post enc Try.prog Try.f6 false true false false) := by
  refine returnsInHanded_of_change (C := Try.checked) own started (by kernel_rfl) Try.func6
    (ChangeSpec.witness6 (enc := enc) (C := Try.checked) false ⟨#[], #[.slice none 0 0, .slice none 0 0, .slice none 0 0], []⟩ 8 (by kernel_rfl) (by kernel_rfl) (by kernel_rfl) (by kernel_rfl)) ?_
  intro W base args ds gs before hval0 hW _ _
  have hval : ∀ (j : Nat) t v, Try.f6.params[j]? = some t → args[j]? = some v → Value.okWide Try.prog W .any base t v := hval0
  have hW' := hW
  obtain ⟨p, q, hA0, hV, rfl, _, _⟩ := hW
  have hA : DataW.TrodAll enc Try.prog W 0 (fun _ => true) true Try.f6.params.toList args.toList ds p := hA0
  rw [Try.params6] at hA hval
  obtain ⟨v0, vs0, d0, ds0, p0, q0, hargs0, rfl, rfl, h0, r0⟩ := trodAll_cons hA
  obtain ⟨v1, vs1, d1, ds1, p1, q1, hargs1, rfl, rfl, h1, r1⟩ := trodAll_cons r0
  obtain ⟨v2, vs2, d2, ds2, p2, q2, hargs2, rfl, rfl, h2, r2⟩ := trodAll_cons r1
  obtain ⟨rfl, rfl, rfl⟩ := trodAll_nil r2
  obtain rfl : args = #[v0, v1, v2] := by cases args; simp_all
  obtain ⟨rfl, rfl⟩ := trodVars_none hV
  have lt0 : ∀ x ∈ p0, x.block < W.heap.size := fun x hx => hW'.lt x (by simp [hx])
  obtain ⟨A0, c0, L0, rfl, hL0, hs0, hR0⟩ := open_strs (hval 0 22 v0 rfl rfl) h0 lt0
  have lt1 : ∀ x ∈ p1, x.block < W.heap.size := fun x hx => hW'.lt x (by simp [hx])
  obtain ⟨A1, c1, L1, rfl, hL1, hs1, hR1⟩ := open_strs (hval 1 22 v1 rfl rfl) h1 lt1
  have lt2 : ∀ x ∈ p2, x.block < W.heap.size := fun x hx => hW'.lt x (by simp [hx])
  obtain ⟨A2, c2, L2, rfl, hL2, hR2⟩ := open_nums (hval 2 31 v2 rfl rfl) h2 lt2
  clear hA0 hval0
  simp only [List.append_nil] at hW'
  refine (walk W A0 c0 L0 hL0 hs0 hR0 A1 c1 L1 hL1 hs1 hR1 A2 c2 L2 hL2 hR2).mono fun e W' ⟨he, hb⟩ => ?_
  subst he
  exact ⟨_, rfl, post_mem hW' hb (fun _ _ _ => trodAll_mk1 (shut_bool Try.underlying4 _)) (fun sp hsp => by
    have t := trodAll_cons_mk (carry laidOut (by kernel_rfl) (of_decide_eq_true (by kernel_rfl)) h0 hb lt0 sp (fun x hx => hsp x (by simp [hx]))) (trodAll_cons_mk (carry laidOut (by kernel_rfl) (of_decide_eq_true (by kernel_rfl)) h1 hb lt1 sp (fun x hx => hsp x (by simp [hx]))) (trodAll_cons_mk (carry laidOut (by kernel_rfl) (of_decide_eq_true (by kernel_rfl)) h2 hb lt2 sp (fun x hx => hsp x (by simp [hx]))) trodAll_mk0))
    simp only [List.append_nil] at t
    exact t) (fun _ => rfl) (ok_one (by kernel_rfl) rfl (okWide_bool_mk Try.underlying4 _))⟩

theorem proved : Rows.DictionaryCodesSaid :=
  OpenClaim.holds_of_wide 6 Try.f6 rfl rfl rfl rfl rfl rfl rfl ⟨rfl, rfl, rfl, rfl, rfl⟩ rfl rfl rfl rfl rfl (by kernel_rfl) Try.func6 (by kernel_rfl)
    (of_decide_eq_true (by kernel_rfl)) (by unfold Func.isWrapper; first | (rw [if_pos (by decide +kernel)]; kernel_rfl) | (rw [if_neg (by decide +kernel)]; exact ⟨rfl, rfl⟩))
    (fun os started H enc _ => lifted os started H enc)

end Go.Proofs.Ytjkpjcklfpmcnaa.lawCodes
