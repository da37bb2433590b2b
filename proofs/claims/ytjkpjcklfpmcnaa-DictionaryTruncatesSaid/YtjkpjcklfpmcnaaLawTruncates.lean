/- The statement DictionaryTruncates: for any strings and any number, the law returns true and changes nothing. No condition. -/
import Derived.Test.YtjkpjcklfpmcnaaRow
import Derived.Test.YtjkpjcklfpmcnaaDd
import Derived.Test.YtjkpjcklfpmcnaaDh
import Derived.Test.YtjkpjcklfpmcnaaEn
namespace Go.Proofs.Ytjkpjcklfpmcnaa.lawTruncates
open Go.Proofs.Ytjkpjcklfpmcnaa Go.ChangeShapes Go.WideShapes Go.ChangeAt Go.RowKit Go.Joins Dp

theorem few_true {L : List ByteArray} (h : fewB L = true) : L.length ≤ 60 ∧ ∀ x ∈ L, x.size ≤ 300 := by
  unfold fewB at h
  rw [Bool.and_eq_true] at h
  refine ⟨of_decide_eq_true h.2, fun x hx => ?_⟩
  exact of_decide_eq_true (List.all_eq_true.1 h.1 x hx)
theorem u16_bounds {a : Int} (h : (Lit.int .u16 a).wf = true) : 0 ≤ a ∧ a ≤ 65535 := by
  simp [Lit.wf, IntKind.min, IntKind.max, IntKind.signed, IntKind.bits] at h
  omega
set_option maxRecDepth 100000 in
set_option maxHeartbeats 4000000 in
theorem walk (w : World) (A : Option Addr) (c : Nat) (L : List ByteArray) (hL : L.length ≤ 9223372036854775807) (hs : ∀ x ∈ L, x.size ≤ 9223372036854775807) (hR : Rd Value.string w A L) (a : Int) (ha : (Lit.int .u16 a).wf = true) :
    Calls Try.prog 12 #[.slice A L.length c, .int .u16 a] w fun e w' => e = .returned (.bool true) ∧ Below w.heap.size w w' := by
  obtain ⟨ha0, ha1⟩ := u16_bounds ha
  obtain ⟨n, rfl⟩ := Int.eq_ofNat_of_zero_le ha0
  clear ha ha0
  have HR := Lib.hid hR
  have hfew := fun W => few_any A c L hL hs W
  cases hf : fewB L with
  | true =>
    rw [hf] at hfew
    have HFW := Lib.hid hfew
    obtain ⟨hl, hz⟩ := few_true hf
    have hd := fun W => dictionaryOf_any A c L (by omega) hs W
    have hDl := dcO_len L
    have hDS := dcO_srt L
    have hDz := dcO_size L
    obtain ⟨d, hdd⟩ : ∃ d, d = dcO L := ⟨_, rfl⟩
    rw [← hdd] at hd hDl hDS hDz
    have hck := chk_srt hDS hDz (by omega)
    have h3 := fun X x W g => rencode_any X x d (by omega) hDz W g
    have hfb := frm_bound d d.length (fun y hy => by have := hDz y hy; omega)
    have hf2 := frm_mono d (Nat.zero_le d.length)
    rw [frm_two] at hf2
    have hts : (⟨(frm d d.length).toArray⟩ : ByteArray).size = (frm d d.length).length := by
      show (frm d d.length).toArray.size = _
      simp
    obtain ⟨t, ht⟩ : ∃ t : ByteArray, t = ⟨(frm d d.length).toArray⟩ := ⟨_, rfl⟩
    rw [← hts] at hfb hf2
    rw [← ht] at h3 hfb hf2
    have hlt : n % t.size < t.size := Nat.mod_lt _ (by omega)
    have hdec := dec_cut hck ht hlt
    obtain ⟨m, hm⟩ : ∃ m, m = n % t.size := ⟨_, rfl⟩
    rw [← hm] at hdec hlt
    have hm1 : (n : Int) % (t.size : Int) = (m : Int) := by rw [hm]; exact (Int.natCast_emod _ _).symm
    have hm2 : (n : Int).tmod (t.size : Int) = (m : Int) := by rw [Int.tmod_eq_emod_of_nonneg (by omega)]; exact hm1
    have h5 := fun W => decode_any (t.extract 0 m) (by simp; omega) W
    unfold DecPost at h5
    rw [hdec] at h5
    have HD := Lib.hid hd
    have HRE := Lib.hid h3
    have HDE := Lib.hid h5
    have hts2 : t.size ≤ 1000000 := by omega
    have hne : ((t.size : Int) == 0) = false := by rw [beq_eq_false_iff_ne]; omega
    clear hfew hf hd hDS hDz hdd hck h3 h5 hdec hts ht hR hz hs hm hfb
    go_enter Try.func12, Try.ntmps12
    go_wp2_with fail
    refine (known_any w).mono ?_
    rintro e w1 ⟨rfl, hB1⟩
    have HB1 := Lib.hid hB1
    have K1 := Lib.hid (HR.out.below hB1)
    clear hB1
    go_wp2_with fail
    refine (HFW.out w1 K1.out).mono ?_
    rintro e w1' ⟨rfl, rfl⟩
    go_wp2_with fail
    refine (HD.out _ K1.out).mono ?_
    rintro e w5 ⟨⟨A5, c5, rfl, hc5, _, hr5⟩, hB5⟩
    have HB5 := Lib.hid (below_to HB1.out hB5)
    have D5 := Lib.hid hr5
    clear hB5 hr5
    go_wp2_with fail
    refine (HRE.out A5 c5 _ D5.out).mono ?_
    rintro e w6 ⟨rfl, hB6⟩
    have HB6 := Lib.hid (below_to HB5.out hB6)
    clear hB6
    go_wp2_with fail
    refine (HDE.out _).mono ?_
    rintro e w7 ⟨⟨A7, c7, rfl, hc7, hr7⟩, hB7⟩
    have HB7 := Lib.hid (below_to HB6.out hB7)
    clear hB7 hr7
    go_wp2_with fail
    go_ret
    exact ⟨rfl, HB7.out⟩
  | false =>
    rw [hf] at hfew
    have HFW := Lib.hid hfew
    clear hfew hf hR hs hL
    go_enter Try.func12, Try.ntmps12
    go_wp2_with fail
    refine (known_any w).mono ?_
    rintro e w1 ⟨rfl, hB1⟩
    have HB1 := Lib.hid hB1
    have K1 := Lib.hid (HR.out.below hB1)
    clear hB1
    go_wp2_with fail
    refine (HFW.out w1 K1.out).mono ?_
    rintro e w1' ⟨rfl, rfl⟩
    go_wp2_with fail
    refine (known_any _).mono ?_
    rintro e w2 ⟨rfl, hB2⟩
    have HB2 := Lib.hid (below_to HB1.out hB2)
    clear hB2
    go_wp2_with fail
    go_ret
    exact ⟨rfl, HB2.out⟩

set_option maxRecDepth 100000 in
theorem lifted (os : Os) (started : os.Started) (H : Type) (enc : TypeId × Value → H) :
    ReturnsInHanded {} Try.checked os 12 .any (Rows.dictionaryTruncatesSpec.pre6 enc Try.prog Try.f12 Rows.dictionaryTruncatesRow.domain false) (Rows.dictionaryTruncatesSpec.post enc Try.prog Try.f12 false true false false) := by
  refine returnsInHanded_of_change (C := Try.checked) own started (by kernel_rfl) Try.func12
    (ChangeSpec.witness6 (enc := enc) (C := Try.checked) false ⟨#[], #[.slice none 0 0, .int .u16 0], []⟩ 8 (by kernel_rfl) (by kernel_rfl) (by kernel_rfl) (by kernel_rfl)) ?_
  intro W base args ds gs before hval0 hW _ _
  have hval : ∀ (j : Nat) t v, Try.f12.params[j]? = some t → args[j]? = some v → Value.okWide Try.prog W .any base t v := hval0
  have hW' := hW
  obtain ⟨p, q, hA0, hV, rfl, _, _⟩ := hW
  have hA : DataW.TrodAll enc Try.prog W 0 (fun _ => true) true Try.f12.params.toList args.toList ds p := hA0
  rw [Try.params12] at hA hval
  obtain ⟨v0, vs0, d0, ds0, p0, q0, hargs0, rfl, rfl, h0, r0⟩ := trodAll_cons hA
  obtain ⟨v1, vs1, d1, ds1, p1, q1, hargs1, rfl, rfl, h1, r1⟩ := trodAll_cons r0
  obtain ⟨rfl, rfl, rfl⟩ := trodAll_nil r1
  obtain rfl : args = #[v0, v1] := by cases args; simp_all
  obtain ⟨rfl, rfl⟩ := trodVars_none hV
  have lt0 : ∀ x ∈ p0, x.block < W.heap.size := fun x hx => hW'.lt x (by simp [hx])
  obtain ⟨A0, c0, L0, rfl, hL0, hs0, hR0⟩ := open_strs (hval 0 22 v0 rfl rfl) h0 lt0
  obtain ⟨a1, rfl, rfl, rfl, wa1⟩ := open_int Try.underlying60 (hval 1 60 v1 rfl rfl) h1
  clear hA0 hval0
  simp only [List.append_nil] at hW'
  refine (walk W A0 c0 L0 hL0 hs0 hR0 a1 wa1).mono fun e W' ⟨he, hb⟩ => ?_
  subst he
  exact ⟨_, rfl, post_mem hW' hb (fun _ _ _ => trodAll_mk1 (shut_bool Try.underlying4 _)) (fun sp hsp => by
    have t := trodAll_cons_mk (carry laidOut (by kernel_rfl) (of_decide_eq_true (by kernel_rfl)) h0 hb lt0 sp (fun x hx => hsp x (by simp [hx]))) (trodAll_cons_mk (shut_int Try.underlying60 wa1) trodAll_mk0)
    simp only [List.append_nil] at t
    exact t) (fun _ => rfl) (ok_one (by kernel_rfl) rfl (okWide_bool_mk Try.underlying4 _))⟩

theorem proved : Rows.DictionaryTruncatesSaid :=
  OpenClaim.holds_of_wide 12 Try.f12 rfl rfl rfl rfl rfl rfl rfl ⟨rfl, rfl, rfl, rfl, rfl⟩ rfl rfl rfl rfl rfl (by kernel_rfl) Try.func12 (by kernel_rfl)
    (of_decide_eq_true (by kernel_rfl)) (by unfold Func.isWrapper; first | (rw [if_pos (by decide +kernel)]; kernel_rfl) | (rw [if_neg (by decide +kernel)]; exact ⟨rfl, rfl⟩))
    (fun os started H enc _ => lifted os started H enc)

end Go.Proofs.Ytjkpjcklfpmcnaa.lawTruncates
