/- The statement TimesetCounts: for any spans and any number, the law returns true and changes nothing. -/
import Derived.Test.YthngjfkmaphajaaKn
import Derived.Test.YthngjfkmaphajaaRow
namespace Go.Proofs.Ythngjfkmaphajaa.lawCounts
open Go.Proofs.Ythngjfkmaphajaa Go.ChangeShapes Go.WideShapes Go.ChangeAt Go.RowKit Go.Joins Ts

set_option maxRecDepth 100000 in
theorem nth_neg (A : Option Addr) (c : Nat) (L : List Iv) (k : Int) (hk : k < 0) (w : World) :
    Calls Try.prog 33 #[.slice A L.length c, .int .i64 k] w fun e w' => e = .returned (.tuple #[.int .i64 0, .bool false]) ∧ w' = w := by
  go_enter Try.func33, Try.ntmps33
  go_wp2_with fail
  go_ret2
  exact ⟨rfl, rfl⟩
set_option maxRecDepth 100000 in
set_option maxHeartbeats 4000000 in
theorem walk (w : World) (A : Option Addr) (c : Nat) (L : List (Int × Int)) (hL : L.length ≤ 9223372036854775807) (hs : ∀ x ∈ L, SpOk x) (hR : Rs w w.heap.size A (spCells L)) (n : Int) (wn : (Lit.int .i64 n).wf = true) :
    Calls Try.prog 8 #[.slice A L.length c, .int .i64 n] w fun e w' => e = .returned (.bool true) ∧ Below w.heap.size w w' := by
  have hn := bd64 wn
  have Hset := Lib.hid (set_sl L hs w A c hL hR)
  have hok := st_ok L hs
  obtain ⟨T, hT⟩ : ∃ T, T = stL L := ⟨_, rfl⟩
  rw [← hT] at Hset hok
  clear hR hs hT wn
  have hl : T.length ≤ 1000 := by have := hok.len; omega
  have hl6 : T.length ≤ 1000000 := by omega
  have hspec := nth_spec hok.nrm n
  have hlen0 := len_nonneg hok.nrm.1
  obtain ⟨M, hM⟩ : ∃ M, M = len T := ⟨_, rfl⟩
  obtain ⟨K, hK⟩ : ∃ K, K = rk n T := ⟨_, rfl⟩
  have HM := Lib.hid hM
  have HK := Lib.hid hK
  have Hspec := Lib.hid hspec
  rw [← hM] at hlen0
  clear hM hK hspec
  go_enter Try.func8, Try.ntmps8
  go_wp2_with fail
  refine Hset.out.mono ?_
  rintro e w1 ⟨⟨r, rfl, hr⟩, hb⟩
  have HB1 := Lib.hid hb
  obtain ⟨B, d, rfl, hTd, hd9, _, hS⟩ := hr
  have HS1 := Lib.hid hS
  clear hb hS
  go_wp2_with fail
  refine (known_any w1).mono ?_
  rintro e w2 ⟨rfl, hb⟩
  have HB2 := Lib.hid (HB1.out.trans (hb.mono HB1.out.size))
  have HS2 := Lib.hid ((HS1.out.below hb).more hb.size)
  have h1 := length_any B d T hok.nrm.1 hok.bd hl w2 HS2.out
  rw [← HM.out] at h1
  have H2 := Lib.hid h1
  clear hb h1
  go_wp2_with fail
  refine H2.out.mono ?_
  rintro e w3 ⟨rfl, hb⟩
  have HB3 := Lib.hid (HB2.out.trans (hb.mono HB2.out.size))
  have HS3 := Lib.hid ((HS2.out.below hb).more hb.size)
  have h1 := ref_length B d T hok.nrm.1 hok.bd hl w3 HS3.out
  rw [← HM.out] at h1
  have H3 := Lib.hid h1
  clear hb h1
  go_wp2_with fail
  refine H3.out.mono ?_
  rintro e w4 ⟨rfl, hb⟩
  have HB4 := Lib.hid (HB3.out.trans (hb.mono HB3.out.size))
  have HS4 := Lib.hid ((HS3.out.below hb).more hb.size)
  have h1 := rank_any B d T hok.nrm hok.bd hl hTd hd9 n w4 HS4.out
  rw [← HK.out] at h1
  have H4 := Lib.hid h1
  clear hb h1
  go_wp2_with fail
  refine H4.out.mono ?_
  rintro e w5 ⟨rfl, hb⟩
  have HB5 := Lib.hid (HB4.out.trans (hb.mono HB4.out.size))
  have HS5 := Lib.hid ((HS4.out.below hb).more hb.size)
  have h1 := ref_rank B d T hok.nrm.1 hok.bd hl n w5 HS5.out
  rw [← HK.out] at h1
  have H5 := Lib.hid h1
  clear hb h1
  go_wp2_with fail
  refine H5.out.mono ?_
  rintro e w6 ⟨rfl, hb⟩
  have HB6 := Lib.hid (HB5.out.trans (hb.mono HB5.out.size))
  have HS6 := Lib.hid ((HS5.out.below hb).more hb.size)
  clear hb
  by_cases hneg : n < 0
  · go_wp2_with fail
    refine (nth_neg B d T n hneg w6).mono ?_
    rintro e w7 ⟨rfl, rfl⟩
    go_wp2_with fail
    go_ret
    exact ⟨rfl, HB6.out⟩
  · have h0 : 0 ≤ n := by omega
    have h1 := nth_any B d T hok.nrm.1 hok.bd hl n h0 hn.2 w6 HS6.out
    by_cases hge : M ≤ n
    · have e1 := (Hspec.out h0).2 (by rw [← HM.out]; exact hge)
      rw [e1] at h1
      have H6 := Lib.hid h1
      clear h1 e1
      go_wp2_with fail
      refine H6.out.mono ?_
      rintro e w7 ⟨rfl, hb⟩
      have HB7 := Lib.hid (HB6.out.trans (hb.mono HB6.out.size))
      have HS7 := Lib.hid ((HS6.out.below hb).more hb.size)
      have h1 := ref_length B d T hok.nrm.1 hok.bd hl w7 HS7.out
      rw [← HM.out] at h1
      have H7 := Lib.hid h1
      clear hb h1
      go_wp2_with fail
      refine H7.out.mono ?_
      rintro e w8 ⟨rfl, hb⟩
      have HB8 := Lib.hid (HB7.out.trans (hb.mono HB7.out.size))
      clear hb
      go_wp2_with fail
      go_ret
      exact ⟨rfl, HB8.out⟩
    · obtain ⟨x, e1, hin, hrk⟩ := (Hspec.out h0).1 (by rw [← HM.out]; omega)
      rw [e1] at h1
      have H6 := Lib.hid h1
      have Hin := Lib.hid hin
      have Hrk := Lib.hid hrk
      clear h1 e1 hin hrk
      go_wp2_with fail
      refine H6.out.mono ?_
      rintro e w7 ⟨rfl, hb⟩
      have HB7 := Lib.hid (HB6.out.trans (hb.mono HB6.out.size))
      have HS7 := Lib.hid ((HS6.out.below hb).more hb.size)
      have h1 := ref_length B d T hok.nrm.1 hok.bd hl w7 HS7.out
      rw [← HM.out] at h1
      have H7 := Lib.hid h1
      clear hb h1
      go_wp2_with fail
      refine H7.out.mono ?_
      rintro e w8 ⟨rfl, hb⟩
      have HB8 := Lib.hid (HB7.out.trans (hb.mono HB7.out.size))
      have HS8 := Lib.hid ((HS7.out.below hb).more hb.size)
      have h1 := ref_has B d T hl6 x w8 HS8.out
      rw [(has_in x T).2 Hin.out] at h1
      have H8 := Lib.hid h1
      clear hb h1
      go_wp2_with fail
      refine H8.out.mono ?_
      rintro e w9 ⟨rfl, rfl⟩
      have h1 := ref_rank B d T hok.nrm.1 hok.bd hl x w9 HS8.out
      rw [Hrk.out] at h1
      have H9 := Lib.hid h1
      clear h1
      go_wp2_with fail
      refine H9.out.mono ?_
      rintro e w10 ⟨rfl, hb⟩
      have HB10 := Lib.hid (HB8.out.trans (hb.mono HB8.out.size))
      have HS10 := Lib.hid ((HS8.out.below hb).more hb.size)
      have h1 := rank_any B d T hok.nrm hok.bd hl hTd hd9 x w10 HS10.out
      rw [Hrk.out] at h1
      have H10 := Lib.hid h1
      clear hb h1
      go_wp2_with fail
      refine H10.out.mono ?_
      rintro e w11 ⟨rfl, hb⟩
      have HB11 := Lib.hid (HB10.out.trans (hb.mono HB10.out.size))
      clear hb
      go_wp2_with fail
      go_ret
      exact ⟨by simp, HB11.out⟩

set_option maxRecDepth 100000 in
theorem lifted (os : Os) (started : os.Started) (H : Type) (enc : TypeId × Value → H) :
    ReturnsInHanded {} Try.checked os 8 .any (Rows.timesetCountsSpec.pre6 enc Try.prog Try.f8 Rows.timesetCountsRow.domain false) (Rows.timesetCountsSpec.post enc Try.prog Try.f8 false true false false) := by
  refine returnsInHanded_of_change (C := Try.checked) own started (by kernel_rfl) Try.func8
    (ChangeSpec.witness6 (enc := enc) (C := Try.checked) false ⟨#[], #[.slice none 0 0, .int .i64 0], []⟩ 8 (by kernel_rfl) (by kernel_rfl) (by kernel_rfl) (by kernel_rfl)) ?_
  intro W base args ds gs before hval0 hW _ _
  have hval : ∀ (j : Nat) t v, Try.f8.params[j]? = some t → args[j]? = some v → Value.okWide Try.prog W .any base t v := hval0
  have hW' := hW
  obtain ⟨p, q, hA0, hV, rfl, _, _⟩ := hW
  have hA : DataW.TrodAll enc Try.prog W 0 (fun _ => true) true Try.f8.params.toList args.toList ds p := hA0
  rw [Try.params8] at hA hval
  obtain ⟨v0, vs0, d0, ds0, p0, q0, hargs0, rfl, rfl, h0, r0⟩ := trodAll_cons hA
  obtain ⟨v1, vs1, d1, ds1, p1, q1, hargs1, rfl, rfl, h1, r1⟩ := trodAll_cons r0
  obtain ⟨rfl, rfl, rfl⟩ := trodAll_nil r1
  obtain rfl : args = #[v0, v1] := by cases args; simp_all
  obtain ⟨rfl, rfl⟩ := trodVars_none hV
  have lt0 : ∀ x ∈ p0, x.block < W.heap.size := fun x hx => hW'.lt x (by simp [hx])
  obtain ⟨A0, c0, L0, rfl, hL0, hs0, hR0⟩ := open_spns (hval 0 33 v0 rfl rfl) h0 lt0
  obtain ⟨a1, rfl, rfl, rfl, wa1⟩ := open_int Try.underlying3 (hval 1 3 v1 rfl rfl) h1
  clear hA0 hval0
  simp only [List.append_nil] at hW'
  refine (walk W A0 c0 L0 hL0 hs0 hR0 a1 wa1).mono fun e W' ⟨he, hb⟩ => ?_
  subst he
  exact ⟨_, rfl, post_mem hW' hb (fun _ _ _ => trodAll_mk1 (shut_bool Try.underlying4 _)) (fun sp hsp => by
    have t := trodAll_cons_mk (carry laidOut (by kernel_rfl) (of_decide_eq_true (by kernel_rfl)) h0 hb lt0 sp (fun x hx => hsp x (by simp [hx]))) (trodAll_cons_mk (shut_int Try.underlying3 wa1) trodAll_mk0)
    simp only [List.append_nil] at t
    exact t) (fun _ => rfl) (ok_one (by kernel_rfl) rfl (okWide_bool_mk Try.underlying4 _))⟩

theorem proved : Rows.TimesetCountsSaid :=
  OpenClaim.holds_of_wide 8 Try.f8 rfl rfl rfl rfl rfl rfl rfl ⟨rfl, rfl, rfl, rfl, rfl⟩ rfl rfl rfl rfl rfl (by kernel_rfl) Try.func8 (by kernel_rfl)
    (of_decide_eq_true (by kernel_rfl)) (by unfold Func.isWrapper; first | (rw [if_pos (by decide +kernel)]; kernel_rfl) | (rw [if_neg (by decide +kernel)]; exact ⟨rfl, rfl⟩))
    (fun os started H enc _ => lifted os started H enc)
end Go.Proofs.Ythngjfkmaphajaa.lawCounts
