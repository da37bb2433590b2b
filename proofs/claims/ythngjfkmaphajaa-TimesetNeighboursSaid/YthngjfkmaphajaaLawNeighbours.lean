/- The statement TimesetNeighbours: for any spans and any number, the law returns true and changes nothing. -/
import Derived.Test.YthngjfkmaphajaaKn
import Derived.Test.YthngjfkmaphajaaRow
namespace Go.Proofs.Ythngjfkmaphajaa.lawNeighbours
open Go.Proofs.Ythngjfkmaphajaa Go.ChangeShapes Go.WideShapes Go.ChangeAt Go.RowKit Go.Joins Ts

set_option maxRecDepth 100000 in
set_option maxHeartbeats 2000000 in
theorem walk (w : World) (A : Option Addr) (c : Nat) (L : List (Int × Int)) (hL : L.length ≤ 9223372036854775807) (hs : ∀ x ∈ L, SpOk x) (hR : Rs w w.heap.size A (spCells L)) (n : Int) (_wn : (Lit.int .i64 n).wf = true) :
    Calls Try.prog 9 #[.slice A L.length c, .int .i64 n] w fun e w' => e = .returned (.bool true) ∧ Below w.heap.size w w' := by
  have Hset := Lib.hid (set_sl L hs w A c hL hR)
  have hok := st_ok L hs
  obtain ⟨T, hT⟩ : ∃ T, T = stL L := ⟨_, rfl⟩
  rw [← hT] at Hset hok
  clear hR hs hT
  have hbd : ∀ x ∈ T, -9000000000000000000 ≤ x.2 ∧ x.2 ≤ 9000000000000000000 := fun x hx => by have := hok.bd x hx; omega
  have hl : T.length ≤ 1000000 := by have := hok.len; omega
  obtain ⟨⟨N1, N2⟩, hN⟩ : ∃ N, N = nxt n T := ⟨_, rfl⟩
  obtain ⟨⟨P1, P2⟩, hP⟩ : ∃ N, N = prv n T := ⟨_, rfl⟩
  have HN := Lib.hid hN
  have HP := Lib.hid hP
  clear hN hP
  go_enter Try.func9, Try.ntmps9
  go_wp2_with fail
  refine Hset.out.mono ?_
  rintro e w1 ⟨⟨r, rfl, hr⟩, hb⟩
  have HB := Lib.hid hb
  obtain ⟨B, d, rfl, _, _, _, hS⟩ := hr
  have HS := Lib.hid hS
  have h1 := next_any B d T hok.nrm hl n w1 hS
  rw [← HN.out] at h1
  have H1 := Lib.hid h1
  clear hb hS h1
  go_wp2_with fail
  refine H1.out.mono ?_
  rintro e w2 ⟨rfl, hb⟩
  have HB2 := Lib.hid (HB.out.trans (hb.mono HB.out.size))
  have HS2 := Lib.hid ((HS.out.below hb).more hb.size)
  have h1 := prev_any B d T hok.nrm hl hbd n w2 HS2.out
  rw [← HP.out] at h1
  have H2 := Lib.hid h1
  clear hb h1
  go_wp2_with fail
  refine H2.out.mono ?_
  rintro e w3 ⟨rfl, hb⟩
  have HB3 := Lib.hid (HB2.out.trans (hb.mono HB2.out.size))
  have HS3 := Lib.hid ((HS2.out.below hb).more hb.size)
  have h1 := ref_next B d T hl n w3 HS3.out
  rw [← HN.out] at h1
  have H3 := Lib.hid h1
  clear hb h1
  go_wp2_with fail
  refine H3.out.mono ?_
  rintro e w4 ⟨rfl, rfl⟩
  have h1 := ref_prev B d T hok.nrm hl hbd n w4 HS3.out
  rw [← HP.out] at h1
  have H4 := Lib.hid h1
  clear h1
  go_wp2_with fail
  refine H4.out.mono ?_
  rintro e w5 ⟨rfl, rfl⟩
  go_wp2_with fail
  refine (known_any w5).mono ?_
  rintro e w6 ⟨rfl, hb⟩
  have HB6 := Lib.hid (HB3.out.trans (hb.mono HB3.out.size))
  clear hb
  go_wp2_with fail
  go_ret
  exact ⟨by simp, HB6.out⟩

set_option maxRecDepth 100000 in
theorem lifted (os : Os) (started : os.Started) (H : Type) (enc : TypeId × Value → H) :
    ReturnsInHanded {} Try.checked os 9 .any (Rows.timesetNeighboursSpec.pre6 enc Try.prog Try.f9 Rows.timesetNeighboursRow.domain false) (Rows.timesetNeighboursSpec.post enc Try.prog Try.f9 false true false false) := by
  refine returnsInHanded_of_change (C := Try.checked) own started (by kernel_rfl) Try.func9
    (ChangeSpec.witness6 (enc := enc) (C := Try.checked) false ⟨#[], #[.slice none 0 0, .int .i64 0], []⟩ 8 (by kernel_rfl) (by kernel_rfl) (by kernel_rfl) (by kernel_rfl)) ?_
  intro W base args ds gs before hval0 hW _ _
  have hval : ∀ (j : Nat) t v, Try.f9.params[j]? = some t → args[j]? = some v → Value.okWide Try.prog W .any base t v := hval0
  have hW' := hW
  obtain ⟨p, q, hA0, hV, rfl, _, _⟩ := hW
  have hA : DataW.TrodAll enc Try.prog W 0 (fun _ => true) true Try.f9.params.toList args.toList ds p := hA0
  rw [Try.params9] at hA hval
  obtain ⟨v0, vs0, d0, ds0, p0, q0, hargs0, rfl, rfl, h0, r0⟩ := trodAll_cons hA
  obtain ⟨v1, vs1, d1, ds1, p1, q1, hargs1, rfl, rfl, h1, r1⟩ := trodAll_cons r0
  obtain ⟨rfl, rfl, rfl⟩ := trodAll_nil r1
  obtain rfl : args = #[v0, v1] := by cases args; simp_all
  obtain ⟨rfl, rfl⟩ := trodVars_none hV
  have lt0 : ∀ x ∈ p0, x.block < W.heap.size := fun x hx => hW'.lt x (by simp [hx])
  obtain ⟨A0, c0, L0, rfl, hL0, hs0, hR0⟩ := open_spns (hval 0 33 v0 rfl rfl) h0 lt0
  obtain ⟨a1, rfl, rfl, rfl, wa1⟩ := open_int Try.underlying3 (hval 1 3 v1 rfl rfl) h1
  clear hA0 hval0
  simp only [List.append_nil] at hW'
  refine (walk W A0 c0 L0 hL0 hs0 hR0 a1 wa1).mono fun e W' ⟨he, hb⟩ => ?_
  subst he
  exact ⟨_, rfl, post_mem hW' hb (fun _ _ _ => trodAll_mk1 (shut_bool Try.underlying4 _)) (fun sp hsp => by
    have t := trodAll_cons_mk (carry laidOut (by kernel_rfl) (of_decide_eq_true (by kernel_rfl)) h0 hb lt0 sp (fun x hx => hsp x (by simp [hx]))) (trodAll_cons_mk (shut_int Try.underlying3 wa1) trodAll_mk0)
    simp only [List.append_nil] at t
    exact t) (fun _ => rfl) (ok_one (by kernel_rfl) rfl (okWide_bool_mk Try.underlying4 _))⟩

theorem proved : Rows.TimesetNeighboursSaid :=
  OpenClaim.holds_of_wide 9 Try.f9 rfl rfl rfl rfl rfl rfl rfl ⟨rfl, rfl, rfl, rfl, rfl⟩ rfl rfl rfl rfl rfl (by kernel_rfl) Try.func9 (by kernel_rfl)
    (of_decide_eq_true (by kernel_rfl)) (by unfold Func.isWrapper; first | (rw [if_pos (by decide +kernel)]; kernel_rfl) | (rw [if_neg (by decide +kernel)]; exact ⟨rfl, rfl⟩))
    (fun os started H enc _ => lifted os started H enc)
end Go.Proofs.Ythngjfkmaphajaa.lawNeighbours
