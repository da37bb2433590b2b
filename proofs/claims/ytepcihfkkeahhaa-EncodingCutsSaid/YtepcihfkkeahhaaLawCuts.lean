/- The statement EncodingCuts: for any fragment, any cut and any further byte, the law returns true and changes nothing. -/
import Derived.Test.YtepcihfkkeahhaaFi
import Derived.Test.YtepcihfkkeahhaaFh
namespace Go.Proofs.Ytepcihfkkeahhaa.lawCuts
open Go.Proofs.Ytepcihfkkeahhaa Go.ChangeShapes Go.WideShapes Go.ChangeAt Go.RowKit Go.Joins

theorem u8_of {a : Int} (w : (Lit.int .u8 a).wf = true) : ∃ x : UInt8, a = x.toNat := by
  have h : 0 ≤ a ∧ a ≤ 255 := by simpa [Lit.wf, IntKind.min, IntKind.max, IntKind.signed, IntKind.bits] using w
  refine ⟨UInt8.ofNat a.toNat, ?_⟩
  rw [UInt8.toNat_ofNat']; omega
theorem u16_of {a : Int} (w : (Lit.int .u16 a).wf = true) : ∃ x : Nat, a = x ∧ x ≤ 65535 := by
  have h : 0 ≤ a ∧ a ≤ 65535 := by simpa [Lit.wf, IntKind.min, IntKind.max, IntKind.signed, IntKind.bits] using w
  exact ⟨a.toNat, by omega, by omega⟩
theorem walk (w : World) (a q : Int) (A : Option Addr) (c : Nat) (L : List Sv) (A2 : Option Addr) (c2 : Nat) (M : List Ex) (ha : In64 a) (hq : In64 q) (hl : L.length ≤ 9223372036854775807) (hm : M.length ≤ 9223372036854775807) (hlim : ∀ x ∈ L, x.1.Lim) (hints : ∀ x ∈ L, x.1.Ints) (hex : ∀ x ∈ M, ExOk x) (hR : Fr w A L A2 M) (cut : Int) (hc : (Lit.int .u16 cut).wf = true) (more : Int) (hmo : (Lit.int .u8 more).wf = true) :
    Calls Try.prog 10 #[.agg #[.int .i64 a, .int .i64 q, .slice A L.length c, .slice A2 M.length c2], .int .u16 cut, .int .u8 more] w fun e w' => e = .returned (.bool true) ∧ Below w.heap.size w w' := by
  obtain ⟨k, rfl, hk⟩ := u16_of hc
  obtain ⟨b, rfl⟩ := u8_of hmo
  exact cuts_any a q ha hq k hk b L hl hlim hints M hm hex A c A2 c2 w hR

set_option maxRecDepth 100000 in
theorem lifted (os : Os) (started : os.Started) (H : Type) (enc : TypeId × Value → H) :
    ReturnsInHanded {} Try.checked os 10 .any (Rows.encodingCutsSpec.pre6 enc Try.prog Try.f10 Rows.encodingCutsRow.domain false) (Rows.encodingCutsSpec.post enc Try.prog Try.f10 false true false false) := by
  refine returnsInHanded_of_change (C := Try.checked) own started (by kernel_rfl) Try.func10
    (ChangeSpec.witness6 (enc := enc) (C := Try.checked) false ⟨#[], #[.agg #[.int .i64 0, .int .i64 0, .slice none 0 0, .slice none 0 0], .int .u16 0, .int .u8 0], []⟩ 8 (by kernel_rfl) (by kernel_rfl) (by kernel_rfl) (by kernel_rfl)) ?_
  intro W base args ds gs before hval0 hW _ _
  have hval : ∀ (j : Nat) t v, Try.f10.params[j]? = some t → args[j]? = some v → Value.okWide Try.prog W .any base t v := hval0
  have hW' := hW
  obtain ⟨p, q, hA0, hV, rfl, _, _⟩ := hW
  have hA : DataW.TrodAll enc Try.prog W 0 (fun _ => true) true Try.f10.params.toList args.toList ds p := hA0
  rw [Try.params10] at hA hval
  obtain ⟨v0, vs0, d0, ds0, p0, q0, hargs0, rfl, rfl, h0, r0⟩ := trodAll_cons hA
  obtain ⟨v1, vs1, d1, ds1, p1, q1, hargs1, rfl, rfl, h1, r1⟩ := trodAll_cons r0
  obtain ⟨v2, vs2, d2, ds2, p2, q2, hargs2, rfl, rfl, h2, r2⟩ := trodAll_cons r1
  obtain ⟨rfl, rfl, rfl⟩ := trodAll_nil r2
  obtain rfl : args = #[v0, v1, v2] := by cases args; simp_all
  obtain ⟨rfl, rfl⟩ := trodVars_none hV
  have lt0 : ∀ x ∈ p0, x.block < W.heap.size := fun x hx => hW'.lt x (by simp [hx])
  obtain ⟨x0, y0, A0, c0, L0, B0, e0, M0, rfl, hx0, hy0, hL0, hM0, hlim0, hi0, hex0, hR0⟩ := open_frag (hval 0 62 v0 rfl rfl) h0 lt0
  obtain ⟨a1, rfl, rfl, rfl, wa1⟩ := open_int Try.underlying75 (hval 1 75 v1 rfl rfl) h1
  obtain ⟨a2, rfl, rfl, rfl, wa2⟩ := open_int Try.underlying5 (hval 2 5 v2 rfl rfl) h2
  clear hA0 hval0
  simp only [List.append_nil] at hW'
  refine (walk W x0 y0 A0 c0 L0 B0 e0 M0 hx0 hy0 hL0 hM0 hlim0 hi0 hex0 hR0 a1 wa1 a2 wa2).mono fun e W' ⟨he, hb⟩ => ?_
  subst he
  exact ⟨_, rfl, post_mem hW' hb (fun _ _ _ => trodAll_mk1 (shut_bool Try.underlying4 _)) (fun sp hsp => by
    have t := trodAll_cons_mk (carry laidOut (by kernel_rfl) (of_decide_eq_true (by kernel_rfl)) h0 hb lt0 sp (fun x hx => hsp x (by simp [hx]))) (trodAll_cons_mk (shut_int Try.underlying75 wa1) (trodAll_cons_mk (shut_int Try.underlying5 wa2) trodAll_mk0))
    simp only [List.append_nil] at t
    exact t) (fun _ => rfl) (ok_one (by kernel_rfl) rfl (okWide_bool_mk Try.underlying4 _))⟩

theorem proved : Rows.EncodingCutsSaid :=
  OpenClaim.holds_of_wide 10 Try.f10 rfl rfl rfl rfl rfl rfl rfl ⟨rfl, rfl, rfl, rfl, rfl⟩ rfl rfl rfl rfl rfl (by kernel_rfl) Try.func10 (by kernel_rfl)
    (of_decide_eq_true (by kernel_rfl)) (by unfold Func.isWrapper; first | (rw [if_pos (by decide +kernel)]; kernel_rfl) | (rw [if_neg (by decide +kernel)]; exact ⟨rfl, rfl⟩))
    (fun os started H enc _ => lifted os started H enc)
end Go.Proofs.Ytepcihfkkeahhaa.lawCuts
