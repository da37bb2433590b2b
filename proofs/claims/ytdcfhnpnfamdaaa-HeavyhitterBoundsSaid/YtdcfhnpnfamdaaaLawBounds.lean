/- HeavyhitterBounds: for any number, items and key the law returns true (written by wip/bin/gen_lb22.py). No condition. -/
import Derived.Test.YtdcfhnpnfamdaaaHj
import Derived.Test.YtdcfhnpnfamdaaaHr
namespace Go.Proofs.Ytdcfhnpnfamdaaa.lawBounds
open Go.ChangeShapes Go.WideShapes Go.ChangeAt Go.RowKit Go.Joins

set_option maxRecDepth 100000 in
set_option maxHeartbeats 8000000 in
theorem walk (w : World) (a0 : Int) (wa0 : (Lit.int .u8 a0).wf = true) (A : Option Addr) (c : Nat) (L : List It) (hL : L.length ≤ 9223372036854775807) (_hc : L.length ≤ c) (_hn : A = none → c = 0) (hok : ∀ x ∈ L, ItOk x) (hR : IR w A L) (s : ByteArray) (hs : s.size ≤ 9223372036854775807) :
    Calls Try.prog 9 #[.int .u8 a0, .slice A L.length c, .string s] w fun e w' => e = .returned (.bool true) ∧ Below w.heap.size w w' := by
  obtain ⟨n, rfl⟩ : ∃ n : Nat, a0 = (n : Int) := ⟨a0.toNat, by have := bd8 wa0; omega⟩
  have hn8 : n ≤ 255 := by have := bd8 wa0; omega
  clear wa0
  have HB : Hid (Below w.heap.size w w) := Lib.hid (Below.refl _ _)
  have HIL := Lib.hid hR
  have HOk := Lib.hid hok
  have HMo := Lib.hid (fun W => most_any n hn8 W)
  have hmo := mo_bd n
  obtain ⟨m, hm⟩ : ∃ m, m = moN n := ⟨_, rfl⟩
  rw [← hm] at HMo hmo
  obtain ⟨ln, hln⟩ : ∃ ln, ln = L.length := ⟨_, rfl⟩
  have HLn := Lib.hid hln
  have hL2 := hL
  rw [← hln] at hL2 ⊢
  have HL := Lib.hid hL
  clear hR hok hm hln hL
  go_enter Try.func9, Try.ntmps9
  go_wp2_with fail
  with_reducible refine (known_any _).mono ?_
  rintro e w1 ⟨rfl, hb⟩
  replace HIL := Lib.hid (HIL.out.below hb)
  replace HB := Lib.hid (HB.out.trans (hb.mono HB.out.size))
  clear hb
  by_cases h80 : (80 : Int) < (s.size : Int)
  · have d80 : decide ((80 : Int) < (s.size : Int)) = true := by simpa using h80
    clear h80
    go_wp2_with fail
    with_reducible refine (known_any _).mono ?_
    rintro e w2 ⟨rfl, hb⟩
    replace HIL := Lib.hid (HIL.out.below hb)
    replace HB := Lib.hid (HB.out.trans (hb.mono HB.out.size))
    clear hb
    go_wp2_with fail
    go_ret
    exact ⟨rfl, HB.out⟩
  · have d80 : decide ((80 : Int) < (s.size : Int)) = false := by simpa using h80
    have HKs : Hid (s.size ≤ 80) := Lib.hid (by omega)
    clear h80
    go_wp2_with fail
    with_reducible refine (HMo.out _).mono ?_
    rintro e w9 ⟨rfl, rfl⟩
    clear HMo
    go_wp2_with fail
    obtain ⟨mo, to, lo, cs, hq, hsl, hgd, q1, q2, q3, hcl⟩ := stream_let m ⟨hmo.1, by omega⟩ A c L HL.out HOk.out _ HIL.out
    rw [← HLn.out] at hcl
    have HCl := Lib.hid hcl
    have hgb := hsl.gtb s
    have hlo := hsl.lo
    dsimp only at hlo hgb
    have hsz := hsl.size
    dsimp only at hsz
    have HBo := Lib.hid (fun A' c' W (h : SlV W (.slice A' cs.length c') cs) => bounds_any (.agg #[.int .i64 mo, .int .i64 to, .int .i64 lo, .slice A' cs.length c']) ⟨mo, to, lo, cs⟩ s (by dsimp only; omega) (by dsimp only; omega) W ⟨_, rfl, h⟩)
    have HCo := Lib.hid (fun v W h => count_any v cs s (by omega) W h)
    obtain ⟨y, hy⟩ : ∃ y, y = gt cs s := ⟨_, rfl⟩
    dsimp only at HBo
    rw [← hy] at HBo HCo hgb
    have hwy : IntKind.i64.wrap (y + lo) = y + lo := by simp only [IntKind.wrap_i64]; omega
    clear hcl hsl hgd hq hsz hy hlo hgb q1 q2 q3
    with_reducible refine (HCl.out).mono ?_
    rintro e w2 ⟨⟨A2, c2, rfl, hv, _⟩, hb⟩
    replace HIL := Lib.hid (HIL.out.below hb)
    replace HB := Lib.hid (HB.out.trans (hb.mono HB.out.size))
    clear hb
    have HV := Lib.hid hv
    clear hv HCl
    obtain ⟨l2, hl2⟩ : ∃ l2, l2 = cs.length := ⟨_, rfl⟩
    rw [← hl2] at HV HBo ⊢
    have HL2 := Lib.hid hl2
    clear hl2
    obtain ⟨w3, hw3⟩ : ∃ w3, w3 = w2.alloc (.cells #[.int .i64 mo, .int .i64 to, .int .i64 lo, .slice A2 l2 c2] 24) := ⟨_, rfl⟩
    have hb : Below w2.heap.size w2 w3 := by rw [hw3]; exact (Below.refl _ _).alloc (Nat.le_refl _) _
    replace HIL := Lib.hid (HIL.out.below hb)
    replace HV := Lib.hid (HV.out.below hb)
    replace HB := Lib.hid (HB.out.trans (hb.mono HB.out.size))
    have HZs : Hid (w3.heap[w2.heap.size]? = some (.cells #[.int .i64 mo, .int .i64 to, .int .i64 lo, .slice A2 l2 c2] 24 (0, 0))) := Lib.hid (by rw [hw3]; exact Deep.blk_alloc_new _ _)
    have Hw3 := Lib.hid hw3
    clear hb hw3
    go_wp2_with fail
    try rw [← Hw3.out]
    with_reducible refine (HBo.out _ _ _ HV.out).mono ?_
    rintro e w4 ⟨rfl, hb⟩
    replace HIL := Lib.hid (HIL.out.below hb)
    replace HV := Lib.hid (HV.out.below hb)
    replace HZs := Lib.hid (blk_carry HZs.out hb)
    replace HB := Lib.hid (HB.out.trans (hb.mono HB.out.size))
    clear hb
    have hc := HZs.out
    have c2 := cell_of_row _ _ 2 _ _ _ hc
    have c3 := cell_of_row _ _ 3 _ _ _ hc
    simp at c2 c3
    clear hc
    go_wp2_with fail
    with_reducible refine (HCo.out _ _ HV.out).mono ?_
    rintro e w5 ⟨rfl, hb⟩
    replace HIL := Lib.hid (HIL.out.below hb)
    replace HV := Lib.hid (HV.out.below hb)
    replace HZs := Lib.hid (blk_carry HZs.out hb)
    replace HB := Lib.hid (HB.out.trans (hb.mono HB.out.size))
    clear hb
    clear c3
    have hd := HZs.out
    have d2 := cell_of_row _ _ 2 _ _ _ hd
    simp at d2
    clear hd
    go_wp2_with fail
    go_ret
    exact ⟨by first | rfl | simp, HB.out⟩
set_option maxRecDepth 100000 in
theorem lifted (os : Os) (started : os.Started) (H : Type) (enc : TypeId × Value → H) :
    ReturnsInHanded {} Try.checked os 9 .any (Rows.heavyhitterBoundsSpec.pre6 enc Try.prog Try.f9 Rows.heavyhitterBoundsRow.domain false) (Rows.heavyhitterBoundsSpec.post enc Try.prog Try.f9 false true false false) := by
  refine returnsInHanded_of_change (C := Try.checked) own started (by kernel_rfl) Try.func9
    (ChangeSpec.witness6 (enc := enc) (C := Try.checked) false ⟨#[], #[.int .u8 0, .slice none 0 0, .string ByteArray.empty], []⟩ 8 (by kernel_rfl) (by kernel_rfl) (by kernel_rfl) (by kernel_rfl)) ?_
  intro W base args ds gs before hval0 hW _ _
  have hval : ∀ (j : Nat) t v, Try.f9.params[j]? = some t → args[j]? = some v → Value.okWide Try.prog W .any base t v := hval0
  have hW' := hW
  obtain ⟨p, q, hA0, hV, rfl, _, _⟩ := hW
  have hA : DataW.TrodAll enc Try.prog W 0 (fun _ => true) true Try.f9.params.toList args.toList ds p := hA0
  rw [Try.params9] at hA hval
  obtain ⟨v0, vs0, d0, ds0, p0, q0, hargs0, rfl, rfl, h0, r0⟩ := trodAll_cons hA
  obtain ⟨v1, vs1, d1, ds1, p1, q1, hargs1, rfl, rfl, h1, r1⟩ := trodAll_cons r0
  obtain ⟨v2, vs2, d2, ds2, p2, q2, hargs2, rfl, rfl, h2, r2⟩ := trodAll_cons r1
  obtain ⟨rfl, rfl, rfl⟩ := trodAll_nil r2
  obtain rfl : args = #[v0, v1, v2] := by cases args; simp_all
  obtain ⟨rfl, rfl⟩ := trodVars_none hV
  obtain ⟨a0, rfl, rfl, rfl, wa0⟩ := open_int Try.underlying5 (hval 0 5 v0 rfl rfl) h0
  have lt1 : ∀ x ∈ p1, x.block < W.heap.size := fun x hx => hW'.lt x (by simp [hx])
  obtain ⟨A1, c1, L1, rfl, hL1, hc1, hn1, hs1, hR1⟩ := open_its (hval 1 34 v1 rfl rfl) h1 lt1
  obtain ⟨s2, rfl, rfl, rfl, ws2⟩ := Go.ChangeMaps.open_string Try.underlying9 (hval 2 9 v2 rfl rfl) h2
  clear hA0 hval0
  simp only [List.append_nil] at hW'
  refine (walk W a0 wa0 A1 c1 L1 hL1 hc1 hn1 hs1 hR1 s2 ws2).mono fun e W' ⟨he, hb⟩ => ?_
  subst he
  exact ⟨_, rfl, post_mem hW' hb (fun _ _ _ => trodAll_mk1 (shut_bool Try.underlying4 _)) (fun sp hsp => by
    have t := trodAll_cons_mk (shut_int Try.underlying5 wa0) (trodAll_cons_mk (carry laidOut (by kernel_rfl) (of_decide_eq_true (by kernel_rfl)) h1 hb lt1 sp (fun x hx => hsp x (by simp [hx]))) (trodAll_cons_mk (Go.ChangeMaps.shut_string Try.underlying9 ws2) trodAll_mk0))
    simp only [List.append_nil] at t
    exact t) (fun _ => rfl) (ok_one (by kernel_rfl) rfl (okWide_bool_mk Try.underlying4 _))⟩

theorem proved : Rows.HeavyhitterBoundsSaid :=
  OpenClaim.holds_of_wide 9 Try.f9 rfl rfl rfl rfl rfl rfl rfl ⟨rfl, rfl, rfl, rfl, rfl⟩ rfl rfl rfl rfl rfl (by kernel_rfl) Try.func9 (by kernel_rfl)
    (of_decide_eq_true (by kernel_rfl)) (by unfold Func.isWrapper; first | (rw [if_pos (by decide +kernel)]; kernel_rfl) | (rw [if_neg (by decide +kernel)]; exact ⟨rfl, rfl⟩))
    (fun os started H enc _ => lifted os started H enc)
end Go.Proofs.Ytdcfhnpnfamdaaa.lawBounds
