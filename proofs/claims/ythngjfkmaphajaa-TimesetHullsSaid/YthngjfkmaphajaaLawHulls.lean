/- The statement TimesetHulls: for any spans, the law returns true and changes nothing. -/
import Derived.Test.YthngjfkmaphajaaHu
import Derived.Test.YthngjfkmaphajaaRow
import Derived.Deep.RegionWith
namespace Go.Proofs.Ythngjfkmaphajaa.lawHulls
open Go.Proofs.Ythngjfkmaphajaa Go.ChangeShapes Go.WideShapes Go.ChangeAt Go.RowKit Go.Joins Ts

set_option maxRecDepth 100000 in
set_option maxHeartbeats 4000000 in
theorem walk (w : World) (A0 : Option Addr) (c0 : Nat) (L0 : List (Int × Int)) (hL0 : L0.length ≤ 9223372036854775807) (hs0 : ∀ x ∈ L0, SpOk x) (hR0 : Rs w w.heap.size A0 (spCells L0)) :
    Calls Try.prog 10 #[.slice A0 L0.length c0] w fun e w' => e = .returned (.bool true) ∧ Below w.heap.size w w' := by
  have Hset := Lib.hid (set_sl L0 hs0 w A0 c0 hL0 hR0)
  have hok0 := st_ok L0 hs0
  obtain ⟨T, hT⟩ : ∃ T, T = stL L0 := ⟨_, rfl⟩
  rw [← hT] at Hset hok0
  have hok : Ok 1000 T := hok0.more (by omega)
  have hl : T.length ≤ 10 := hok0.len
  clear hR0 hs0 hT hok0
  cases T with
  | nil =>
    go_enter Try.func10, Try.ntmps10
    go_wp2_with fail
    refine Hset.out.mono ?_
    rintro e w1 ⟨⟨r, rfl, hr⟩, hb⟩
    have HB1 := Lib.hid hb
    have HS1 := Lib.hid hr
    clear hb hr
    go_wp2_with fail
    refine (hull_none w1 HS1.out).mono ?_
    rintro e w2 ⟨rfl, hb⟩
    have HB2 := Lib.hid (HB1.out.trans (hb.mono HB1.out.size))
    have HS2 := Lib.hid (HS1.out.below hb)
    have hA2 : Below w2.heap.size w2 (w2.alloc (.cells #[.int .i64 0, .int .i64 0] 25)) := (Below.refl _ _).alloc (Nat.le_refl _) _
    have HS2b := Lib.hid (HS2.out.below hA2)
    have HB2b := Lib.hid (HB2.out.trans (hA2.mono HB2.out.size))
    have c0' := cell_of_row (w2.alloc (.cells #[.int .i64 0, .int .i64 0] 25)) w2.heap.size 0 _ _ _ (Deep.blk_alloc_new w2 _)
    have c1' := cell_of_row (w2.alloc (.cells #[.int .i64 0, .int .i64 0] 25)) w2.heap.size 1 _ _ _ (Deep.blk_alloc_new w2 _)
    have HC0 := Lib.hid c0'
    have HC1 := Lib.hid c1'
    clear hb hA2 c0' c1'
    go_wp2_with fail
    refine (gaps_none _ HS2b.out).mono ?_
    rintro e w3 ⟨⟨r3, rfl, hr⟩, hb⟩
    have HB3 := Lib.hid (HB2b.out.trans (hb.mono HB2b.out.size))
    have HS3 := Lib.hid (HS2b.out.below hb)
    have HG3 := Lib.hid hr
    have d0 := (hb.cell (p := ⟨w2.heap.size, 0, none⟩) (by simp)).trans HC0.out
    have d1 := (hb.cell (p := ⟨w2.heap.size, 1, none⟩) (by simp)).trans HC1.out
    have hz3 := hb.size
    rw [World.size_alloc] at hz3
    clear hb hr
    go_wp2_with fail
    refine (known_any w3).mono ?_
    rintro e w4 ⟨rfl, hb⟩
    have HB4 := Lib.hid (HB3.out.trans (hb.mono HB3.out.size))
    have HS4 := Lib.hid (HS3.out.below hb)
    have HG4 := Lib.hid (HG3.out.below hb)
    have k0 := (hb.cell (p := ⟨w2.heap.size, 0, none⟩) (show w2.heap.size < w3.heap.size by omega)).trans d0
    have k1 := (hb.cell (p := ⟨w2.heap.size, 1, none⟩) (show w2.heap.size < w3.heap.size by omega)).trans d1
    have hz4 : w2.heap.size + 1 ≤ w4.heap.size := Nat.le_trans hz3 hb.size
    clear hb d0 d1 hz3
    go_wp2_with fail
    refine (ref_gaps (by simp) w4 HS4.out).mono ?_
    rintro e w5 ⟨⟨r5, rfl, hr⟩, hb⟩
    have HB5 := Lib.hid (HB4.out.trans (hb.mono HB4.out.size))
    have HS5 := Lib.hid (HS4.out.below hb)
    have HG5 := Lib.hid (HG4.out.below hb)
    have HR5 := Lib.hid hr
    have d0 := (hb.cell (p := ⟨w2.heap.size, 0, none⟩) (show w2.heap.size < w4.heap.size by omega)).trans k0
    have d1 := (hb.cell (p := ⟨w2.heap.size, 1, none⟩) (show w2.heap.size < w4.heap.size by omega)).trans k1
    have hz5 : w2.heap.size + 1 ≤ w5.heap.size := Nat.le_trans hz4 hb.size
    clear hb hr k0 k1 hz4
    have he := eq_sl (L := []) (M := gapsL []) (by simp) (by simp [gapsL]) w5 HG5.out HR5.out
    rw [show decide (([] : List Iv) = gapsL []) = true from rfl] at he
    have HE := Lib.hid he
    clear he
    go_wp2_with fail
    refine HE.out.mono ?_
    rintro e w6 ⟨rfl, hb⟩
    have HB6 := Lib.hid (HB5.out.trans (hb.mono HB5.out.size))
    obtain ⟨A, c, rfl, _, _, _, _⟩ := HS5.out
    have k0 := (hb.cell (p := ⟨w2.heap.size, 0, none⟩) (show w2.heap.size < w5.heap.size by omega)).trans d0
    have k1 := (hb.cell (p := ⟨w2.heap.size, 1, none⟩) (show w2.heap.size < w5.heap.size by omega)).trans d1
    simp at k0 k1
    clear hb d0 d1
    go_wp2_with fail
    go_ret
    exact ⟨rfl, HB6.out⟩
  | cons x L =>
    have hok0' := hok
    have e3 : hullL (x :: L) = (x.1, ((x :: L).getLast (by simp)).2) := rfl
    have HH : ∀ W v, Sl W v (x :: L) → _ := fun W v h => hull_some x L (by simp at hl; omega) W h
    have HGp : ∀ W v, Sl W v (x :: L) → _ := fun W v h => gaps_some x L hok W h
    have hge := gaps_eq hok
    have hgf := gaps_fill hok
    have hgo := but_ok (hull_ok hok) hok
    rw [hge] at HGp hgo
    have hgl := gapsL_len (x :: L)
    have hgok : Ok 1000 (gapsL (x :: L)) := ⟨hgo.nrm, by simp at hl hgl ⊢; omega, hgo.bd⟩
    have hcell : ∀ (W : World) (A : Option Addr), Rs W W.heap.size A (ivCells (x :: L)) → ∃ b off, A = some ⟨b, off, none⟩ ∧ b < W.heap.size ∧ W.cell? ⟨b, off, none⟩ = some (.int .i64 x.1) ∧ W.cell? ⟨b, off + L.length * 2 + 1, none⟩ = some (.int .i64 ((x :: L).getLast (by simp)).2) := fun W A hR => by
      obtain ⟨b, off, rfl, hb, h0, _⟩ := iv_at hR 0 (by simp)
      obtain ⟨b', off', e, _, _, h1⟩ := iv_at hR L.length (by simp)
      simp only [Option.some.injEq, Addr.mk.injEq, and_true] at e
      obtain ⟨rfl, rfl⟩ := e
      have e2 : (x :: L)[L.length]'(by simp) = (x :: L).getLast (by simp) := by rw [List.getLast_eq_getElem]; simp
      rw [e2] at h1
      refine ⟨b, off, rfl, hb, by simpa using h0, h1⟩
    obtain ⟨y, hy⟩ : ∃ y, y = ((x :: L).getLast (by simp)).2 := ⟨_, rfl⟩
    rw [← hy] at e3 hcell
    obtain ⟨x1, x2⟩ := x
    (try dsimp only at e3)
    (try dsimp only at hcell)
    rw [e3] at hgf
    simp only [e3] at HH HGp
    (try dsimp only at HH)
    (try dsimp only at HGp)
    obtain ⟨G, hG⟩ : ∃ G, G = gapsL ((x1, x2) :: L) := ⟨_, rfl⟩
    have HRG : ∀ W v, Sl W v ((x1, x2) :: L) → _ := fun W v h => ref_gaps (L := (x1, x2) :: L) (by simp at hl ⊢; omega) W h
    rw [← hG] at hgf HGp hgok HRG
    obtain ⟨T, hT⟩ : ∃ T, T = (x1, x2) :: L := ⟨_, rfl⟩
    have hTl : T.length = L.length + 1 := by rw [hT]; simp
    rw [← hT] at Hset hok hgf HH HGp HRG hcell
    have hkH := hull_ok hok0'
    have hwl : IntKind.i64.wrap ((L.length : Int) + 1 - 1) = (L.length : Int) := by simp only [IntKind.wrap_i64]; simp at hl; omega
    have hwl0 : IntKind.i64.wrap (L.length : Int) = (L.length : Int) := by simp only [IntKind.wrap_i64]; simp at hl; omega
    have hl0 : (0 : Int) ≤ (L.length : Int) := by omega
    have hl1 : (0 : Int) < (L.length : Int) + 1 := by omega
    have hl2 : (L.length : Int) < (L.length : Int) + 1 := by omega
    have HHH := Lib.hid HH
    have HHG := Lib.hid HGp
    have HHR := Lib.hid HRG
    have Hcell := Lib.hid hcell
    have Hgf := Lib.hid hgf
    have HTl := Lib.hid hTl
    clear hge hgo hgl e3 hy hG hT HH HGp HRG hcell hgf hkH hok0' hTl
    go_enter Try.func10, Try.ntmps10
    go_wp2_with fail
    refine Hset.out.mono ?_
    rintro e w1 ⟨⟨r, rfl, hr⟩, hb⟩
    have HB1 := Lib.hid hb
    have HS1 := Lib.hid hr
    clear hb hr
    go_wp2_with fail
    refine (HHH.out w1 _ HS1.out).mono ?_
    rintro e w2 ⟨rfl, hb⟩
    have HB2 := Lib.hid (HB1.out.trans (hb.mono HB1.out.size))
    have HS2 := Lib.hid (HS1.out.below hb)
    have hA2 : Below w2.heap.size w2 (w2.alloc (.cells #[.int .i64 x1, .int .i64 y] 25)) := (Below.refl _ _).alloc (Nat.le_refl _) _
    have HS2b := Lib.hid (HS2.out.below hA2)
    have HB2b := Lib.hid (HB2.out.trans (hA2.mono HB2.out.size))
    have HC0 := Lib.hid (cell_of_row (w2.alloc (.cells #[.int .i64 x1, .int .i64 y] 25)) w2.heap.size 0 _ _ _ (Deep.blk_alloc_new w2 _))
    have HC1 := Lib.hid (cell_of_row (w2.alloc (.cells #[.int .i64 x1, .int .i64 y] 25)) w2.heap.size 1 _ _ _ (Deep.blk_alloc_new w2 _))
    clear hb hA2
    go_wp2_with fail
    refine (HHG.out _ _ HS2b.out).mono ?_
    rintro e w3 ⟨⟨r3, rfl, hr⟩, hb⟩
    have HB3 := Lib.hid (HB2b.out.trans (hb.mono HB2b.out.size))
    have HS3 := Lib.hid (HS2b.out.below hb)
    have HG3 := Lib.hid hr
    have d0 := (hb.cell (p := ⟨w2.heap.size, 0, none⟩) (by simp)).trans HC0.out
    have d1 := (hb.cell (p := ⟨w2.heap.size, 1, none⟩) (by simp)).trans HC1.out
    have hz3 := hb.size
    rw [World.size_alloc] at hz3
    clear hb hr
    go_wp2_with fail
    refine (known_any w3).mono ?_
    rintro e w4 ⟨rfl, hb⟩
    have HB4 := Lib.hid (HB3.out.trans (hb.mono HB3.out.size))
    have HS4 := Lib.hid (HS3.out.below hb)
    have HG4 := Lib.hid (HG3.out.below hb)
    have k0 := (hb.cell (p := ⟨w2.heap.size, 0, none⟩) (show w2.heap.size < w3.heap.size by omega)).trans d0
    have k1 := (hb.cell (p := ⟨w2.heap.size, 1, none⟩) (show w2.heap.size < w3.heap.size by omega)).trans d1
    have hz4 : w2.heap.size + 1 ≤ w4.heap.size := Nat.le_trans hz3 hb.size
    clear hb d0 d1 hz3
    go_wp2_with fail
    refine (HHR.out w4 _ HS4.out).mono ?_
    rintro e w5 ⟨⟨r5, rfl, hr⟩, hb⟩
    have HB5 := Lib.hid (HB4.out.trans (hb.mono HB4.out.size))
    have HS5 := Lib.hid (HS4.out.below hb)
    have HG5 := Lib.hid (HG4.out.below hb)
    have HR5 := Lib.hid hr
    have d0 := (hb.cell (p := ⟨w2.heap.size, 0, none⟩) (show w2.heap.size < w4.heap.size by omega)).trans k0
    have d1 := (hb.cell (p := ⟨w2.heap.size, 1, none⟩) (show w2.heap.size < w4.heap.size by omega)).trans k1
    have hz5 : w2.heap.size + 1 ≤ w5.heap.size := Nat.le_trans hz4 hb.size
    clear hb hr k0 k1 hz4
    have he := eq_sl (L := G) (M := G) (by have := hgok.len; omega) (by have := hgok.len; omega) w5 HG5.out HR5.out
    rw [decide_eq_true rfl] at he
    have HE := Lib.hid he
    clear he
    go_wp2_with fail
    refine HE.out.mono ?_
    rintro e w6 ⟨rfl, hb⟩
    have HB6 := Lib.hid (HB5.out.trans (hb.mono HB5.out.size))
    have HS6 := Lib.hid (HS5.out.below hb)
    have HG6 := Lib.hid (HG5.out.below hb)
    have k0 := (hb.cell (p := ⟨w2.heap.size, 0, none⟩) (show w2.heap.size < w5.heap.size by omega)).trans d0
    have k1 := (hb.cell (p := ⟨w2.heap.size, 1, none⟩) (show w2.heap.size < w5.heap.size by omega)).trans d1
    have hz6 : w2.heap.size < w6.heap.size := by have := hb.size; omega
    simp at k0 k1
    have HU : Hid (∀ W, Below w6.heap.size w6 W → Calls Try.prog 20 #[r, r3] W fun e w' => (∃ q, e = .returned q ∧ Sl w' q [(x1, y)]) ∧ Below W.heap.size W w') := Lib.hid (fun W hW => by
      have h := union_sl hok hgok W (HS6.out.below hW) (HG6.out.below hW)
      rw [Hgf.out] at h
      exact h)
    obtain ⟨A, c, e, _, _, _, hR⟩ := HS6.out
    rw [HTl.out] at e
    subst e
    obtain ⟨b, off, rfl, hbk, s0, s1⟩ := Hcell.out w6 A hR
    clear hb d0 d1 hR hz5
    go_wp2_with fail
    go_region_with (first
      | (go_at_call 20; refine (HU.out _ (by (repeat' (first | exact Below.refl _ _ | refine Below.drew ?_ | refine Below.alloc ?_ (by simp) _)))).mono ?_; rintro e w7 ⟨⟨q, rfl, hq⟩, hb7⟩; have HQ := Lib.hid hq; have HB7 := Lib.hid hb7; have k0' := (hb7.cell (p := ⟨w2.heap.size, 0, none⟩) (by simp <;> omega)); have k1' := (hb7.cell (p := ⟨w2.heap.size, 1, none⟩) (by simp <;> omega)); simp [k0, k1] at k0' k1'; clear hq hb7)
      | (go_at_call 18; have hx : Below w6.heap.size w6 w7 := (Below.drew (Below.refl _ w6)).trans HB7.out; have he := eq_sl (L := [(x1, y)]) (M := [(x1, y)]) (by simp) (by simp) (w7.alloc (.cells (ivCells [(x1, y)]).toArray 25)) (HQ.out.below ((Below.refl _ _).alloc (Nat.le_refl _) _)) (sl_blk (L := [(x1, y)]) (by simp) (Deep.blk_alloc_new w7 (.cells (ivCells [(x1, y)]).toArray 25))); rw [decide_eq_true rfl] at he; refine he.mono ?_; rintro e w8 ⟨rfl, hb8⟩; have HB8 := Lib.hid (HB6.out.trans (((hx.trans (((Below.refl _ w7).alloc (Nat.le_refl _) (.cells (ivCells [(x1, y)]).toArray 25)).mono hx.size)).trans (hb8.mono (by have := hx.size; simp; omega))).mono HB6.out.size)); clear he hx hb8)
      | (go_at_call 18; have hx : Below w6.heap.size w6 w7 := (Below.drew ((Below.refl _ w6).alloc (Nat.le_refl _) (.cells (ivCells [(x1, y)]).toArray 25))).trans (HB7.out.mono (by simp)); have he := eq_sl (L := [(x1, y)]) (M := [(x1, y)]) (by simp) (by simp) w7 HQ.out (sl_blk (L := [(x1, y)]) (by simp) ((HB7.out.block w6.heap.size (by simp)).trans (Deep.blk_alloc_new w6 (.cells (ivCells [(x1, y)]).toArray 25)))); rw [decide_eq_true rfl] at he; refine he.mono ?_; rintro e w8 ⟨rfl, hb8⟩; have HB8 := Lib.hid (HB6.out.trans ((hx.trans (hb8.mono hx.size)).mono HB6.out.size)); clear he hx hb8))
    all_goals
      go_wp2_with fail
      go_ret
      exact ⟨rfl, HB8.out⟩

set_option maxRecDepth 100000 in
theorem lifted (os : Os) (started : os.Started) (H : Type) (enc : TypeId × Value → H) :
    ReturnsInHanded {} Try.checked os 10 .any (Rows.timesetHullsSpec.pre6 enc Try.prog Try.f10 Rows.timesetHullsRow.domain false) (Rows.timesetHullsSpec.post enc Try.prog Try.f10 false true false false) := by
  refine returnsInHanded_of_change (C := Try.checked) own started (by kernel_rfl) Try.func10
    (ChangeSpec.witness6 (enc := enc) (C := Try.checked) false ⟨#[], #[.slice none 0 0], []⟩ 8 (by kernel_rfl) (by kernel_rfl) (by kernel_rfl) (by kernel_rfl)) ?_
  intro W base args ds gs before hval0 hW _ _
  have hval : ∀ (j : Nat) t v, Try.f10.params[j]? = some t → args[j]? = some v → Value.okWide Try.prog W .any base t v := hval0
  have hW' := hW
  obtain ⟨p, q, hA0, hV, rfl, _, _⟩ := hW
  have hA : DataW.TrodAll enc Try.prog W 0 (fun _ => true) true Try.f10.params.toList args.toList ds p := hA0
  rw [Try.params10] at hA hval
  obtain ⟨v0, vs0, d0, ds0, p0, q0, hargs0, rfl, rfl, h0, r0⟩ := trodAll_cons hA
  obtain ⟨rfl, rfl, rfl⟩ := trodAll_nil r0
  obtain rfl : args = #[v0] := by cases args; simp_all
  obtain ⟨rfl, rfl⟩ := trodVars_none hV
  have lt0 : ∀ x ∈ p0, x.block < W.heap.size := fun x hx => hW'.lt x (by simp [hx])
  obtain ⟨A0, c0, L0, rfl, hL0, hs0, hR0⟩ := open_spns (hval 0 33 v0 rfl rfl) h0 lt0
  clear hA0 hval0
  simp only [List.append_nil] at hW'
  refine (walk W A0 c0 L0 hL0 hs0 hR0).mono fun e W' ⟨he, hb⟩ => ?_
  subst he
  exact ⟨_, rfl, post_mem hW' hb (fun _ _ _ => trodAll_mk1 (shut_bool Try.underlying4 _)) (fun sp hsp => by
    have t := trodAll_cons_mk (carry laidOut (by kernel_rfl) (of_decide_eq_true (by kernel_rfl)) h0 hb lt0 sp (fun x hx => hsp x (by simp [hx]))) trodAll_mk0
    simp only [List.append_nil] at t
    exact t) (fun _ => rfl) (ok_one (by kernel_rfl) rfl (okWide_bool_mk Try.underlying4 _))⟩

theorem proved : Rows.TimesetHullsSaid :=
  OpenClaim.holds_of_wide 10 Try.f10 rfl rfl rfl rfl rfl rfl rfl ⟨rfl, rfl, rfl, rfl, rfl⟩ rfl rfl rfl rfl rfl (by kernel_rfl) Try.func10 (by kernel_rfl)
    (of_decide_eq_true (by kernel_rfl)) (by unfold Func.isWrapper; first | (rw [if_pos (by decide +kernel)]; kernel_rfl) | (rw [if_neg (by decide +kernel)]; exact ⟨rfl, rfl⟩))
    (fun os started H enc _ => lifted os started H enc)
end Go.Proofs.Ythngjfkmaphajaa.lawHulls
