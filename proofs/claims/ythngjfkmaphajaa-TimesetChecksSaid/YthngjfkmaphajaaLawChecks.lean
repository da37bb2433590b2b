/- The statement TimesetChecks: for any intervals and any number, the law returns true and changes nothing (written by wip/bin/gen_chk.py). -/
import Derived.Test.YthngjfkmaphajaaFz
import Derived.Test.YthngjfkmaphajaaRow
namespace Go.Proofs.Ythngjfkmaphajaa
open Go.ChangeShapes Go.WideShapes Go.ChangeAt Go.RowKit Go.Joins Ts
set_option maxRecDepth 100000 in
/-- A slice of intervals that came in. -/
theorem open_ivs3 {H : Type} {enc : TypeId × Value → H} {W : World} {base : Nat} {v : Value} {d : DataW H} {p : List MemPlace} {r : Reach}
    (hv : Value.okWide Try.prog W r base 22 v) (h : DataW.Trod enc Try.prog W 0 (fun _ => true) true 22 v d p) (lt : ∀ x ∈ p, x.block < W.heap.size) :
    ∃ (A : Option Addr) (c : Nat) (L : List Iv), v = .slice A L.length c ∧ L.length ≤ 9223372036854775807 ∧ (∀ x ∈ L, IvOk x) ∧ Sl W (.slice A L.length c) L := by
  obtain ⟨A, c, L, rfl, h1, h2, h3⟩ := open_ivs hv h lt
  refine ⟨A, c, L, rfl, h1, h2, A, c, rfl, ?_⟩
  obtain ⟨fuel, hf⟩ := h
  rcases Deep.open_slice Try.underlying22 hf with ⟨e, _⟩ | ⟨a, n, c', m, n', D, Pl, e, _, hl, hm, _⟩
  · simp only [Value.cells, List.cons.injEq, Value.slice.injEq, and_true] at e
    obtain ⟨rfl, e2, rfl⟩ := e
    exact ⟨by omega, by omega, (fun _ => ⟨e2, rfl⟩), h3⟩
  · simp only [Value.cells, List.cons.injEq, Value.slice.injEq, and_true] at e
    obtain ⟨rfl, rfl, rfl⟩ := e
    unfold maxLen at hm
    exact ⟨hl, by omega, (fun h => by cases h), h3⟩
end Go.Proofs.Ythngjfkmaphajaa
namespace Go.Proofs.Ythngjfkmaphajaa.lawChecks
open Go.Proofs.Ythngjfkmaphajaa Go.ChangeShapes Go.WideShapes Go.ChangeAt Go.RowKit Go.Joins Ts

set_option maxRecDepth 100000 in
set_option maxHeartbeats 4000000 in
theorem walk (w : World) (A0 : Option Addr) (c0 : Nat) (L0 : List Iv) (_hL0 : L0.length ≤ 9223372036854775807) (_hs0 : ∀ x ∈ L0, IvOk x) (hR0 : Sl w (.slice A0 L0.length c0) L0) (a1 : Int) (wa1 : (Lit.int .u8 a1).wf = true) :
    Calls Try.prog 3 #[.slice A0 L0.length c0, .int .u8 a1] w fun e w' => e = .returned (.bool true) ∧ Below w.heap.size w w' := by
  obtain ⟨i0, hi0, hz0, hz1, hz2⟩ := info_parts info_iv
  have Hi0 := Lib.hid hi0
  have Hz0 := Lib.hid hz0
  have Hz1 := Lib.hid hz1
  have Hz2 := Lib.hid hz2
  have Sl0 := Lib.hid hR0
  have SlZ := Sl0
  have hb8 := bd8 wa1
  clear hR0 hi0 hz0 hz1 hz2 wa1
  by_cases h20 : L0.length ≤ 20
  · have h20' : ¬ (20 : Int) < (L0.length : Int) := by omega
    obtain ⟨r, hr⟩ : ∃ r, a1.tmod 3 = r := ⟨_, rfl⟩
    have hr1 : 0 ≤ r ∧ r < 3 := by rw [← hr, Int.tmod_eq_emod_of_nonneg hb8.1]; omega
    obtain ⟨n, hn⟩ : ∃ n : Nat, 4095 + r = (n : Int) := ⟨(4095 + r).toNat, by omega⟩
    have hn1 : n ≤ 4097 := by omega
    have hw1 : IntKind.i64.wrap r = r := by simp only [IntKind.wrap_i64]; omega
    have hw2 : IntKind.i64.wrap (n : Int) = (n : Int) := by simp only [IntKind.wrap_i64]; omega
    obtain ⟨k, hk⟩ : ∃ k, k = chkL none L0 := ⟨_, rfl⟩
    have HK := Lib.hid hk
    clear hr1 hk hb8
    go_enter Try.func3, Try.ntmps3
    go_wp2_with fail
    refine (known_any w).mono ?_
    rintro e w1 ⟨rfl, hb⟩
    have HB1 := Lib.hid hb
    have Sl1 := Lib.hid (Sl0.out.below hb)
    clear hb Sl0
    go_wp2_with (at_make; refine wpList_make_full _ rfl (.tmp 21) (.tmp 21) 22 rfl w1.heap.size 25 i0 _ 2 Try.underlying22 Hi0.out Hz0.out Hz1.out .i64 .i64 (n : Int) (n : Int) n rfl rfl rfl rfl (by rw [Hz2.out]; omega) (by unfold maxLen; omega) (Nat.le_refl _) ?_; intro w2 hown hg; have HO2 := Lib.hid hown; have HG2 := Lib.hid hg; clear hown hg)
    have hO2 := HO2.out
    rw [made_zero] at hO2
    have HB2 : Hid (Below w.heap.size w w2) := Lib.hid (HB1.out.trans (Below.mono (⟨HG2.out.os, HG2.out.tape, HG2.out.output, HG2.out.size, fun k hk => HG2.out.block k hk (by simp)⟩ : Below w1.heap.size w1 w2) HB1.out.size))
    have hwb : w.heap.size ≤ w1.heap.size := HB1.out.size
    have HO3 := Lib.hid hO2
    have Sl2 : Hid (Sl w2 (.slice A0 L0.length c0) L0) := Lib.hid (Sl1.out.below ⟨HG2.out.os, HG2.out.tape, HG2.out.output, HG2.out.size, fun k hk => HG2.out.block k hk (by simp)⟩)
    clear hO2 HO2 HG2 Sl1 HB1
    go_loopw [7] (fun iv wr => ∃ j : Nat, j ≤ n ∧ iv = .int .i64 (j : Int) ∧ Hid (wr.ownsRow w1.heap.size 25 2 (.slice (some ⟨w1.heap.size, 0, none⟩) n n) n (ivCells (fz n j))) ∧ Hid (Below w.heap.size w wr) ∧ Hid (Below w1.heap.size w2 wr)) (fun iv _ => n - (intOf iv).toNat)
    case atStart => exact ⟨0, Nat.zero_le _, rfl, HO3, HB2, Lib.hid (Below.refl _ _)⟩
    case round =>
      obtain ⟨j, hj, rfl, HO, HB, HBw⟩ := hrel
      by_cases hlt : j < n
      · obtain ⟨A', c', e, _, hRj, _⟩ := rs_own HO.out
        injection e with e1 e2 e3
        subst e1 e3
        obtain ⟨b, off, e, hbk, d0, d1⟩ := iv_at hRj j (by rw [fz_len]; exact hlt)
        simp only [Option.some.injEq, Addr.mk.injEq, and_true] at e
        obtain ⟨rfl, rfl⟩ := e
        have f0 := HO.out.frozenAt (j * 2)
        have f1 := HO.out.frozenAt (j * 2 + 1)
        rw [Nat.zero_add] at d0 d1
        obtain ⟨u0, hu0⟩ : ∃ u, u = ((fz n j)[j]'(by rw [fz_len]; exact hlt)).1 := ⟨_, rfl⟩
        obtain ⟨u1, hu1⟩ : ∃ u, u = ((fz n j)[j]'(by rw [fz_len]; exact hlt)).2 := ⟨_, rfl⟩
        rw [← hu0] at d0
        rw [← hu1] at d1
        have hjl : (j : Int) < (n : Int) := by omega
        have hj0 : (0 : Int) ≤ (j : Int) := by omega
        have hw3 : IntKind.i64.wrap (3 * (j : Int)) = 3 * (j : Int) := by simp only [IntKind.wrap_i64]; omega
        have hw4 : IntKind.i64.wrap (3 * (j : Int) + 2) = 3 * (j : Int) + 2 := by simp only [IntKind.wrap_i64]; omega
        have hw5 : IntKind.i64.wrap ((j : Int) + 1) = (j : Int) + 1 := by simp only [IntKind.wrap_i64]; omega
        clear hRj hu0 hu1 hr hn hw1 hw2 e2
        go_wp2_with fail
        go_roundw
        case rel =>
          have h1 := (HO.out.stored (j * 2) (.int .i64 (3 * (j : Int)))).1
          have h2 := (h1.stored (j * 2 + 1) (.int .i64 (3 * (j : Int) + 2))).1
          rw [iv_set2 _ j (by rw [fz_len]; exact hlt)] at h2
          exact ⟨j + 1, by omega, by go_num, Lib.hid h2, Lib.hid ((HB.out.setCell (p := ⟨w1.heap.size, j * 2, none⟩) hwb _).setCell (p := ⟨w1.heap.size, j * 2 + 1, none⟩) hwb _), Lib.hid ((HBw.out.setCell (p := ⟨w1.heap.size, j * 2, none⟩) (Nat.le_refl _) _).setCell (p := ⟨w1.heap.size, j * 2 + 1, none⟩) (Nat.le_refl _) _)⟩
        case measure => simp [intOf] <;> omega
      · obtain rfl : j = n := by omega
        rename_i j
        obtain ⟨F, hF⟩ : ∃ F, F = fz j j := ⟨_, rfl⟩
        have hFl : F.length = j := by rw [hF]; exact fz_len j j
        have hFc : chkL none F = 0 := by rw [hF]; exact fz_chk j (by omega)
        have SlF : Hid (Sl wr (.slice (some ⟨w1.heap.size, 0, none⟩) j j) F) := Lib.hid (by
          have h : wr.ownsRow w1.heap.size 25 2 (.slice (some ⟨w1.heap.size, 0, none⟩) F.length F.length) F.length (ivCells F) := by rw [hFl, hF]; exact HO.out
          have h2 := sl_own h
          rw [hFl] at h2
          exact h2)
        have SlL := Lib.hid (SlZ.out.below HB.out)
        have HFc := Lib.hid hFc
        have H1 := check_any (L := L0) (by omega) wr SlL.out
        rw [← HK.out] at H1
        have HH1 := Lib.hid H1
        clear hF hFc H1 HO HBw Sl2
        by_cases hn4 : j ≤ 4096
        · have hng : ¬ (4096 : Int) < (j : Int) := by omega
          go_wp2_with fail
          refine HH1.out.mono ?_
          rintro e w4 ⟨rfl, hb⟩
          have HB4 := Lib.hid (HB.out.trans (hb.mono HB.out.size))
          have SlF4 := Lib.hid (SlF.out.below hb)
          have H2 := ref_check (L := L0) (by omega) w4 (SlL.out.below hb)
          rw [← HK.out] at H2
          have HH2 := Lib.hid H2
          clear hb H2
          go_wp2_with fail
          refine HH2.out.mono ?_
          rintro e w5 ⟨rfl, hb⟩
          have HB5 := Lib.hid (HB4.out.trans (hb.mono HB4.out.size))
          have H3 := check_any (L := F) (by omega) w5 (SlF4.out.below hb)
          rw [HFc.out] at H3
          have HH3 := Lib.hid H3
          clear hb H3
          go_wp2_with fail
          refine HH3.out.mono ?_
          rintro e w6 ⟨rfl, hb⟩
          have HB6 := Lib.hid (HB5.out.trans (hb.mono HB5.out.size))
          clear hb
          go_wp2_with fail
          go_ret
          exact ⟨by simp, HB6.out⟩
        · have hng : (4096 : Int) < (j : Int) := by omega
          go_wp2_with fail
          refine HH1.out.mono ?_
          rintro e w4 ⟨rfl, hb⟩
          have HB4 := Lib.hid (HB.out.trans (hb.mono HB.out.size))
          have SlF4 := Lib.hid (SlF.out.below hb)
          have H2 := ref_check (L := L0) (by omega) w4 (SlL.out.below hb)
          rw [← HK.out] at H2
          have HH2 := Lib.hid H2
          clear hb H2
          go_wp2_with fail
          refine HH2.out.mono ?_
          rintro e w5 ⟨rfl, hb⟩
          have HB5 := Lib.hid (HB4.out.trans (hb.mono HB4.out.size))
          have HH3 := Lib.hid (check_long (L := F) (by omega) w5 (SlF4.out.below hb))
          clear hb
          go_wp2_with fail
          refine HH3.out.mono ?_
          rintro e w6 ⟨rfl, hb⟩
          have HB6 := Lib.hid (HB5.out.trans (hb.mono HB5.out.size))
          clear hb
          go_wp2_with fail
          go_ret
          exact ⟨by simp, HB6.out⟩
  · skip
    have h20' : (20 : Int) < (L0.length : Int) := by omega
    go_enter Try.func3, Try.ntmps3
    go_wp2_with fail
    refine (known_any w).mono ?_
    rintro e w1 ⟨rfl, hb⟩
    have HB1 := Lib.hid hb
    have Sl1 := Lib.hid (Sl0.out.below hb)
    clear hb Sl0
    go_wp2_with fail
    refine (known_any w1).mono ?_
    rintro e w2 ⟨rfl, hb⟩
    have HB2 := Lib.hid (HB1.out.trans (hb.mono HB1.out.size))
    have Sl2 := Lib.hid (Sl1.out.below hb)
    clear hb Sl1
    go_wp2_with fail
    go_ret
    exact ⟨rfl, HB2.out⟩

set_option maxRecDepth 100000 in
theorem lifted (os : Os) (started : os.Started) (H : Type) (enc : TypeId × Value → H) :
    ReturnsInHanded {} Try.checked os 3 .any (Rows.timesetChecksSpec.pre6 enc Try.prog Try.f3 Rows.timesetChecksRow.domain false) (Rows.timesetChecksSpec.post enc Try.prog Try.f3 false true false false) := by
  refine returnsInHanded_of_change (C := Try.checked) own started (by kernel_rfl) Try.func3
    (ChangeSpec.witness6 (enc := enc) (C := Try.checked) false ⟨#[], #[.slice none 0 0, .int .u8 0], []⟩ 8 (by kernel_rfl) (by kernel_rfl) (by kernel_rfl) (by kernel_rfl)) ?_
  intro W base args ds gs before hval0 hW _ _
  have hval : ∀ (j : Nat) t v, Try.f3.params[j]? = some t → args[j]? = some v → Value.okWide Try.prog W .any base t v := hval0
  have hW' := hW
  obtain ⟨p, q, hA0, hV, rfl, _, _⟩ := hW
  have hA : DataW.TrodAll enc Try.prog W 0 (fun _ => true) true Try.f3.params.toList args.toList ds p := hA0
  rw [Try.params3] at hA hval
  obtain ⟨v0, vs0, d0, ds0, p0, q0, hargs0, rfl, rfl, h0, r0⟩ := trodAll_cons hA
  obtain ⟨v1, vs1, d1, ds1, p1, q1, hargs1, rfl, rfl, h1, r1⟩ := trodAll_cons r0
  obtain ⟨rfl, rfl, rfl⟩ := trodAll_nil r1
  obtain rfl : args = #[v0, v1] := by cases args; simp_all
  obtain ⟨rfl, rfl⟩ := trodVars_none hV
  have lt0 : ∀ x ∈ p0, x.block < W.heap.size := fun x hx => hW'.lt x (by simp [hx])
  obtain ⟨A0, c0, L0, rfl, hL0, hs0, hR0⟩ := open_ivs3 (hval 0 22 v0 rfl rfl) h0 lt0
  obtain ⟨a1, rfl, rfl, rfl, wa1⟩ := open_int Try.underlying5 (hval 1 5 v1 rfl rfl) h1
  clear hA0 hval0
  simp only [List.append_nil] at hW'
  refine (walk W A0 c0 L0 hL0 hs0 hR0 a1 wa1).mono fun e W' ⟨he, hb⟩ => ?_
  subst he
  exact ⟨_, rfl, post_mem hW' hb (fun _ _ _ => trodAll_mk1 (shut_bool Try.underlying4 _)) (fun sp hsp => by
    have t := trodAll_cons_mk (carry laidOut (by kernel_rfl) (of_decide_eq_true (by kernel_rfl)) h0 hb lt0 sp (fun x hx => hsp x (by simp [hx]))) (trodAll_cons_mk (shut_int Try.underlying5 wa1) trodAll_mk0)
    simp only [List.append_nil] at t
    exact t) (fun _ => rfl) (ok_one (by kernel_rfl) rfl (okWide_bool_mk Try.underlying4 _))⟩

theorem proved : Rows.TimesetChecksSaid :=
  OpenClaim.holds_of_wide 3 Try.f3 rfl rfl rfl rfl rfl rfl rfl ⟨rfl, rfl, rfl, rfl, rfl⟩ rfl rfl rfl rfl rfl (by kernel_rfl) Try.func3 (by kernel_rfl)
    (of_decide_eq_true (by kernel_rfl)) (by unfold Func.isWrapper; first | (rw [if_pos (by decide +kernel)]; kernel_rfl) | (rw [if_neg (by decide +kernel)]; exact ⟨rfl, rfl⟩))
    (fun os started H enc _ => lifted os started H enc)
end Go.Proofs.Ythngjfkmaphajaa.lawChecks
