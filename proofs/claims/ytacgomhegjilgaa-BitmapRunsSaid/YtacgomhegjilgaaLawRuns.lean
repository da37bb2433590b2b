/- The statement BitmapRuns: for any runs and any set, the law returns true and changes nothing (written by wip/bin/gen_lruns.py). -/
import Derived.Test.YtacgomhegjilgaaGl
import Derived.Test.YtacgomhegjilgaaHe
import Derived.Test.YtacgomhegjilgaaGc
import Derived.Test.YtacgomhegjilgaaRow
namespace Go.Proofs.Ytacgomhegjilgaa.lawRuns
open Go.Proofs.Ytacgomhegjilgaa Go.ChangeShapes Go.WideShapes Go.ChangeAt Go.RowKit Go.Joins Ts

attribute [local go_sem] cast_not_neg
set_option maxRecDepth 100000 in
set_option maxHeartbeats 16000000 in
theorem walk (w : World) (A0 : Option Addr) (c0 : Nat) (L0 : List Iv) (hL0 : L0.length ≤ 9223372036854775807) (_hs0 : ∀ x ∈ L0, IvOk x) (hR0 : Rs w w.heap.size A0 (ivCells L0)) (b1 : Int) (hb1 : 0 ≤ b1 ∧ b1 ≤ 65535) (A1 : Option Addr) (c1 : Nat) (L1 : List Iv) (hL1 : L1.length ≤ 9223372036854775807) (hs1 : ∀ x ∈ L1, PrOk x) (hR1 : Rs w w.heap.size A1 (prCells L1)) :
    Calls Try.prog 4 #[.slice A0 L0.length c0, .agg #[.int .u16 b1, .slice A1 L1.length c1]] w fun e w' => e = .returned (.bool true) ∧ Below w.heap.size w w' := by
  by_cases hlen : L0.length ≤ 12
  · have hlI : ¬ (12 : Int) < (L0.length : Int) := by omega
    have hlI2 : (L0.length : Int) ≤ 12 := by omega
    have H0 := Lib.hid (((Hold.start w).addN hR0).addN hR1)
    obtain ⟨hi1, hrw1, hln1⟩ := rowS_spec b1 hs1
    have CM := Lib.hid (fun W h => made_any b1 hb1 A1 c1 L1 hL1 hs1 W h)
    have CR := Lib.hid (fun W h => rows_any b1 hb1 A1 c1 L1 hL1 hs1 W h)
    have hB := set_bs (l := rowS b1 L1) (by omega) hrw1
    have hbm : ∀ n, n ∈ rowS b1 L1 ↔ In n (setL (rowS b1 L1)) := fun n => ((setL_spec (rowS b1 L1)).2 n).symm
    have hok := bs_ok hB
    have hrl : (rn (setL (rowS b1 L1))).length ≤ 90000 := by rw [rn_len]; have := hB.len; omega
    have hll : (rowS b1 L1).length ≤ 80000 := by omega
    have CI := Lib.hid (fun A c v W (hv : Sl W v (rn (setL (rowS b1 L1)))) (hR : Rs W W.heap.size A (nC (rowS b1 L1))) => is_true (v := v) hB A c (rowS b1 L1) hll hi1 hbm W hv hR)
    obtain ⟨l1, hl1⟩ : ∃ l, l = rowS b1 L1 := ⟨_, rfl⟩
    rw [← hl1] at CM CR CI hok hrl
    obtain ⟨R, hRn⟩ : ∃ R, R = rn (setL l1) := ⟨_, rfl⟩
    rw [← hRn] at CM CI hok hrl
    have CRu := Lib.hid (fun v W (hv : Sl W v R) => runs_any (v := v) hrl W hv)
    have CFr := Lib.hid (fun A c W (h : Rs W W.heap.size A (ivCells R)) => fromRuns_any A c R hrl W h)
    rw [hok] at CFr
    have CF := Lib.hid (fun A c W (h : Rs W W.heap.size A (ivCells L0)) => fromRuns_any A c L0 (by omega) W h)
    have CK := Lib.hid (fun A c W (h : Rs W W.heap.size A (ivCells L0)) => checkRuns_any A c L0 (by omega) W h)
    have CL := Lib.hid (fun A c v W (hv : Sl W v L0) (h : Rs W W.heap.size A (ivCells L0)) => law_runs (v := v) (L := L0) (by omega) A c L0 (by omega) W hv h)
    rw [show decide (L0 = L0) = true from decide_eq_true rfl] at CL
    have CN := Lib.hid (fun v W (hv : Sl W v []) => len_any (v := v) (L := []) (by decide) (fun x hx => nomatch hx) W hv)
    rw [show cnt [] = 0 from rfl] at CN
    obtain ⟨F, hF⟩ : ∃ F, F = frE L0 := ⟨_, rfl⟩
    rw [← hF] at CF CK
    have HR := Lib.hid hR0
    obtain ⟨i0, hi0, hz0, hz1, hz2⟩ := info_parts info_two
    have Hi0 := Lib.hid hi0
    have Hz0 := Lib.hid hz0
    have Hz1 := Lib.hid hz1
    have Hz2 := Lib.hid hz2
    clear hF hl1 hRn hok hrl hll hB hbm hi1 hrw1 hln1 hR0 hR1 _hs0 hs1 hL1 hi0 hz0 hz1 hz2
    go_enter Try.func4, Try.ntmps4
    have H1 := Lib.hid (H0.out.alloc (.cells #[.int .u16 b1, .slice A1 L1.length c1] 36) (Deep.blk_alloc_new w _))
    go_wp2_with fail
    refine (known_any _).mono ?_
    rintro e w1 ⟨rfl, hb⟩
    have H2 := Lib.hid (H1.out.next hb)
    clear hb
    go_wp2_with fail
    go_loopw [5, 6] (fun u iv wr => ∃ j : Nat, j ≤ L0.length ∧ iv = .int .i64 (j : Int) ∧ Hid (wr.ownsRow w1.heap.size 40 2 u (L0.take j).length (ivCells (L0.take j))) ∧ Hid (Below w1.heap.size w1 wr)) (fun _ iv _ => L0.length - (intOf iv).toNat)
    case atStart => exact ⟨0, Nat.zero_le _, rfl, Lib.hid ⟨rfl, Or.inl ⟨rfl, rfl⟩⟩, Lib.hid (Below.refl _ _)⟩
    case round =>
      obtain ⟨j, hj, rfl, HO, HB⟩ := hrel
      by_cases hlt : j < L0.length
      · obtain ⟨g, off, rfl, hg, d0, d1⟩ := iv_at ((H2.out.next HB.out).row _ (.tail _ (.head _))) j hlt
        have HtS := Lib.hid (take_snoc L0 j hlt)
        obtain ⟨x, hx⟩ : ∃ x, x = L0[j] := ⟨_, rfl⟩
        rw [← hx] at d0 d1 HtS
        clear hx
        obtain ⟨x1, x2⟩ := x
        dsimp only at d0 d1 HtS
        have hjl : (j : Int) < (L0.length : Int) := by omega
        have hj0 : (0 : Int) ≤ (j : Int) := by omega
        have hw1 : IntKind.i64.wrap ((j : Int) + 1) = (j : Int) + 1 := by simp only [IntKind.wrap_i64]; omega
        have hlt5 : (L0.take j).length ≤ 12 := by rw [List.length_take]; omega
        have hbs := HB.out.size
        obtain ⟨A2, c2, rfl, _, _, _⟩ := rs_own HO.out
        go_wp2_with fail
        go_region_law (refine step_append_sized rfl (.tmp 26) (.tmp 38) 37 rfl w1.heap.size 40 i0 _ 2 16 Try.underlying37 Hi0.out Hz0.out Hz1.out Hz2.out rfl (by decide) (.slice A2 (L0.take j).length c2) (L0.take j).length (ivCells (L0.take j)) (by simp [Act.eval] <;> omega) (World.ownsRow.alloc HO.out _) (some ⟨wr.heap.size, 0, none⟩) 1 1 (by simp [Act.eval]) [.int .i64 x1, .int .i64 x2] rfl (fun h => by cases h) (cells_two (Deep.blk_alloc_new wr _)) (by simp [Value.oneCell']) (by omega) (by omega) (by simp; omega) ?_; intro v3 w4 hown3 hg3; have HB3 := Lib.hid (below_grownk (B := w1.heap.size) (a := w1) (Below.alloc (below_drewN HB.out _) (by exact hbs) _) (World.ownsRow.alloc HO.out _) hg3 (Nat.le_refl _) (Nat.le_refl _)); have HO3 := Lib.hid hown3; clear hown3 hg3)
        all_goals
          go_wp2_with fail
          go_roundw
          case rel => exact ⟨j + 1, by omega, by go_num, by rw [HtS.out]; exact Lib.hid (by rw [List.length_append, iv_snoc]; exact HO3.out), HB3⟩
          case measure => simp [intOf] <;> omega
      · obtain rfl : j = L0.length := by omega
        rw [List.take_length] at HO
        obtain ⟨A5, c5, rfl, _, hr5, _⟩ := rs_own HO.out
        have H3 := Lib.hid ((H2.out.next HB.out).addN hr5)
        clear hr5
        go_wp2_with fail
        refine (CF.out A0 c0 _ (H3.out.row _ (.tail _ (.tail _ (.head _))))).mono ?_
        rintro e v1 ⟨⟨r, rfl, hr⟩, hb⟩
        by_cases hF0 : F = 0
        · subst hF0
          rw [if_pos rfl] at hr
          have H4 := Lib.hid ((H3.out.next hb).addV hr)
          obtain ⟨D1, d1, rfl, _, _, _, _⟩ := hr
          clear hb
          have H5 := Lib.hid (H4.out.alloc (.cells #[.slice D1 L0.length d1] 26) (Deep.blk_alloc_new v1 _))
          go_wp2_with fail
          refine (CK.out A5 c5 _ (H5.out.row _ (.head _))).mono ?_
          rintro e v2 ⟨rfl, hb⟩
          have H6 := Lib.hid (H5.out.next hb)
          clear hb
          have hc0 := H6.out.cell (.head _) 0
          go_wp2_with fail
          refine (CL.out A5 c5 _ _ (H6.out.set _ (.head _)) (H6.out.row _ (.head _))).mono ?_
          rintro e v3 ⟨rfl, hb⟩
          have H7 := Lib.hid (H6.out.next hb)
          clear hb hc0
          have hs0 := H7.out.cell (.tail _ (.head _)) 0
          have hs1 := H7.out.cell (.tail _ (.head _)) 1
          go_wp2_with fail
          refine (CM.out _ (H7.out.row _ (.tail _ (.head _)))).mono ?_
          rintro e v4 ⟨⟨r2, rfl, hr2⟩, hb⟩
          have H8 := Lib.hid ((H7.out.next hb).addV hr2)
          obtain ⟨D2, d2, rfl, _, _, _, _⟩ := hr2
          clear hb hs0 hs1
          go_wp2_with fail
          refine (CRu.out _ _ (H8.out.set _ (.head _))).mono ?_
          rintro e v5 ⟨⟨r, rfl, hown⟩, hb⟩
          obtain ⟨D3, d3, rfl, _, hr3, _⟩ := rs_own hown
          have H9 := Lib.hid ((H8.out.next hb).addN hr3)
          clear hb hown hr3
          go_wp2_with fail
          refine (CFr.out D3 d3 _ (H9.out.row _ (.head _))).mono ?_
          rintro e v6 ⟨⟨r, rfl, hr4⟩, hb⟩
          rw [if_pos rfl] at hr4
          have H10 := Lib.hid ((H9.out.next hb).addV hr4)
          obtain ⟨D4, d4, rfl, _, _, _, _⟩ := hr4
          clear hb
          have H11 := Lib.hid (H10.out.alloc (.cells #[.slice D4 R.length d4] 26) (Deep.blk_alloc_new v6 _))
          go_wp2_with fail
          go_region_held3 (fun W => W.cell? ⟨w.heap.size, 0, none⟩ = some (.int .u16 b1) ∧ W.cell? ⟨w.heap.size, 1, none⟩ = some (.slice A1 L1.length c1) ∧ W.cell? ⟨v6.heap.size, 0, none⟩ = some (.slice D4 R.length d4))
            (first | exact ⟨HH2.out.cell (.tail _ (.tail _ (.head _))) 0, HH2.out.cell (.tail _ (.tail _ (.head _))) 1, HH2.out.cell (.head _) 0⟩ | exact ⟨HH1.out.cell (.tail _ (.tail _ (.head _))) 0, HH1.out.cell (.tail _ (.tail _ (.head _))) 1, HH1.out.cell (.head _) 0⟩ | exact ⟨H11.out.drew.cell (.tail _ (.tail _ (.head _))) 0, H11.out.drew.cell (.tail _ (.tail _ (.head _))) 1, H11.out.drew.cell (.head _) 0⟩ | assumption)
            ((first
              | (go_at_call 16; have := HH1; refine (CI.out _ _ _ _ (HH1.out.set _ (.head _)) (HH1.out.row _ (.head _))).mono ?_; rintro e v8 ⟨rfl, hb⟩; have HH2 := Lib.hid (HH1.out.next hb); clear hb)
              | (go_at_call 24; refine (CR.out _ (H11.out.drew.row _ (.tail _ (.tail _ (.head _))))).mono ?_; rintro e v7 ⟨⟨r, rfl, hown⟩, hb⟩; obtain ⟨D5, d5, rfl, _, hr5, _⟩ := rs_ownn hown; have HH1 := Lib.hid ((H11.out.drew.next hb).addN hr5); clear hb hown hr5)
              | fail))
          go_wp2_with fail
          go_ret
          exact ⟨by simp, HH2.out.out⟩
        · rw [if_neg hF0] at hr
          have H4 := Lib.hid ((H3.out.next hb).addV hr)
          obtain ⟨D1, d1, rfl, _, _, _, _⟩ := hr
          clear hb
          have H5 := Lib.hid (H4.out.alloc (.cells #[.slice D1 0 d1] 26) (Deep.blk_alloc_new v1 _))
          go_wp2_with fail
          refine (CK.out A5 c5 _ (H5.out.row _ (.head _))).mono ?_
          rintro e v2 ⟨rfl, hb⟩
          have H6 := Lib.hid (H5.out.next hb)
          clear hb
          have hc0 := H6.out.cell (.head _) 0
          have hFd : decide (F = 0) = false := decide_eq_false hF0
          go_wp2_with fail
          refine (CN.out _ _ (H6.out.set _ (.head _))).mono ?_
          rintro e v3 ⟨rfl, hb⟩
          have H7 := Lib.hid (H6.out.next hb)
          clear hb hc0
          have hs0 := H7.out.cell (.tail _ (.head _)) 0
          have hs1 := H7.out.cell (.tail _ (.head _)) 1
          go_wp2_with fail
          refine (CM.out _ (H7.out.row _ (.tail _ (.head _)))).mono ?_
          rintro e v4 ⟨⟨r2, rfl, hr2⟩, hb⟩
          have H8 := Lib.hid ((H7.out.next hb).addV hr2)
          obtain ⟨D2, d2, rfl, _, _, _, _⟩ := hr2
          clear hb hs0 hs1
          go_wp2_with fail
          refine (CRu.out _ _ (H8.out.set _ (.head _))).mono ?_
          rintro e v5 ⟨⟨r, rfl, hown⟩, hb⟩
          obtain ⟨D3, d3, rfl, _, hr3, _⟩ := rs_own hown
          have H9 := Lib.hid ((H8.out.next hb).addN hr3)
          clear hb hown hr3
          go_wp2_with fail
          refine (CFr.out D3 d3 _ (H9.out.row _ (.head _))).mono ?_
          rintro e v6 ⟨⟨r, rfl, hr4⟩, hb⟩
          rw [if_pos rfl] at hr4
          have H10 := Lib.hid ((H9.out.next hb).addV hr4)
          obtain ⟨D4, d4, rfl, _, _, _, _⟩ := hr4
          clear hb
          have H11 := Lib.hid (H10.out.alloc (.cells #[.slice D4 R.length d4] 26) (Deep.blk_alloc_new v6 _))
          go_wp2_with fail
          go_region_held3 (fun W => W.cell? ⟨w.heap.size, 0, none⟩ = some (.int .u16 b1) ∧ W.cell? ⟨w.heap.size, 1, none⟩ = some (.slice A1 L1.length c1) ∧ W.cell? ⟨v6.heap.size, 0, none⟩ = some (.slice D4 R.length d4))
            (first | exact ⟨HH2.out.cell (.tail _ (.tail _ (.head _))) 0, HH2.out.cell (.tail _ (.tail _ (.head _))) 1, HH2.out.cell (.head _) 0⟩ | exact ⟨HH1.out.cell (.tail _ (.tail _ (.head _))) 0, HH1.out.cell (.tail _ (.tail _ (.head _))) 1, HH1.out.cell (.head _) 0⟩ | exact ⟨H11.out.drew.cell (.tail _ (.tail _ (.head _))) 0, H11.out.drew.cell (.tail _ (.tail _ (.head _))) 1, H11.out.drew.cell (.head _) 0⟩ | assumption)
            ((first
              | (go_at_call 16; have := HH1; refine (CI.out _ _ _ _ (HH1.out.set _ (.head _)) (HH1.out.row _ (.head _))).mono ?_; rintro e v8 ⟨rfl, hb⟩; have HH2 := Lib.hid (HH1.out.next hb); clear hb)
              | (go_at_call 24; refine (CR.out _ (H11.out.drew.row _ (.tail _ (.tail _ (.head _))))).mono ?_; rintro e v7 ⟨⟨r, rfl, hown⟩, hb⟩; obtain ⟨D5, d5, rfl, _, hr5, _⟩ := rs_ownn hown; have HH1 := Lib.hid ((H11.out.drew.next hb).addN hr5); clear hb hown hr5)
              | fail))
          go_wp2_with fail
          go_ret
          exact ⟨by simp, HH2.out.out⟩
  · have hlI : (12 : Int) < (L0.length : Int) := by omega
    have H0 := Lib.hid (Hold.start w)
    go_enter Try.func4, Try.ntmps4
    have H1 := Lib.hid (H0.out.alloc (.cells #[.int .u16 b1, .slice A1 L1.length c1] 36) (Deep.blk_alloc_new w _))
    go_wp2_with fail
    refine (known_any _).mono ?_
    rintro e w1 ⟨rfl, hb⟩
    have H2 := Lib.hid (H1.out.next hb)
    clear hb
    go_wp2_with fail
    refine (known_any _).mono ?_
    rintro e w2 ⟨rfl, hb⟩
    have H3 := Lib.hid (H2.out.next hb)
    clear hb
    go_wp2_with fail
    go_ret
    exact ⟨rfl, H3.out.out⟩
set_option maxRecDepth 100000 in
theorem lifted (os : Os) (started : os.Started) (H : Type) (enc : TypeId × Value → H) :
    ReturnsInHanded {} Try.checked os 4 .any (Rows.bitmapRunsSpec.pre6 enc Try.prog Try.f4 Rows.bitmapRunsRow.domain false) (Rows.bitmapRunsSpec.post enc Try.prog Try.f4 false true false false) := by
  refine returnsInHanded_of_change (C := Try.checked) own started (by kernel_rfl) Try.func4
    (ChangeSpec.witness6 (enc := enc) (C := Try.checked) false ⟨#[], #[.slice none 0 0, .agg #[.int .u16 0, .slice none 0 0]], []⟩ 8 (by kernel_rfl) (by kernel_rfl) (by kernel_rfl) (by kernel_rfl)) ?_
  intro W base args ds gs before hval0 hW _ _
  have hval : ∀ (j : Nat) t v, Try.f4.params[j]? = some t → args[j]? = some v → Value.okWide Try.prog W .any base t v := hval0
  have hW' := hW
  obtain ⟨p, q, hA0, hV, rfl, _, _⟩ := hW
  have hA : DataW.TrodAll enc Try.prog W 0 (fun _ => true) true Try.f4.params.toList args.toList ds p := hA0
  rw [Try.params4] at hA hval
  obtain ⟨v0, vs0, d0, ds0, p0, q0, hargs0, rfl, rfl, h0, r0⟩ := trodAll_cons hA
  obtain ⟨v1, vs1, d1, ds1, p1, q1, hargs1, rfl, rfl, h1, r1⟩ := trodAll_cons r0
  obtain ⟨rfl, rfl, rfl⟩ := trodAll_nil r1
  obtain rfl : args = #[v0, v1] := by cases args; simp_all
  obtain ⟨rfl, rfl⟩ := trodVars_none hV
  have lt0 : ∀ x ∈ p0, x.block < W.heap.size := fun x hx => hW'.lt x (by simp [hx])
  obtain ⟨A0, c0, L0, rfl, hL0, hs0, hR0⟩ := open_runs (hval 0 24 v0 rfl rfl) h0 lt0
  have lt1 : ∀ x ∈ p1, x.block < W.heap.size := fun x hx => hW'.lt x (by simp [hx])
  obtain ⟨b1, A1, c1, L1, rfl, hb1, hL1, hs1, hR1⟩ := open_set (hval 1 36 v1 rfl rfl) h1 lt1
  clear hA0 hval0
  simp only [List.append_nil] at hW'
  refine (walk W A0 c0 L0 hL0 hs0 hR0 b1 hb1 A1 c1 L1 hL1 hs1 hR1).mono fun e W' ⟨he, hb⟩ => ?_
  subst he
  exact ⟨_, rfl, post_mem hW' hb (fun _ _ _ => trodAll_mk1 (shut_bool Try.underlying4 _)) (fun sp hsp => by
    have t := trodAll_cons_mk (carry laidOut (by kernel_rfl) (of_decide_eq_true (by kernel_rfl)) h0 hb lt0 sp (fun x hx => hsp x (by simp [hx]))) (trodAll_cons_mk (carry laidOut (by kernel_rfl) (of_decide_eq_true (by kernel_rfl)) h1 hb lt1 sp (fun x hx => hsp x (by simp [hx]))) trodAll_mk0)
    simp only [List.append_nil] at t
    exact t) (fun _ => rfl) (ok_one (by kernel_rfl) rfl (okWide_bool_mk Try.underlying4 _))⟩

theorem proved : Rows.BitmapRunsSaid :=
  OpenClaim.holds_of_wide 4 Try.f4 rfl rfl rfl rfl rfl rfl rfl ⟨rfl, rfl, rfl, rfl, rfl⟩ rfl rfl rfl rfl rfl (by kernel_rfl) Try.func4 (by kernel_rfl)
    (of_decide_eq_true (by kernel_rfl)) (by unfold Func.isWrapper; first | (rw [if_pos (by decide +kernel)]; kernel_rfl) | (rw [if_neg (by decide +kernel)]; exact ⟨rfl, rfl⟩))
    (fun os started H enc _ => lifted os started H enc)

end Go.Proofs.Ytacgomhegjilgaa.lawRuns
