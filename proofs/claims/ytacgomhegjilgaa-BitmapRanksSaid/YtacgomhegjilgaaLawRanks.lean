/- The statement BitmapRanks: for any set and any number, the law returns true and changes nothing (written by wip/bin/gen_ranks.py). -/
import Derived.Test.YtacgomhegjilgaaHe
import Derived.Test.YtacgomhegjilgaaGg
namespace Go.Proofs.Ytacgomhegjilgaa.lawRanks
open Go.Proofs.Ytacgomhegjilgaa Go.ChangeShapes Go.WideShapes Go.ChangeAt Go.RowKit Go.Joins Ts

attribute [local go_sem ↓] Go.wp_at_zero Go.wp_at_succ
set_option maxRecDepth 100000 in
set_option maxHeartbeats 16000000 in
theorem walk (w : World) (b0 : Int) (hb0 : 0 ≤ b0 ∧ b0 ≤ 65535) (A0 : Option Addr) (c0 : Nat) (L0 : List Iv) (hL0 : L0.length ≤ 9223372036854775807) (hs0 : ∀ x ∈ L0, PrOk x) (hR0 : Rs w w.heap.size A0 (prCells L0)) (a1 : Int) (wa1 : (Lit.int .i64 a1).wf = true) :
    Calls Try.prog 6 #[.agg #[.int .u16 b0, .slice A0 L0.length c0], .int .i64 a1] w fun e w' => e = .returned (.bool true) ∧ Below w.heap.size w w' := by
  have hn := bd64 wa1
  clear wa1
  obtain ⟨hi0, hrw0, hln0⟩ := rowS_spec b0 hs0
  have CM0 := Lib.hid (fun W (g : Gb w W) => made_any b0 hb0 A0 c0 L0 hL0 hs0 W ((hR0.below g.out).more g.out.size))
  have CR0 := Lib.hid (fun W (g : Gb w W) => rows_any b0 hb0 A0 c0 L0 hL0 hs0 W ((hR0.below g.out).more g.out.size))
  obtain ⟨l0, hl0⟩ : ∃ l, l = rowS b0 L0 := ⟨_, rfl⟩
  rw [← hl0] at hi0 hrw0 hln0 CM0 CR0
  have hB0 : Bs 80000 (setL l0) := set_bs (by omega) hrw0
  have hm0 : ∀ n, n ∈ l0 ↔ In n (setL l0) := fun n => ((setL_spec l0).2 n).symm
  obtain ⟨M0, hM0⟩ : ∃ M, M = setL l0 := ⟨_, rfl⟩
  rw [← hM0] at hB0 hm0 CM0
  obtain ⟨R0, hRn0⟩ : ∃ R, R = rn M0 := ⟨_, rfl⟩
  rw [← hRn0] at CM0
  have HRn0 := Lib.hid hRn0
  have HRw0 := Lib.hid hrw0
  have HI0 := Lib.hid hi0
  have HBs0 := Lib.hid hB0
  have HM0 := Lib.hid hm0
  clear hR0 hl0 hM0 hRn0 hs0 hL0 hrw0 hi0 hB0 hm0
  go_enter Try.func6, Try.ntmps6
  go_wp2_with fail
  refine (known_any _).mono ?_
  rintro e w1 ⟨rfl, hb⟩
  have F1 : Fr (w.alloc (.cells #[.int .u16 b0, .slice A0 L0.length c0] 36)) w1 := ⟨hb⟩
  have G1 : Gb w w1 := Gb.call (Gb.alloc (Gb.refl w) _) F1
  have K0 : Bk1 (w.heap.size) (.cells #[.int .u16 b0, .slice A0 L0.length c0] 36 (0, 0)) w1 := Bk1.call ((Bk1.new (W := w) (by rfl) (fun v => Deep.blk_alloc_new v _) : Bk1 (w.heap.size) (.cells #[.int .u16 b0, .slice A0 L0.length c0] 36 (0, 0)) _)) F1
  have hk00 : w1.cell? ⟨w.heap.size, 0, none⟩ = some (.int .u16 b0) := cell_of_row w1 _ 0 _ _ _ K0.out
  have hk01 : w1.cell? ⟨w.heap.size, 1, none⟩ = some (.slice A0 L0.length c0) := cell_of_row w1 _ 1 _ _ _ K0.out
  have hz1 := F1.size1
  simp at hz1
  clear hb
  have HS : Hid (∀ W, Gb w1 W → W.cell? ⟨w.heap.size, 0, none⟩ = some (.int .u16 b0) ∧ W.cell? ⟨w.heap.size, 1, none⟩ = some (.slice A0 L0.length c0)) := Lib.hid (fun W g => by
    have f0 : W.heap[w.heap.size]? = some (.cells #[.int .u16 b0, .slice A0 L0.length c0] 36 (0, 0)) := (g.out.block _ (Array.getElem?_eq_some_iff.1 K0.out).1).trans K0.out
    exact ⟨cell_of_row W _ 0 _ _ _ f0, cell_of_row W _ 1 _ _ _ f0⟩)
  go_upto_region 3 with fail
  go_cut [5, 6] (fun s5 s6 wx => ∃ (X0 : Nat) (P0 : Option Addr) (p0 : Nat) (Q0 : Option Addr) (q0 : Nat), s5 = .pointer (some ⟨X0, 0, none⟩) ∧ s6 = .slice Q0 l0.length q0 ∧ Hid (Hold w [(X0, Obj.cells #[.slice P0 R0.length p0] 26 (0, 0))] [(.slice P0 R0.length p0, R0)] [(Q0, nC l0)] wx))
  case first =>
    go_region_held3 (fun W => W.cell? ⟨w.heap.size, 0, none⟩ = some (.int .u16 b0) ∧ W.cell? ⟨w.heap.size, 1, none⟩ = some (.slice A0 L0.length c0))
      (exact HS.out _ (by ((repeat (first | (with_reducible assumption) | (with_reducible exact Gb.refl _) | (with_reducible refine Gb.call ?_ (by with_reducible assumption)) | (with_reducible refine Gb.alloc ?_ _) | (with_reducible refine Gb.drew ?_) | (with_reducible refine Gb.setCell ?_ (by omega) _))); (first | done | fail))))
      ((first
        | (go_at_call 24; have := E0; refine (CR0.out _ (by ((repeat (first | (with_reducible assumption) | (with_reducible exact Gb.refl _) | (with_reducible refine Gb.call ?_ (by with_reducible assumption)) | (with_reducible refine Gb.alloc ?_ _) | (with_reducible refine Gb.drew ?_) | (with_reducible refine Gb.setCell ?_ (by omega) _))); (first | done | fail)))).mono ?_; rintro e v1 ⟨⟨y0, rfl, hown⟩, hb1⟩; have E1 : Fr _ v1 := ⟨hb1⟩; obtain ⟨Q0, q0, rfl, _, hro, _⟩ := rs_ownn hown; have U0 : Rt Q0 l0 v1 := ⟨hro⟩; have z1 := E1.size1; (try simp at z1); clear hb1 hown hro; (try (have kk : Bk1 (w1.heap.size) (.cells #[.slice none 0 0] 26 (0, 0)) v1 := (by ((repeat (first | (with_reducible assumption) | (with_reducible refine Bk1.call ?_ (by with_reducible assumption)) | (with_reducible refine Bk1.new ?_ (new_bm _); first | rfl | (simp; done)) | (with_reducible refine Bk1.old ?_ _) | (with_reducible refine Bk1.drew ?_) | (with_reducible refine Bk1.same ?_) | (with_reducible refine Bk1.other ?_ (by omega) _))); (first | done | fail))); have cc : v1.cell? ⟨w1.heap.size, 0, none⟩ = some (.slice none 0 0) := cell_of_row _ _ 0 _ _ _ kk.out; have ff : v1.frozen? ⟨w1.heap.size, 0, none⟩ = false := frozen_of_row _ _ _ _ _ kk.out; clear kk)); (try (have kk : Bk1 (v0.heap.size) (.cells #[.slice none 0 0] 26 (0, 0)) v1 := (by ((repeat (first | (with_reducible assumption) | (with_reducible refine Bk1.call ?_ (by with_reducible assumption)) | (with_reducible refine Bk1.new ?_ (new_bm _); first | rfl | (simp; done)) | (with_reducible refine Bk1.old ?_ _) | (with_reducible refine Bk1.drew ?_) | (with_reducible refine Bk1.same ?_) | (with_reducible refine Bk1.other ?_ (by omega) _))); (first | done | fail))); have cc : v1.cell? ⟨v0.heap.size, 0, none⟩ = some (.slice none 0 0) := cell_of_row _ _ 0 _ _ _ kk.out; have ff : v1.frozen? ⟨v0.heap.size, 0, none⟩ = false := frozen_of_row _ _ _ _ _ kk.out; clear kk)))
        | (go_at_call 22; refine (CM0.out _ (by ((repeat (first | (with_reducible assumption) | (with_reducible exact Gb.refl _) | (with_reducible refine Gb.call ?_ (by with_reducible assumption)) | (with_reducible refine Gb.alloc ?_ _) | (with_reducible refine Gb.drew ?_) | (with_reducible refine Gb.setCell ?_ (by omega) _))); (first | done | fail)))).mono ?_; rintro e v0 ⟨⟨r0, rfl, hr0⟩, hb0⟩; have E0 : Fr _ v0 := ⟨hb0⟩; have T0 : St r0 R0 v0 := ⟨hr0⟩; have z0 := E0.size1; obtain ⟨P0, p0, rfl, _, _, _, _⟩ := hr0; (try simp at z0); clear hb0; (try (have kk : Bk1 (w1.heap.size) (.cells #[.slice none 0 0] 26 (0, 0)) v0 := (by ((repeat (first | (with_reducible assumption) | (with_reducible refine Bk1.call ?_ (by with_reducible assumption)) | (with_reducible refine Bk1.new ?_ (new_bm _); first | rfl | (simp; done)) | (with_reducible refine Bk1.old ?_ _) | (with_reducible refine Bk1.drew ?_) | (with_reducible refine Bk1.same ?_) | (with_reducible refine Bk1.other ?_ (by omega) _))); (first | done | fail))); have cc : v0.cell? ⟨w1.heap.size, 0, none⟩ = some (.slice none 0 0) := cell_of_row _ _ 0 _ _ _ kk.out; have ff : v0.frozen? ⟨w1.heap.size, 0, none⟩ = false := frozen_of_row _ _ _ _ _ kk.out; clear kk)))
        | fail))
    all_goals
      go_wp2_with fail
      go_meet
      refine ⟨_, P0, p0, Q0, q0, rfl, rfl, Lib.hid ⟨(by ((repeat (first | (with_reducible assumption) | (with_reducible exact Gb.refl _) | (with_reducible refine Gb.call ?_ (by with_reducible assumption)) | (with_reducible refine Gb.alloc ?_ _) | (with_reducible refine Gb.drew ?_) | (with_reducible refine Gb.setCell ?_ (by omega) _))); (first | done | fail)) : Gb w _).out, ?_, ?_, ?_⟩⟩
      · intro p hp
        simp only [List.mem_cons, List.not_mem_nil, or_false] at hp
        subst hp
        all_goals dsimp only
        all_goals refine Bk1.out ?_
        all_goals ((repeat (first | (with_reducible assumption) | (with_reducible refine Bk1.call ?_ (by with_reducible assumption)) | (with_reducible refine Bk1.new ?_ (new_bm _); first | rfl | (simp; done)) | (with_reducible refine Bk1.old ?_ _) | (with_reducible refine Bk1.drew ?_) | (with_reducible refine Bk1.same ?_) | (with_reducible refine Bk1.other ?_ (by omega) _))); (first | done | fail))
      · intro p hp
        simp only [List.mem_cons, List.not_mem_nil, or_false] at hp
        subst hp
        all_goals dsimp only
        all_goals refine St.out ?_
        all_goals ((repeat (first | (with_reducible assumption) | (with_reducible refine St.call ?_ (by with_reducible assumption)) | (with_reducible refine St.alloc ?_ _) | (with_reducible refine St.drew ?_) | (with_reducible refine St.store ?_ (by ((repeat (first | (with_reducible assumption) | (with_reducible refine Bk1.call ?_ (by with_reducible assumption)) | (with_reducible refine Bk1.new ?_ (new_bm _); first | rfl | (simp; done)) | (with_reducible refine Bk1.old ?_ _) | (with_reducible refine Bk1.drew ?_) | (with_reducible refine Bk1.same ?_) | (with_reducible refine Bk1.other ?_ (by omega) _))); (first | done | fail))) _))); (first | done | fail))
      · intro p hp
        simp only [List.mem_cons, List.not_mem_nil, or_false] at hp
        subst hp
        all_goals dsimp only
        all_goals refine Rt.out ?_
        all_goals ((repeat (first | (with_reducible assumption) | (with_reducible refine Rt.call ?_ (by with_reducible assumption)) | (with_reducible refine Rt.alloc ?_ _) | (with_reducible refine Rt.drew ?_) | (with_reducible refine Rt.store ?_ (by ((repeat (first | (with_reducible assumption) | (with_reducible refine Bk1.call ?_ (by with_reducible assumption)) | (with_reducible refine Bk1.new ?_ (new_bm _); first | rfl | (simp; done)) | (with_reducible refine Bk1.old ?_ _) | (with_reducible refine Bk1.drew ?_) | (with_reducible refine Bk1.same ?_) | (with_reducible refine Bk1.other ?_ (by omega) _))); (first | done | fail))) _))); (first | done | fail))
  case rest =>
    obtain ⟨X0, P0, p0, Q0, q0, rfl, rfl, H2⟩ := hcut
    clear HS K0 hk00 hk01 F1 G1 CM0 CR0
    have hrows : rowsL R0 = l0 := by rw [HRn0.out]; exact rows_eq HBs0.out.nrm HI0.out HM0.out
    have hch : Chn R0 := by rw [HRn0.out]; exact nrm_chn HBs0.out.nrm
    have hrc : Rc R0 := by rw [HRn0.out]; exact bs_rc HBs0.out
    have hrl : R0.length ≤ 90000 := by rw [HRn0.out, rn_len]; have := HBs0.out.len; omega
    have hx1 : ∀ x ∈ R0, x.1 ≤ x.2 := hch.1
    obtain ⟨u, hu⟩ : ∃ u : Value, u = .slice P0 R0.length p0 := ⟨_, rfl⟩
    have CCon := Lib.hid (fun n W (h : Sl W u R0) => contains_sl hrl (chn_asc hch) n W h)
    have CRk := Lib.hid (fun n W (h : Sl W u R0) => rank_sl hrl (chn_asc hch) (rc_rb hrc) n W h)
    have CSel := Lib.hid (fun k hk W (h : Sl W u R0) => select_sl hrl hrc k hk W h)
    have HCn := Lib.hid (fun n => cns_rows hch n)
    have HRk := Lib.hid (fun n => rkr_rows hch n)
    have HSi : Hid (∀ (k : Nat) (hk : k < l0.length), selR (k : Int) R0 = (l0[k], true)) := Lib.hid (fun k hk => by rw [selR_in hx1 k (by rw [hrows]; exact hk)]; simp only [hrows])
    have HSo := Lib.hid (fun k hk => selR_out hx1 k hk)
    rw [hrows] at HCn HRk HSo
    simp only [HCn.out] at CCon
    simp only [HRk.out] at CRk
    rw [hu] at CCon CRk CSel
    clear hrows hch hrc hrl hx1 hu HCn HRk HRn0
    have HAt := Lib.hid (fun k (hk : k < l0.length) => rkN_at HI0.out k hk)
    rcases (by omega : (0 ≤ a1 ∧ a1 < (l0.length : Int)) ∨ a1 < 0 ∨ (0 ≤ a1 ∧ (l0.length : Int) ≤ a1)) with ha | ha | ha
    · skip
      obtain ⟨k, rfl⟩ : ∃ k : Nat, a1 = (k : Int) := ⟨a1.toNat, by omega⟩
      have hkl : k < l0.length := by omega
      have hk0 : (0 : Int) ≤ (k : Int) := by omega
      have hkI : (k : Int) < (l0.length : Int) := by omega
      have CS := Lib.hid (CSel.out (k : Int) (by omega) wc (H2.out.set _ (.head _)))
      rw [HSi.out k hkl] at CS
      obtain ⟨y, hy⟩ : ∃ y, y = l0[k] := ⟨_, rfl⟩
      rw [← hy] at CS
      have HY := Lib.hid hy
      clear hy
      have C4 := Lib.hid (fun W h => CCon.out (k : Int) W h)
      have C5 := Lib.hid (fun Q q W h => has_any Q q l0 (by omega) (k : Int) W h)
      obtain ⟨D, hD⟩ : ∃ D, D = decide ((k : Int) ∈ l0) := ⟨_, rfl⟩
      rw [← hD] at C4
      simp only [← hD] at C5
      have C6 := Lib.hid (fun W h => CRk.out (k : Int) W h)
      have C7 := Lib.hid (fun Q q W h => ref_rank Q q l0 (by omega) (k : Int) W h)
      obtain ⟨K, hK⟩ : ∃ K, K = rkN (k : Int) l0 := ⟨_, rfl⟩
      rw [← hK] at C6
      simp only [← hK] at C7
      clear hD hK
      have hDD : (D != D) = false := by cases D <;> rfl
      have hc := H2.out.cell (.head _) 0
      go_wp2_with fail
      refine CS.out.mono ?_
      rintro e w2 ⟨rfl, hb⟩
      have H3 := Lib.hid (H2.out.next hb)
      clear hb hc CS
      have hc := H3.out.cell (.head _) 0
      go_wp2_with fail
      refine (C4.out _ (H3.out.set _ (.head _))).mono ?_
      rintro e w3 ⟨rfl, hb⟩
      have H4 := Lib.hid (H3.out.next hb)
      clear hb hc
      go_wp2_with fail
      refine (C5.out Q0 q0 _ (H4.out.row _ (.head _))).mono ?_
      rintro e w4 ⟨rfl, hw⟩
      subst hw
      have hc := H4.out.cell (.head _) 0
      go_wp2_with fail
      refine (C6.out _ (H4.out.set _ (.head _))).mono ?_
      rintro e w5 ⟨rfl, hb⟩
      have H5 := Lib.hid (H4.out.next hb)
      clear hb hc
      go_wp2_with fail
      refine (C7.out Q0 q0 _ (H5.out.row _ (.head _))).mono ?_
      rintro e w6 ⟨rfl, hw⟩
      subst hw
      have H7 := H5
      obtain ⟨g, off, eg, hg, d0⟩ := num_at (H7.out.row _ (.head _)) k hkl
      subst eg
      rw [← HY.out] at d0
      go_wp2_with fail
      go_loopw [9] (fun iv wr => ∃ j : Nat, j ≤ l0.length ∧ iv = .int .i64 (j : Int) ∧ Hid (Hold w [(X0, Obj.cells #[.slice P0 R0.length p0] 26 (0, 0))] [(.slice P0 R0.length p0, R0)] [(some ⟨g, off, none⟩, nC l0)] wr)) (fun iv _ => l0.length - (intOf iv).toNat)
      case atStart => exact ⟨0, Nat.zero_le _, rfl, H7⟩
      case round =>
        obtain ⟨j, hj, rfl, HH⟩ := hrel
        have hc := HH.out.cell (.head _) 0
        by_cases hlt : j < l0.length
        · have hjl : (j : Int) < (l0.length : Int) := by omega
          have hj0 : (0 : Int) ≤ (j : Int) := by omega
          have hw1 : IntKind.i64.wrap ((j : Int) + 1) = (j : Int) + 1 := by simp only [IntKind.wrap_i64]; omega
          have C1 := Lib.hid (CSel.out (j : Int) (by omega) wr (HH.out.set _ (.head _)))
          rw [HSi.out j hlt] at C1
          have hAt := HAt.out j hlt
          have hMm : decide (l0[j] ∈ l0) = true := decide_eq_true (List.getElem_mem hlt)
          have C2 := Lib.hid (fun W h => CRk.out l0[j] W h)
          rw [hAt] at C2
          have C3 := Lib.hid (fun W h => CCon.out l0[j] W h)
          rw [hMm] at C3
          obtain ⟨x, hx⟩ : ∃ x, x = l0[j] := ⟨_, rfl⟩
          rw [← hx] at C1 C2 C3
          have HX := Lib.hid hx
          clear hx hAt hMm
          go_wp2_with fail
          refine C1.out.mono ?_
          rintro e v1 ⟨rfl, hb⟩
          have H8 := Lib.hid (HH.out.next hb)
          obtain ⟨g2, off2, eg, hg2, d0⟩ := num_at (H8.out.row _ (.head _)) j hlt
          simp only [Option.some.injEq, Addr.mk.injEq, and_true] at eg
          obtain ⟨rfl, rfl⟩ := eg
          rw [← HX.out] at d0
          clear hb hc
          have hc := H8.out.cell (.head _) 0
          go_wp2_with fail
          refine (C2.out _ (H8.out.set _ (.head _))).mono ?_
          rintro e v2 ⟨rfl, hb⟩
          have H9 := Lib.hid (H8.out.next hb)
          clear hb hc d0
          have hc := H9.out.cell (.head _) 0
          go_wp2_with fail
          refine (C3.out _ (H9.out.set _ (.head _))).mono ?_
          rintro e v3 ⟨rfl, hb⟩
          have H10 := Lib.hid (H9.out.next hb)
          clear hb hc
          go_wp2_with fail
          go_roundw
          case rel => exact ⟨j + 1, by omega, by go_num, H10⟩
          case measure => simp [intOf]; omega
        · obtain rfl : j = l0.length := by omega
          go_wp2_with fail
          go_ret
          exact ⟨rfl, HH.out.out⟩
    · skip
      have CS := Lib.hid (CSel.out a1 (by omega) wc (H2.out.set _ (.head _)))
      rw [HSo.out a1 (by omega)] at CS
      have C4 := Lib.hid (fun W h => CCon.out a1 W h)
      have C5 := Lib.hid (fun Q q W h => has_any Q q l0 (by omega) a1 W h)
      obtain ⟨D, hD⟩ : ∃ D, D = decide (a1 ∈ l0) := ⟨_, rfl⟩
      rw [← hD] at C4
      simp only [← hD] at C5
      have C6 := Lib.hid (fun W h => CRk.out a1 W h)
      have C7 := Lib.hid (fun Q q W h => ref_rank Q q l0 (by omega) a1 W h)
      obtain ⟨K, hK⟩ : ∃ K, K = rkN a1 l0 := ⟨_, rfl⟩
      rw [← hK] at C6
      simp only [← hK] at C7
      clear hD hK
      have hDD : (D != D) = false := by cases D <;> rfl
      have hc := H2.out.cell (.head _) 0
      go_wp2_with fail
      refine CS.out.mono ?_
      rintro e w2 ⟨rfl, hb⟩
      have H3 := Lib.hid (H2.out.next hb)
      clear hb hc CS
      have hc := H3.out.cell (.head _) 0
      go_wp2_with fail
      refine (C4.out _ (H3.out.set _ (.head _))).mono ?_
      rintro e w3 ⟨rfl, hb⟩
      have H4 := Lib.hid (H3.out.next hb)
      clear hb hc
      go_wp2_with fail
      refine (C5.out Q0 q0 _ (H4.out.row _ (.head _))).mono ?_
      rintro e w4 ⟨rfl, hw⟩
      subst hw
      have hc := H4.out.cell (.head _) 0
      go_wp2_with fail
      refine (C6.out _ (H4.out.set _ (.head _))).mono ?_
      rintro e w5 ⟨rfl, hb⟩
      have H5 := Lib.hid (H4.out.next hb)
      clear hb hc
      go_wp2_with fail
      refine (C7.out Q0 q0 _ (H5.out.row _ (.head _))).mono ?_
      rintro e w6 ⟨rfl, hw⟩
      subst hw
      have H7 := H5
      go_wp2_with fail
      go_loopw [9] (fun iv wr => ∃ j : Nat, j ≤ l0.length ∧ iv = .int .i64 (j : Int) ∧ Hid (Hold w [(X0, Obj.cells #[.slice P0 R0.length p0] 26 (0, 0))] [(.slice P0 R0.length p0, R0)] [(Q0, nC l0)] wr)) (fun iv _ => l0.length - (intOf iv).toNat)
      case atStart => exact ⟨0, Nat.zero_le _, rfl, H7⟩
      case round =>
        obtain ⟨j, hj, rfl, HH⟩ := hrel
        have hc := HH.out.cell (.head _) 0
        by_cases hlt : j < l0.length
        · have hjl : (j : Int) < (l0.length : Int) := by omega
          have hj0 : (0 : Int) ≤ (j : Int) := by omega
          have hw1 : IntKind.i64.wrap ((j : Int) + 1) = (j : Int) + 1 := by simp only [IntKind.wrap_i64]; omega
          have C1 := Lib.hid (CSel.out (j : Int) (by omega) wr (HH.out.set _ (.head _)))
          rw [HSi.out j hlt] at C1
          have hAt := HAt.out j hlt
          have hMm : decide (l0[j] ∈ l0) = true := decide_eq_true (List.getElem_mem hlt)
          have C2 := Lib.hid (fun W h => CRk.out l0[j] W h)
          rw [hAt] at C2
          have C3 := Lib.hid (fun W h => CCon.out l0[j] W h)
          rw [hMm] at C3
          obtain ⟨x, hx⟩ : ∃ x, x = l0[j] := ⟨_, rfl⟩
          rw [← hx] at C1 C2 C3
          have HX := Lib.hid hx
          clear hx hAt hMm
          go_wp2_with fail
          refine C1.out.mono ?_
          rintro e v1 ⟨rfl, hb⟩
          have H8 := Lib.hid (HH.out.next hb)
          obtain ⟨g, off, rfl, hg, d0⟩ := num_at (H8.out.row _ (.head _)) j hlt
          rw [← HX.out] at d0
          clear hb hc
          have hc := H8.out.cell (.head _) 0
          go_wp2_with fail
          refine (C2.out _ (H8.out.set _ (.head _))).mono ?_
          rintro e v2 ⟨rfl, hb⟩
          have H9 := Lib.hid (H8.out.next hb)
          clear hb hc d0
          have hc := H9.out.cell (.head _) 0
          go_wp2_with fail
          refine (C3.out _ (H9.out.set _ (.head _))).mono ?_
          rintro e v3 ⟨rfl, hb⟩
          have H10 := Lib.hid (H9.out.next hb)
          clear hb hc
          go_wp2_with fail
          go_roundw
          case rel => exact ⟨j + 1, by omega, by go_num, H10⟩
          case measure => simp [intOf]; omega
        · obtain rfl : j = l0.length := by omega
          go_wp2_with fail
          go_ret
          exact ⟨rfl, HH.out.out⟩
    · obtain ⟨ha0, ha1⟩ := ha
      have CS := Lib.hid (CSel.out a1 (by omega) wc (H2.out.set _ (.head _)))
      rw [HSo.out a1 (by omega)] at CS
      have C4 := Lib.hid (fun W h => CCon.out a1 W h)
      have C5 := Lib.hid (fun Q q W h => has_any Q q l0 (by omega) a1 W h)
      obtain ⟨D, hD⟩ : ∃ D, D = decide (a1 ∈ l0) := ⟨_, rfl⟩
      rw [← hD] at C4
      simp only [← hD] at C5
      have C6 := Lib.hid (fun W h => CRk.out a1 W h)
      have C7 := Lib.hid (fun Q q W h => ref_rank Q q l0 (by omega) a1 W h)
      obtain ⟨K, hK⟩ : ∃ K, K = rkN a1 l0 := ⟨_, rfl⟩
      rw [← hK] at C6
      simp only [← hK] at C7
      clear hD hK
      have hDD : (D != D) = false := by cases D <;> rfl
      have hc := H2.out.cell (.head _) 0
      go_wp2_with fail
      refine CS.out.mono ?_
      rintro e w2 ⟨rfl, hb⟩
      have H3 := Lib.hid (H2.out.next hb)
      clear hb hc CS
      have hc := H3.out.cell (.head _) 0
      go_wp2_with fail
      refine (C4.out _ (H3.out.set _ (.head _))).mono ?_
      rintro e w3 ⟨rfl, hb⟩
      have H4 := Lib.hid (H3.out.next hb)
      clear hb hc
      go_wp2_with fail
      refine (C5.out Q0 q0 _ (H4.out.row _ (.head _))).mono ?_
      rintro e w4 ⟨rfl, hw⟩
      subst hw
      have hc := H4.out.cell (.head _) 0
      go_wp2_with fail
      refine (C6.out _ (H4.out.set _ (.head _))).mono ?_
      rintro e w5 ⟨rfl, hb⟩
      have H5 := Lib.hid (H4.out.next hb)
      clear hb hc
      go_wp2_with fail
      refine (C7.out Q0 q0 _ (H5.out.row _ (.head _))).mono ?_
      rintro e w6 ⟨rfl, hw⟩
      subst hw
      have H7 := H5
      go_wp2_with fail
      go_loopw [9] (fun iv wr => ∃ j : Nat, j ≤ l0.length ∧ iv = .int .i64 (j : Int) ∧ Hid (Hold w [(X0, Obj.cells #[.slice P0 R0.length p0] 26 (0, 0))] [(.slice P0 R0.length p0, R0)] [(Q0, nC l0)] wr)) (fun iv _ => l0.length - (intOf iv).toNat)
      case atStart => exact ⟨0, Nat.zero_le _, rfl, H7⟩
      case round =>
        obtain ⟨j, hj, rfl, HH⟩ := hrel
        have hc := HH.out.cell (.head _) 0
        by_cases hlt : j < l0.length
        · have hjl : (j : Int) < (l0.length : Int) := by omega
          have hj0 : (0 : Int) ≤ (j : Int) := by omega
          have hw1 : IntKind.i64.wrap ((j : Int) + 1) = (j : Int) + 1 := by simp only [IntKind.wrap_i64]; omega
          have C1 := Lib.hid (CSel.out (j : Int) (by omega) wr (HH.out.set _ (.head _)))
          rw [HSi.out j hlt] at C1
          have hAt := HAt.out j hlt
          have hMm : decide (l0[j] ∈ l0) = true := decide_eq_true (List.getElem_mem hlt)
          have C2 := Lib.hid (fun W h => CRk.out l0[j] W h)
          rw [hAt] at C2
          have C3 := Lib.hid (fun W h => CCon.out l0[j] W h)
          rw [hMm] at C3
          obtain ⟨x, hx⟩ : ∃ x, x = l0[j] := ⟨_, rfl⟩
          rw [← hx] at C1 C2 C3
          have HX := Lib.hid hx
          clear hx hAt hMm
          go_wp2_with fail
          refine C1.out.mono ?_
          rintro e v1 ⟨rfl, hb⟩
          have H8 := Lib.hid (HH.out.next hb)
          obtain ⟨g, off, rfl, hg, d0⟩ := num_at (H8.out.row _ (.head _)) j hlt
          rw [← HX.out] at d0
          clear hb hc
          have hc := H8.out.cell (.head _) 0
          go_wp2_with fail
          refine (C2.out _ (H8.out.set _ (.head _))).mono ?_
          rintro e v2 ⟨rfl, hb⟩
          have H9 := Lib.hid (H8.out.next hb)
          clear hb hc d0
          have hc := H9.out.cell (.head _) 0
          go_wp2_with fail
          refine (C3.out _ (H9.out.set _ (.head _))).mono ?_
          rintro e v3 ⟨rfl, hb⟩
          have H10 := Lib.hid (H9.out.next hb)
          clear hb hc
          go_wp2_with fail
          go_roundw
          case rel => exact ⟨j + 1, by omega, by go_num, H10⟩
          case measure => simp [intOf]; omega
        · obtain rfl : j = l0.length := by omega
          go_wp2_with fail
          go_ret
          exact ⟨rfl, HH.out.out⟩
set_option maxRecDepth 100000 in
theorem lifted (os : Os) (started : os.Started) (H : Type) (enc : TypeId × Value → H) :
    ReturnsInHanded {} Try.checked os 6 .any (Rows.bitmapRanksSpec.pre6 enc Try.prog Try.f6 Rows.bitmapRanksRow.domain false) (Rows.bitmapRanksSpec.post enc Try.prog Try.f6 false true false false) := by
  refine returnsInHanded_of_change (C := Try.checked) own started (by kernel_rfl) Try.func6
    (ChangeSpec.witness6 (enc := enc) (C := Try.checked) false ⟨#[], #[.agg #[.int .u16 0, .slice none 0 0], .int .i64 0], []⟩ 8 (by kernel_rfl) (by kernel_rfl) (by kernel_rfl) (by kernel_rfl)) ?_
  intro W base args ds gs before hval0 hW _ _
  have hval : ∀ (j : Nat) t v, Try.f6.params[j]? = some t → args[j]? = some v → Value.okWide Try.prog W .any base t v := hval0
  have hW' := hW
  obtain ⟨p, q, hA0, hV, rfl, _, _⟩ := hW
  have hA : DataW.TrodAll enc Try.prog W 0 (fun _ => true) true Try.f6.params.toList args.toList ds p := hA0
  rw [Try.params6] at hA hval
  obtain ⟨v0, vs0, d0, ds0, p0, q0, hargs0, rfl, rfl, h0, r0⟩ := trodAll_cons hA
  obtain ⟨v1, vs1, d1, ds1, p1, q1, hargs1, rfl, rfl, h1, r1⟩ := trodAll_cons r0
  obtain ⟨rfl, rfl, rfl⟩ := trodAll_nil r1
  obtain rfl : args = #[v0, v1] := by cases args; simp_all
  obtain ⟨rfl, rfl⟩ := trodVars_none hV
  have lt0 : ∀ x ∈ p0, x.block < W.heap.size := fun x hx => hW'.lt x (by simp [hx])
  obtain ⟨b0, A0, c0, L0, rfl, hb0, hL0, hs0, hR0⟩ := open_set (hval 0 36 v0 rfl rfl) h0 lt0
  obtain ⟨a1, rfl, rfl, rfl, wa1⟩ := open_int Try.underlying3 (hval 1 3 v1 rfl rfl) h1
  clear hA0 hval0
  simp only [List.append_nil] at hW'
  refine (walk W b0 hb0 A0 c0 L0 hL0 hs0 hR0 a1 wa1).mono fun e W' ⟨he, hb⟩ => ?_
  subst he
  exact ⟨_, rfl, post_mem hW' hb (fun _ _ _ => trodAll_mk1 (shut_bool Try.underlying4 _)) (fun sp hsp => by
    have t := trodAll_cons_mk (carry laidOut (by kernel_rfl) (of_decide_eq_true (by kernel_rfl)) h0 hb lt0 sp (fun x hx => hsp x (by simp [hx]))) (trodAll_cons_mk (shut_int Try.underlying3 wa1) trodAll_mk0)
    simp only [List.append_nil] at t
    exact t) (fun _ => rfl) (ok_one (by kernel_rfl) rfl (okWide_bool_mk Try.underlying4 _))⟩

theorem proved : Rows.BitmapRanksSaid :=
  OpenClaim.holds_of_wide 6 Try.f6 rfl rfl rfl rfl rfl rfl rfl ⟨rfl, rfl, rfl, rfl, rfl⟩ rfl rfl rfl rfl rfl (by kernel_rfl) Try.func6 (by kernel_rfl)
    (of_decide_eq_true (by kernel_rfl)) (by unfold Func.isWrapper; first | (rw [if_pos (by decide +kernel)]; kernel_rfl) | (rw [if_neg (by decide +kernel)]; exact ⟨rfl, rfl⟩))
    (fun os started H enc _ => lifted os started H enc)

end Go.Proofs.Ytacgomhegjilgaa.lawRanks
