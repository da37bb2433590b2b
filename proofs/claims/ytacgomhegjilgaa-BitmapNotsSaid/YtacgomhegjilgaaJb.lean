/- Shift (written by wip/bin/gen_sf.py). -/
import Derived.Test.YtacgomhegjilgaaBr
import Derived.Test.YtacgomhegjilgaaBe
import Derived.Test.YtacgomhegjilgaaBv
import Derived.Test.YtacgomhegjilgaaJa
namespace Go.Proofs.Ytacgomhegjilgaa
open Go.ChangeShapes Go.WideShapes Go.ChangeAt Go.RowKit Ts

set_option maxRecDepth 100000 in
set_option maxHeartbeats 1000000 in
theorem shift_nil {v : Value} (d : Int) (w : World) (hv : Sl w v []) :
    Calls Try.prog 43 #[.agg #[v], .int .i64 d] w fun e w' => OutB w' e [] 0 ∧ Below w.heap.size w w' := by
  obtain ⟨A, c, rfl, _, _, _, _⟩ := hv
  go_enter Try.func43, Try.ntmps43
  go_wp2_with fail
  (try simp only [Exit.inBlock, Exit.then])
  refine bodyPost_ret (v := .tuple #[.agg #[.slice none 0 0], .int .i64 0]) ?_ rfl ⟨?_, ?_⟩
  · rw [results_cell_tmp1 rfl]; go_simp <;> rfl
  · exact ⟨_, rfl, sl_zero _⟩
  · (repeat' (first | exact Below.refl _ _ | refine Below.drew ?_ | refine Below.setCell ?_ (by simp <;> omega) _ | refine Below.alloc ?_ (by simp <;> omega) _))

set_option maxRecDepth 100000 in
set_option maxHeartbeats 4000000 in
theorem shift_bad {v : Value} {R : List Iv} (hl : R.length ≤ 90000) (hb : Rc R) (z : Nat) (hz : R.length = z + 1) (d : Int) (_hd : -9223372036854775808 ≤ d ∧ d ≤ 9223372036854775807)
    (hfit : ¬ ((0 ≤ (R[0]'(by omega)).1 + d) ∧ (R[z]'(by omega)).2 + d < 1048576)) (w : World) (hv : Sl w v R) :
    Calls Try.prog 43 #[.agg #[v], .int .i64 d] w fun e w' => OutB w' e [] 2 ∧ Below w.heap.size w w' := by
  obtain ⟨A, c, rfl, hc1, hc2, hA, hR⟩ := hv
  have hB2 : Below w.heap.size w ((w.alloc (.cells #[.slice A R.length c] 26)).alloc (.cells #[.slice none 0 0] 26)) := ((Below.refl _ _).alloc (Nat.le_refl _) _).alloc (by simp) _
  have hk1 : ((w.alloc (.cells #[.slice A R.length c] 26)).alloc (.cells #[.slice none 0 0] 26)).heap[w.heap.size]? = some (.cells #[.slice A R.length c] 26 (0, 0)) := blk_under w _ _
  have hk2 : ((w.alloc (.cells #[.slice A R.length c] 26)).alloc (.cells #[.slice none 0 0] 26)).heap[w.heap.size + 1]? = some (.cells #[.slice none 0 0] 26 (0, 0)) := blk_over w _ _
  have hzz : ((w.alloc (.cells #[.slice A R.length c] 26)).alloc (.cells #[.slice none 0 0] 26)).heap.size = w.heap.size + 2 := by simp
  obtain ⟨g, off, rfl, hg, d0, u0⟩ := iv_at (hR.below hB2) 0 (by omega)
  obtain ⟨g', off', e', u2, u1, d1⟩ := iv_at (hR.below hB2) z (by omega)
  obtain ⟨rfl, rfl⟩ : g = g' ∧ off = off' := by injection e' with e'; injection e' with e1 e2; exact ⟨e1, e2⟩
  obtain ⟨f, hf⟩ : ∃ f, f = (R[0]'(by omega)).1 := ⟨_, rfl⟩
  obtain ⟨l, hl2⟩ : ∃ l, l = (R[z]'(by omega)).2 := ⟨_, rfl⟩
  have hb0 := (hb _ (List.getElem_mem (show 0 < R.length by omega))).1
  have hb1 := (hb _ (List.getElem_mem (show z < R.length by omega))).2.1
  clear u0 u1 u2
  rw [← hf] at d0 hb0 hfit
  rw [← hl2] at d1 hb1 hfit
  rw [Nat.zero_mul, Nat.add_zero] at d0
  have HB2 := Lib.hid hB2
  have HK1 := Lib.hid hk1
  have HK2 := Lib.hid hk2
  have HR := Lib.hid hR
  have HRc := Lib.hid hb
  have HA := Lib.hid hA
  obtain ⟨n, hn⟩ : ∃ n, n = R.length := ⟨_, rfl⟩
  have HN := Lib.hid hn
  have hn9 : n ≤ 90000 := by omega
  have hn1 : (1 : Int) ≤ (n : Int) := by omega
  have hnz : ((n : Int) == 0) = false := by simp; omega
  have hwz : IntKind.i64.wrap ((n : Int) - 1) = (z : Int) := by simp only [IntKind.wrap_i64]; omega
  have hzn : (z : Int) < (n : Int) := by omega
  have hz0 : (0 : Int) ≤ (z : Int) := by omega
  have hwf : IntKind.i64.wrap (-f) = -f := by simp only [IntKind.wrap_i64]; omega
  have hwf2 : IntKind.i64.wrap (0 - f) = -f := by simp only [IntKind.wrap_i64]; omega
  have hwl : IntKind.i64.wrap (1048576 - l) = 1048576 - l := by simp only [IntKind.wrap_i64]; omega
  rw [← hn] at hk1 hk2 hzz HB2 HK1 HK2 d0 d1 ⊢
  have hc0 := cell_of_row _ w.heap.size 0 _ _ _ hk1
  clear hR hB2 hk1 hk2 hA hf hl2 hn hz hb e' hl hc1

  by_cases h1 : d < -f
  · go_enter Try.func43, Try.ntmps43
    go_wp2_with fail
    (try simp only [Exit.inBlock, Exit.then])
    refine bodyPost_ret (v := .tuple #[.agg #[.slice none 0 0], .int .i64 2]) ?_ rfl ⟨?_, ?_⟩
    · rw [results_cell_tmp1 rfl]; go_simp <;> rfl
    · exact ⟨_, rfl, sl_zero _⟩
    · (repeat' (first | exact HB2.out | refine Below.drew ?_ | refine Below.setCell ?_ (by simp <;> omega) _ | refine Below.alloc ?_ (by simp <;> omega) _))
  · have h2 : 1048576 - l ≤ d := by omega
    go_enter Try.func43, Try.ntmps43
    go_wp2_with fail
    (try simp only [Exit.inBlock, Exit.then])
    refine bodyPost_ret (v := .tuple #[.agg #[.slice none 0 0], .int .i64 2]) ?_ rfl ⟨?_, ?_⟩
    · rw [results_cell_tmp1 rfl]; go_simp <;> rfl
    · exact ⟨_, rfl, sl_zero _⟩
    · (repeat' (first | exact HB2.out | refine Below.drew ?_ | refine Below.setCell ?_ (by simp <;> omega) _ | refine Below.alloc ?_ (by simp <;> omega) _))
set_option maxRecDepth 100000 in
set_option maxHeartbeats 4000000 in
theorem shift_ok {v : Value} {R : List Iv} (hl : R.length ≤ 90000) (hb : Rc R) (z : Nat) (hz : R.length = z + 1) (d : Int) (hd : -9223372036854775808 ≤ d ∧ d ≤ 9223372036854775807)
    (hfit : (0 ≤ (R[0]'(by omega)).1 + d) ∧ (R[z]'(by omega)).2 + d < 1048576) (w : World) (hv : Sl w v R) :
    Calls Try.prog 43 #[.agg #[v], .int .i64 d] w fun e w' => OutB w' e (R.map (shI d)) 0 ∧ Below w.heap.size w w' := by
  obtain ⟨A, c, rfl, hc1, hc2, hA, hR⟩ := hv
  have hB2 : Below w.heap.size w ((w.alloc (.cells #[.slice A R.length c] 26)).alloc (.cells #[.slice none 0 0] 26)) := ((Below.refl _ _).alloc (Nat.le_refl _) _).alloc (by simp) _
  have hk1 : ((w.alloc (.cells #[.slice A R.length c] 26)).alloc (.cells #[.slice none 0 0] 26)).heap[w.heap.size]? = some (.cells #[.slice A R.length c] 26 (0, 0)) := blk_under w _ _
  have hk2 : ((w.alloc (.cells #[.slice A R.length c] 26)).alloc (.cells #[.slice none 0 0] 26)).heap[w.heap.size + 1]? = some (.cells #[.slice none 0 0] 26 (0, 0)) := blk_over w _ _
  have hzz : ((w.alloc (.cells #[.slice A R.length c] 26)).alloc (.cells #[.slice none 0 0] 26)).heap.size = w.heap.size + 2 := by simp
  obtain ⟨g, off, rfl, hg, d0, u0⟩ := iv_at (hR.below hB2) 0 (by omega)
  obtain ⟨g', off', e', u2, u1, d1⟩ := iv_at (hR.below hB2) z (by omega)
  obtain ⟨rfl, rfl⟩ : g = g' ∧ off = off' := by injection e' with e'; injection e' with e1 e2; exact ⟨e1, e2⟩
  obtain ⟨f, hf⟩ : ∃ f, f = (R[0]'(by omega)).1 := ⟨_, rfl⟩
  obtain ⟨l, hl2⟩ : ∃ l, l = (R[z]'(by omega)).2 := ⟨_, rfl⟩
  have hb0 := (hb _ (List.getElem_mem (show 0 < R.length by omega))).1
  have hb1 := (hb _ (List.getElem_mem (show z < R.length by omega))).2.1
  clear u0 u1 u2
  rw [← hf] at d0 hb0 hfit
  rw [← hl2] at d1 hb1 hfit
  rw [Nat.zero_mul, Nat.add_zero] at d0
  have HB2 := Lib.hid hB2
  have HK1 := Lib.hid hk1
  have HK2 := Lib.hid hk2
  have HR := Lib.hid hR
  have HRc := Lib.hid hb
  have HA := Lib.hid hA
  obtain ⟨n, hn⟩ : ∃ n, n = R.length := ⟨_, rfl⟩
  have HN := Lib.hid hn
  have hn9 : n ≤ 90000 := by omega
  have hn1 : (1 : Int) ≤ (n : Int) := by omega
  have hnz : ((n : Int) == 0) = false := by simp; omega
  have hwz : IntKind.i64.wrap ((n : Int) - 1) = (z : Int) := by simp only [IntKind.wrap_i64]; omega
  have hzn : (z : Int) < (n : Int) := by omega
  have hz0 : (0 : Int) ≤ (z : Int) := by omega
  have hwf : IntKind.i64.wrap (-f) = -f := by simp only [IntKind.wrap_i64]; omega
  have hwf2 : IntKind.i64.wrap (0 - f) = -f := by simp only [IntKind.wrap_i64]; omega
  have hwl : IntKind.i64.wrap (1048576 - l) = 1048576 - l := by simp only [IntKind.wrap_i64]; omega
  rw [← hn] at hk1 hk2 hzz HB2 HK1 HK2 d0 d1 ⊢
  have hc0 := cell_of_row _ w.heap.size 0 _ _ _ hk1
  clear hR hk1 hk2 hA hf hl2 hz hb e' hc1

  have HC := Lib.hid (clone_any (some ⟨g, off, none⟩) c R (by omega) (fun e => by cases e) _ ((HR.out.below hB2).more hB2.size))
  rw [← hn] at HC
  have h1 : ¬ d < -f := by omega
  have h2 : d < 1048576 - l := by omega
  clear hB2 hn hl
  go_enter Try.func43, Try.ntmps43
  go_wp2_with fail
  refine HC.out.mono ?_
  rintro e w1 ⟨⟨r, rfl, hown⟩, hb⟩
  obtain ⟨B, c3, rfl, hnc3, hRs3, hB3⟩ := rs_own hown
  obtain ⟨g3, rfl, hg3, hg4⟩ : ∃ g3, B = some ⟨g3, 0, none⟩ ∧ w.heap.size + 2 ≤ g3 ∧ g3 < w1.heap.size := by
    rcases hB3 with ⟨_, h, _⟩ | ⟨g', rfl, h1, h2⟩
    · omega
    · exact ⟨g', rfl, by rw [hzz] at h1; exact h1, h2⟩
  have HO := Lib.hid hown
  have HB3 := Lib.hid (HB2.out.trans (hb.mono HB2.out.size))
  have HK3 := Lib.hid ((hb.block (w.heap.size + 1) (by rw [hzz]; omega)).trans HK2.out)
  clear hown hb hRs3 hB3 hc0
  go_wp2_with fail
  go_loopw [41] (fun iv wr => ∃ j : Nat, j ≤ n ∧ iv = .int .i64 (j : Int) ∧ Hid (wr.ownsRow w.heap.size 39 2 (.slice (some ⟨g3, 0, none⟩) n c3) n (ivCells (mid d R j))) ∧ Hid (Below w.heap.size w wr) ∧ Hid (wr.heap[w.heap.size + 1]? = some (.cells #[.slice none 0 0] 26 (0, 0)))) (fun iv _ => n - (intOf iv).toNat)
  case atStart => exact ⟨0, Nat.zero_le _, rfl, Lib.hid (own_base HO.out (by rw [hzz]; omega)), HB3, HK3⟩
  case round =>
    obtain ⟨j, hj, rfl, HOj, HB, HK⟩ := hrel
    by_cases hlt : j < n
    · have hjR : j < R.length := by rw [← HN.out]; exact hlt
      have HS := Lib.hid (mid_set d R j hjR)
      obtain ⟨A5, c5, e5, _, hR5, _⟩ := rs_own HOj.out
      injection e5 with e5 _ e6
      subst e5 e6
      obtain ⟨g6, off6, e7, hg6, q0, q1⟩ := iv_at hR5 j (by rw [mid_len]; exact hjR)
      injection e7 with e7
      injection e7 with e7 e8
      subst e7 e8
      rw [mid_get d R j hjR] at q0 q1
      rw [Nat.zero_add] at q0 q1
      have hbx := HRc.out _ (List.getElem_mem hjR)
      have hfx := hfit
      obtain ⟨x, hx⟩ : ∃ x, x = R[j] := ⟨_, rfl⟩
      rw [← hx] at q0 q1 hbx HS
      clear hx hR5 hfx
      obtain ⟨x1, x2⟩ := x
      dsimp only at q0 q1 hbx HS
      have hf0 := HOj.out.frozenAt (j * 2)
      have hf1 := HOj.out.frozenAt (j * 2 + 1)
      have hjI : (j : Int) < (n : Int) := by omega
      have hj0 : (0 : Int) ≤ (j : Int) := by omega
      have hw1 : IntKind.i64.wrap ((j : Int) + 1) = (j : Int) + 1 := by simp only [IntKind.wrap_i64]; omega
      have hw2 : IntKind.i64.wrap (x1 + d) = x1 + d := by simp only [IntKind.wrap_i64]; omega
      have hw3 : IntKind.i64.wrap (x2 + d) = x2 + d := by simp only [IntKind.wrap_i64]; omega
      go_wp2_with fail
      go_roundw
      case rel =>
        have s1 := World.ownsRow.stored HOj.out (j * 2) (.int .i64 (x1 + d))
        have s2 := World.ownsRow.stored s1.1 (j * 2 + 1) (.int .i64 (x2 + d))
        have s3 := s2.1
        rw [HS.out] at s3
        have b1 := HB.out.setCell (p := ⟨g3, j * 2, none⟩) (by show w.heap.size ≤ g3; omega) (.int .i64 (x1 + d))
        have b2 := b1.setCell (p := ⟨g3, j * 2 + 1, none⟩) (by show w.heap.size ≤ g3; omega) (.int .i64 (x2 + d))
        refine ⟨j + 1, by omega, by go_num, Lib.hid s3, Lib.hid b2, Lib.hid ?_⟩
        exact (Below.heap_setCell _ ⟨g3, j * 2 + 1, none⟩ _ (w.heap.size + 1) (by show w.heap.size + 1 ≠ g3; omega)).trans ((Below.heap_setCell _ ⟨g3, j * 2, none⟩ _ (w.heap.size + 1) (by show w.heap.size + 1 ≠ g3; omega)).trans HK.out)
      case measure => simp [intOf] <;> omega
    · obtain rfl : j = n := by omega
      have hfr : wr.frozen? ⟨w.heap.size + 1, 0, none⟩ = false := by simp [World.frozen?, HK.out]
      have hcl : wr.cell? ⟨w.heap.size + 1, 0, none⟩ = some (.slice none 0 0) := by simp [World.cell?, HK.out]
      go_wp2_with fail
      (try simp only [Exit.inBlock, Exit.then])
      have hcl2 : (wr.setCell ⟨w.heap.size + 1, 0, none⟩ (.slice (some ⟨g3, 0, none⟩) j c3)).cell? ⟨w.heap.size + 1, 0, none⟩ = some (.slice (some ⟨g3, 0, none⟩) j c3) := by
        have hb2 := blk_set (off := 0) (.slice (some ⟨g3, 0, none⟩) j c3) HK.out
        simp [World.cell?, hb2]
      refine bodyPost_ret (v := .tuple #[.agg #[.slice (some ⟨g3, 0, none⟩) j c3], .int .i64 0]) ?_ rfl ⟨?_, ?_⟩
      · rw [results_cell_tmp1 rfl]; go_simp <;> rfl
      · refine ⟨_, rfl, ?_⟩
        have h := HOj.out.kept (grownBy_setCell' wr (w.heap.size + 1) (.slice (some ⟨g3, 0, none⟩) j c3)) (.inr (fun h => by simp [Value.ownBlock] at h; omega))
        have e : (R.map (shI d)).length = j := by rw [List.length_map]; exact HN.out.symm
        have e2 : mid d R j = R.map (shI d) := by rw [HN.out]; exact mid_all d R
        rw [e2] at h
        have := sl_own (L := R.map (shI d)) (by rw [e]; exact h)
        exact this
      · exact HB.out.setCell (p := ⟨w.heap.size + 1, 0, none⟩) (by show w.heap.size ≤ w.heap.size + 1; omega) _
theorem shL_bs {n : Nat} {N : List Iv} (h : Bs n N) {d : Int} (hf : Fits d N) : Bs n (shL d N) :=
  ⟨shL_nrm d h.nrm, by rw [shL_len]; exact h.len, fun k hk => (isR_iff k).2 (by have := hf (k - d) ((shL_in d k N).1 hk); omega)⟩
theorem shift_fit {v : Value} {N : List Iv} (hN : Bs 80000 N) {d : Int} (hd : -9223372036854775808 ≤ d ∧ d ≤ 9223372036854775807) (hf : Fits d N) (w : World) (hv : Sl w v (rn N)) :
    Calls Try.prog 43 #[.agg #[v], .int .i64 d] w fun e w' => OutB w' e (rn (shL d N)) 0 ∧ Below w.heap.size w w' := by
  have hl := hN.len
  have hll := rn_len N
  rw [shL_rn]
  cases hz : N.length with
  | zero =>
    obtain rfl := List.eq_nil_of_length_eq_zero hz
    exact shift_nil d w hv
  | succ z => exact shift_ok (by omega) (nrm_rn hN.nrm hN.row) z (by omega) d hd ((fits_iff d hN.nrm z hz).1 hf) w hv
theorem shift_out {v : Value} {N : List Iv} (hN : Bs 80000 N) {d : Int} (hd : -9223372036854775808 ≤ d ∧ d ≤ 9223372036854775807) (hf : ¬ Fits d N) (w : World) (hv : Sl w v (rn N)) :
    Calls Try.prog 43 #[.agg #[v], .int .i64 d] w fun e w' => OutB w' e [] 2 ∧ Below w.heap.size w w' := by
  have hl := hN.len
  have hll := rn_len N
  cases hz : N.length with
  | zero =>
    obtain rfl := List.eq_nil_of_length_eq_zero hz
    exact absurd (fun n h => absurd h In.nil) hf
  | succ z => exact shift_bad (by omega) (nrm_rn hN.nrm hN.row) z (by omega) d hd (fun h => hf ((fits_iff d hN.nrm z hz).2 h)) w hv
end Go.Proofs.Ytacgomhegjilgaa
