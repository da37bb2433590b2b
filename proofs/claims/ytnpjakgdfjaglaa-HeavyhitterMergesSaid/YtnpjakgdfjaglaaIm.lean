/- The law's merge (written by wip/bin/gen_im22.py). -/
import Derived.Test.YtnpjakgdfjaglaaHn
import Derived.Test.YtnpjakgdfjaglaaHj
namespace Go.Proofs.Ytnpjakgdfjaglaa
open Go.ChangeShapes Go.WideShapes Go.ChangeAt Go.RowKit Go.Joins

theorem flat_own {w : World} {base n c : Nat} {A : Option Addr} {xs : List Value} (h : w.ownsRow base 27 2 (.slice A n c) n xs) : Flat A := by
  obtain ⟨A', c', e, _, _, hA⟩ := rs_own h
  injection e with e1 _ _
  subst e1
  intro ad ea
  rcases hA with ⟨e, _⟩ | ⟨g, e, _⟩
  · rw [e] at ea; cases ea
  · rw [e] at ea; injection ea with ea; exact ⟨g, 0, ea.symm⟩
set_option maxRecDepth 100000 in
set_option maxHeartbeats 16000000 in
theorem lmerge_any (a b : Su) (f g : ByteArray → Int) (ha : Gd a f) (hb : Gd b g) (hm : a.mo = b.mo) (h1 : 1 ≤ a.mo ∧ a.mo ≤ 256) (hta : a.to ≤ 1000000) (htb : b.to ≤ 1000000) (v v' : Value) (w : World) (hv : SuV w v a) (hv' : SuV w v' b) :
    Calls Try.prog 28 #[v, v'] w fun e w' => (∃ u, e = .returned u ∧ SuV w' u (mgS a b)) ∧ Below w.heap.size w w' := by
  have sa := ha.small h1 hta
  have sb := hb.small (by rw [← hm]; exact h1) htb
  have za := sa.size
  have zb := sb.size
  have ma := sa.smb
  have mb := sb.smb
  have da := ha.sd
  have pa := ha.ps
  have db := hb.sd
  have pb := hb.ps
  obtain ⟨mo, tk, lo, cs⟩ := a
  obtain ⟨mo', tk', lo', cs'⟩ := b
  obtain ⟨ta0, ta1⟩ := sa.to
  obtain ⟨tb0, tb1⟩ := sb.to
  obtain ⟨la0, la1⟩ := sa.lo
  obtain ⟨lb0, lb1⟩ := sb.lo
  dsimp only at hm h1 hta htb za zb ma mb da pa db pb ta0 ta1 tb0 tb1 la0 la1 lb0 lb1
  subst hm
  obtain ⟨m, rfl⟩ := Int.eq_ofNat_of_zero_le (show 0 ≤ mo by omega)
  clear sa sb ha hb
  obtain ⟨u, rfl, A, c, rfl, hc1, hc2, hR⟩ := hv
  obtain ⟨u, rfl, A', c', rfl, hd1, hd2, hR'⟩ := hv'
  dsimp only at hR hR' hc1 hd1 ⊢
  have HMg : Hid (mgS ⟨(m : Int), tk, lo, cs⟩ ⟨(m : Int), tk', lo', cs'⟩ = if (m : Int) < (coC (cs ++ cs')).length then ⟨(m : Int), tk + tk', lo + lo' + rkN (coC (cs ++ cs')) m, loC (coC (cs ++ cs')) (rkN (coC (cs ++ cs')) m)⟩ else ⟨(m : Int), tk + tk', lo + lo', coC (cs ++ cs')⟩) := Lib.hid rfl
  obtain ⟨Z, hZ⟩ : ∃ Z, Z = mgS ⟨(m : Int), tk, lo, cs⟩ ⟨(m : Int), tk', lo', cs'⟩ := ⟨_, rfl⟩
  rw [← hZ] at HMg ⊢
  have HF : Hid ((coC (cs ++ cs')).length ≤ 512 ∧ (∀ p ∈ coC (cs ++ cs'), 0 ≤ p.2 ∧ p.2 ≤ 1152921504606846976) ∧ ∀ (_ : m < (coC (cs ++ cs')).length), ∃ h2 : m < (topL (coC (cs ++ cs'))).length, (topL (coC (cs ++ cs')))[m].2 = rkN (coC (cs ++ cs')) m ∧ 0 ≤ rkN (coC (cs ++ cs')) m ∧ rkN (coC (cs ++ cs')) m ≤ 2000000) := Lib.hid (by
    have hP := ps_two da db pa pb
    have hlc := len_coC (cs ++ cs')
    rw [List.length_append] at hlc
    have hsm : sm (coC (cs ++ cs')) = sm cs + sm cs' := by rw [sm_coC, sm_append]
    have hb : ∀ p ∈ coC (cs ++ cs'), 1 ≤ p.2 ∧ p.2 ≤ 2000000 := fun p hp => ⟨hP p hp, by have := mem_sm hP.nn hp; omega⟩
    refine ⟨by omega, fun p hp => by have := hb p hp; omega, fun h => ?_⟩
    have h2 : m < (topL (coC (cs ++ cs'))).length := by rw [top_len]; exact h
    have e := rkN_at (top_rkd (coC (cs ++ cs'))) m h2
    have h3 := hb _ ((top_rkd (coC (cs ++ cs'))).1.mem_iff.1 (List.getElem_mem h2))
    rw [e] at h3
    exact ⟨h2, e, by omega, by omega⟩)
  obtain ⟨N, hN⟩ : ∃ N : Nat → List Ct, N = fun j => coC (cs ++ cs'.take j) := ⟨_, rfl⟩
  have HN0 : Hid (N 0 = cs) := Lib.hid (by subst hN; show coC (cs ++ cs'.take 0) = cs; rw [List.take_zero, List.append_nil]; exact coC_sd da)
  have HNs : Hid (∀ j (h : j < cs'.length), N (j + 1) = adC (N j) cs'[j].1 cs'[j].2) := Lib.hid (by
    subst hN; intro j h
    show coC (cs ++ cs'.take (j + 1)) = _
    rw [List.take_succ_eq_append_getElem h, ← List.append_assoc, coC_snoc])
  have HNl : Hid (∀ j, (N j).length ≤ 512) := Lib.hid (by
    subst hN; intro j
    have h := len_coC (cs ++ cs'.take j)
    rw [List.length_append, List.length_take] at h
    show (coC (cs ++ cs'.take j)).length ≤ 512
    omega)
  have HNd : Hid (∀ j, Sd (N j)) := Lib.hid (by subst hN; exact fun j => sd_coC _)
  have HNb : Hid (∀ j k, 0 ≤ gt (N j) k ∧ gt (N j) k ≤ 2000000) := Lib.hid (by
    subst hN; intro j k
    have hn : Nn (cs ++ cs'.take j) := fun p hp => by
      rcases List.mem_append.1 hp with h | h
      · exact pa.nn p h
      · exact pb.nn p (List.mem_of_mem_take h)
    have h := gt_sm (nn_coC hn) k
    have h2 := sm_take pb.nn j
    rw [sm_coC, sm_append] at h
    show 0 ≤ gt (coC (cs ++ cs'.take j)) k ∧ gt (coC (cs ++ cs'.take j)) k ≤ 2000000
    exact ⟨h.1, by have := h.2; omega⟩)
  have HNe : Hid (N cs'.length = coC (cs ++ cs')) := Lib.hid (by subst hN; show coC (cs ++ cs'.take cs'.length) = _; rw [List.take_length])
  have HPb : Hid (∀ p ∈ cs', 1 ≤ p.2 ∧ p.2 ≤ 1000000) := Lib.hid (fun p hp => ⟨pb p hp, by have := mem_sm pb.nn hp; omega⟩)
  have HR2 := Lib.hid hR'
  have HR1 := Lib.hid hR
  obtain ⟨tt, htt⟩ : ∃ tt, tt = tk + tk' := ⟨_, rfl⟩
  obtain ⟨ll, hll⟩ : ∃ ll, ll = lo + lo' := ⟨_, rfl⟩
  rw [← htt, ← hll] at HMg
  have hwt : IntKind.i64.wrap (tk + tk') = tt := by rw [htt]; simp only [IntKind.wrap_i64]; omega
  have hwl : IntKind.i64.wrap (lo + lo') = ll := by rw [hll]; simp only [IntKind.wrap_i64]; omega
  have hlb : 0 ≤ ll ∧ ll ≤ 2000000 := by omega
  have HLl := Lib.hid hlb
  have HSb : Hid ((Try.prog.info? 24).map (fun i => i.size) = some 4) := Lib.hid (by kernel_rfl)
  obtain ⟨ln, hln⟩ : ∃ ln, ln = cs.length := ⟨_, rfl⟩
  obtain ⟨lm, hlm⟩ : ∃ lm, lm = cs'.length := ⟨_, rfl⟩
  have HLn := Lib.hid hln
  have HLm := Lib.hid hlm
  rw [← hlm] at HNe zb
  rw [← hln] at za
  have HNs : Hid (∀ j (h : j < lm), ∃ h2 : j < cs'.length, N (j + 1) = adC (N j) cs'[j].1 cs'[j].2) := Lib.hid (fun j h => by subst hlm; exact ⟨h, HNs.out j h⟩)
  rw [← hln] at hc1 ⊢
  rw [← hlm] at hd1 ⊢
  have HC1 := Lib.hid hc1
  have HC2 := Lib.hid hc2
  obtain ⟨W0, hW0⟩ : ∃ W0 : World, W0 = ((w.alloc (.cells #[.int .i64 (m : Int), .int .i64 tk, .int .i64 lo, .slice A ln c] 24)).alloc (.cells #[.int .i64 (m : Int), .int .i64 tk', .int .i64 lo', .slice A' lm c'] 24)).alloc (.cells #[.int .i64 0, .int .i64 0, .int .i64 0, .slice none 0 0] 24) := ⟨_, rfl⟩
  have hz0 : W0.heap.size = w.heap.size + 3 := by rw [hW0]; simp
  have HB0 : Hid (Below w.heap.size w W0) := Lib.hid (by rw [hW0]; exact (((Below.refl _ _).alloc (Nat.le_refl _) _).alloc (by simp) _).alloc (by simp <;> omega) _)
  have HG0 : Hid (W0.heap[w.heap.size]? = some (.cells #[.int .i64 (m : Int), .int .i64 tk, .int .i64 lo, .slice A ln c] 24 (0, 0))) := Lib.hid (by rw [hW0, Below.heap_alloc _ _ _ (by simp <;> omega)]; exact blk_under _ _ _)
  have HG1 : Hid (W0.heap[w.heap.size + 1]? = some (.cells #[.int .i64 (m : Int), .int .i64 tk', .int .i64 lo', .slice A' lm c'] 24 (0, 0))) := Lib.hid (by rw [hW0, Below.heap_alloc _ _ _ (by simp)]; exact blk_over _ _ _)
  have HG2 : Hid (W0.heap[w.heap.size + 1 + 1]? = some (.cells #[.int .i64 0, .int .i64 0, .int .i64 0, .slice none 0 0] 24 (0, 0))) := Lib.hid (by
    rw [hW0]
    have := Deep.blk_alloc_new ((w.alloc (.cells #[.int .i64 (m : Int), .int .i64 tk, .int .i64 lo, .slice A ln c] 24)).alloc (.cells #[.int .i64 (m : Int), .int .i64 tk', .int .i64 lo', .slice A' lm c'] 24)) (.cells #[.int .i64 0, .int .i64 0, .int .i64 0, .slice none 0 0] 24)
    rwa [World.size_alloc, World.size_alloc] at this)
  have d0 := cell_of_row _ _ 0 _ _ _ HG0.out
  have d1 := cell_of_row _ _ 1 _ _ _ HG0.out
  have d2 := cell_of_row _ _ 2 _ _ _ HG0.out
  have e1 := cell_of_row _ _ 1 _ _ _ HG1.out
  have e2 := cell_of_row _ _ 2 _ _ _ HG1.out
  simp at d0 d1 d2 e1 e2
  obtain ⟨W2, hW2⟩ : ∃ W2 : World, W2 = (W0.alloc (.cells #[.int .i64 (m : Int), .int .i64 tt, .int .i64 ll, .slice none 0 0] 24)).alloc (.cells #[] 27) := ⟨_, rfl⟩
  have hb2 : Below W0.heap.size W0 W2 := by rw [hW2]; exact ((Below.refl _ _).alloc (Nat.le_refl _) _).alloc (by simp) _
  have HB2 : Hid (Below w.heap.size w W2) := Lib.hid (HB0.out.trans (hb2.mono HB0.out.size))
  have HG02 := Lib.hid ((hb2.block w.heap.size (by omega)).trans HG0.out)
  have HG12 := Lib.hid ((hb2.block (w.heap.size + 1) (by omega)).trans HG1.out)
  have HG22 := Lib.hid ((hb2.block (w.heap.size + 1 + 1) (by omega)).trans HG2.out)
  have HG32 : Hid (W2.heap[w.heap.size + 1 + 1 + 1]? = some (.cells #[.int .i64 (m : Int), .int .i64 tt, .int .i64 ll, .slice none 0 0] 24 (0, 0))) := Lib.hid (by
    rw [hW2, Below.heap_alloc _ _ _ (by simp <;> omega)]
    have := Deep.blk_alloc_new W0 (.cells #[.int .i64 (m : Int), .int .i64 tt, .int .i64 ll, .slice none 0 0] 24)
    rw [hz0] at this; exact this)
  have HO2 : Hid (W2.ownsRow (w.heap.size + 1 + 1 + 1 + 1) 27 2 (.slice (some ⟨w.heap.size + 1 + 1 + 1 + 1, 0, none⟩) 0 0) 0 (ctCells [])) := Lib.hid ⟨rfl, .inr ⟨w.heap.size + 1 + 1 + 1 + 1, 0, #[], rfl, Nat.le_refl _, by
    have := Deep.blk_alloc_new (W0.alloc (.cells #[.int .i64 (m : Int), .int .i64 tt, .int .i64 ll, .slice none 0 0] 24)) (.cells #[] 27)
    rw [World.size_alloc, hz0] at this; rw [hW2]; exact this, Nat.le_refl _, Nat.zero_le _, rfl, rfl⟩⟩
  have d3 := cell_of_row _ _ 3 _ _ _ HG02.out
  simp at d3
  have hz2 : W2.heap.size = w.heap.size + 5 := by rw [hW2]; simp [hz0]
  rw [hW2, hW0] at d3
  rw [hW0] at d0 d1 d2 e1 e2
  rw [hW0] at hW2
  have HWr := Lib.hid hW2
  clear hZ hN hR hR' hc2 hd1 hd2 htt hll hln hlm hW0 hW2 hb2 da pa db pb ma mb
  go_enter Try.func28, Try.ntmps28
  go_wp2_with (at_builtin; (try rw [← HWr.out]); go_loud (refine wpList_append_ct rfl (.tmp 21) (.tmp 23) rfl (w.heap.size + 1 + 1 + 1 + 1) (.slice (some ⟨w.heap.size + 1 + 1 + 1 + 1, 0, none⟩) 0 0) 0 [] rfl HO2.out A ln c rfl cs HLn.out.symm HC2.out HC1.out (HR1.out.below HB2.out) (by omega) (by omega) ?_); go_loud (intro v2 w3 hown hg); go_loud (rw [Nat.zero_add, List.nil_append] at hown); go_loud (obtain ⟨A9, c9, rfl, _, _, _⟩ := rs_own hown); go_loud (have HFl9 := Lib.hid (flat_own hown)); go_loud (have hb := below_grownk (B := w.heap.size + 1 + 1 + 1 + 1) (a := W2) (Below.refl _ _) HO2.out hg (Nat.le_refl _) (by omega)); go_loud (have HV3 := Lib.hid (SlV.own hown)); go_loud (have hsz3 := hb.size); go_loud (have HB3 := Lib.hid (HB2.out.trans (hb.mono (by omega)))); go_loud (have HG13 := Lib.hid ((hb.block (w.heap.size + 1) (by omega)).trans HG12.out)); go_loud (have HG23 := Lib.hid ((hb.block (w.heap.size + 1 + 1) (by omega)).trans HG22.out)); go_loud (have HG33 := Lib.hid ((hb.block (w.heap.size + 1 + 1 + 1) (by omega)).trans HG32.out)); go_loud (have c3 := cell_of_row _ _ 3 _ _ _ HG33.out); go_loud (have f3 := frz HG33.out 3); go_loud (have hX3 : w.heap.size + 1 + 1 + 1 < w3.heap.size := by omega); go_loud (clear hown hg hb hsz3); go_loud (simp at c3))
  obtain ⟨P1, hP1⟩ : ∃ P, P = w.heap.size + 1 := ⟨_, rfl⟩
  rw [← hP1] at HG13 HG23 HG33 c3 f3 hX3 ⊢
  obtain ⟨P2, hP2⟩ : ∃ P, P = P1 + 1 := ⟨_, rfl⟩
  rw [← hP2] at HG23 HG33 c3 f3 hX3 ⊢
  obtain ⟨P3, hP3⟩ : ∃ P, P = P2 + 1 := ⟨_, rfl⟩
  rw [← hP3] at HG33 c3 f3 hX3 ⊢
  have hP : w.heap.size < P1 ∧ P1 < P2 ∧ P2 < P3 := by omega
  have HP := Lib.hid hP
  obtain ⟨W4, hW4⟩ : ∃ W4, W4 = w3.setCell ⟨P3, 3, none⟩ (.slice A9 ln c9) := ⟨_, rfl⟩
  have HG34 : Hid (Bx W4 P3 ⟨(m : Int), tt, ll, N 0⟩) := Lib.hid (by
    rw [HN0.out]
    refine ⟨A9, c9, ?_, ?_, HFl9.out⟩
    · show W4.heap[P3]? = some (.cells #[.int .i64 (m : Int), .int .i64 tt, .int .i64 ll, .slice A9 cs.length c9] 24 (0, 0))
      rw [hW4, blk_set _ HG33.out, HLn.out]; rfl
    · show SlV W4 (.slice A9 cs.length c9) cs
      rw [hW4, ← HLn.out]; exact slv_setCell HV3.out HG33.out)
  have HG14 : Hid (W4.heap[P1]? = some (.cells #[.int .i64 (m : Int), .int .i64 tk', .int .i64 lo', .slice A' lm c'] 24 (0, 0))) := Lib.hid (by rw [hW4]; exact (Below.heap_setCell w3 _ _ _ (by show P1 ≠ P3; omega)).trans HG13.out)
  have HG24 : Hid (W4.heap[P2]? = some (.cells #[.int .i64 0, .int .i64 0, .int .i64 0, .slice none 0 0] 24 (0, 0))) := Lib.hid (by rw [hW4]; exact (Below.heap_setCell w3 _ _ _ (by show P2 ≠ P3; omega)).trans HG23.out)
  have HB4 : Hid (Below w.heap.size w W4) := Lib.hid (by rw [hW4]; exact HB3.out.setCell (p := ⟨P3, 3, none⟩) (by show w.heap.size ≤ P3; omega) _)
  rw [← hW4]
  clear hW4 HG13 HG23 HG33 c3 f3 hX3 HV3 HFl9 HB3 HG02 HG12 HG22 HG32 HO2 HG0 HG1 HG2 hP1 hP2 hP3 d0 d1 d2 d3 e1 e2 HWr hz0 hz2 HB0 HB2 hP hwt hwl
  go_loopw [6] (fun iv wr => ∃ j : Nat, j ≤ lm ∧ iv = .int .i64 (j : Int) ∧ Hid (Bx wr P3 ⟨(m : Int), tt, ll, N j⟩) ∧ Hid (wr.heap[P1]? = some (.cells #[.int .i64 (m : Int), .int .i64 tk', .int .i64 lo', .slice A' lm c'] 24 (0, 0))) ∧ Hid (wr.heap[P2]? = some (.cells #[.int .i64 0, .int .i64 0, .int .i64 0, .slice none 0 0] 24 (0, 0))) ∧ Hid (Below w.heap.size w wr)) (fun iv _ => lm - (intOf iv).toNat)
  case atStart => exact ⟨0, Nat.zero_le _, rfl, HG34, HG14, HG24, HB4⟩
  case round =>
    obtain ⟨j, hj, rfl, HX, HY, HZ, HB⟩ := hrel
    have hj0 : (0 : Int) ≤ (j : Int) := by omega
    have b3 := cell_of_row _ _ 3 _ _ _ HY.out
    simp at b3
    by_cases hlt : j < lm
    · obtain ⟨hj2, hstep⟩ := HNs.out j hlt
      obtain ⟨bi, oi, rfl, hbi, h0, h1'⟩ := (HR2.out.below HB.out).at j hj2
      have hpb := HPb.out _ (List.getElem_mem hj2)
      obtain ⟨x, hx⟩ : ∃ x, x = cs'[j] := ⟨_, rfl⟩
      rw [← hx] at h0 h1' hpb hstep
      clear hx hj2
      obtain ⟨y, q⟩ := x
      dsimp only at h0 h1' hpb hstep
      have HSt := Lib.hid hstep
      obtain ⟨A1, c1, hg, hsl, hfl⟩ := HX.out
      dsimp only at hg hsl
      have HFl := Lib.hid hfl
      have hnl := HNl.out j
      have HPu := Lib.hid (fun W h => put_any (.slice A1 (N j).length c1) (N j) y q (HNd.out j) (by omega) (by have := HNb.out j y; omega) (fun A' m' c' e ad ea => by
        injection e with e1 e2 e3
        subst e1
        exact HFl.out ad ea) W h)
      obtain ⟨R, hRr⟩ : ∃ R, R = adC (N j) y q := ⟨_, rfl⟩
      have HRp : Hid (0 < R.length) := Lib.hid (by rw [hRr]; exact adC_pos y _)
      rw [← hRr] at HPu HSt
      obtain ⟨l1, hl1⟩ : ∃ l1, l1 = (N j).length := ⟨_, rfl⟩
      rw [← hl1] at hg hsl HPu
      have HG3 := Lib.hid hg
      have HSl := Lib.hid hsl
      have hz1 := (Array.getElem?_eq_some_iff.1 HG3.out).1
      have hz2 := (Array.getElem?_eq_some_iff.1 HY.out).1
      have HKS : Hid (∀ W, Below wr.heap.size wr W → W.cell? ⟨P3, 3, none⟩ = some (.slice A1 l1 c1) ∧ W.cell? ⟨P1, 3, none⟩ = some (.slice (some ⟨bi, oi, none⟩) lm c') ∧ W.cell? ⟨bi, oi + j * 2, none⟩ = some (.string y) ∧ W.cell? ⟨bi, oi + j * 2 + 1, none⟩ = some (.int .i64 q)) := Lib.hid (fun W hW => by
        have g3 := (hW.block _ hz1).trans HG3.out
        have g1 := (hW.block _ hz2).trans HY.out
        exact ⟨cell_of_row _ _ 3 _ _ _ g3, cell_of_row _ _ 3 _ _ _ g1, (hW.cell (p := ⟨bi, oi + j * 2, none⟩) hbi).trans h0, (hW.cell (p := ⟨bi, oi + j * 2 + 1, none⟩) hbi).trans h1'⟩)
      have hjI : (j : Int) < (lm : Int) := by omega
      have hw1 : IntKind.i64.wrap ((j : Int) + 1) = (j : Int) + 1 := by simp only [IntKind.wrap_i64]; omega
      have HHz : Hid (P3 < wr.heap.size) := Lib.hid hz1
      clear hg hsl hfl hRr hl1 hnl hpb hstep HX hz1 hz2 h0 h1'
      go_upto_region 6 with fail
      clear b3
      refine wp_region_last 16 (fun W => W.cell? ⟨P3, 3, none⟩ = some (.slice A1 l1 c1) ∧ W.cell? ⟨P1, 3, none⟩ = some (.slice (some ⟨bi, oi, none⟩) lm c') ∧ W.cell? ⟨bi, oi + j * 2, none⟩ = some (.string y) ∧ W.cell? ⟨bi, oi + j * 2 + 1, none⟩ = some (.int .i64 q)) (by kernel_rfl) (by decide +kernel) (by rfl) (HKS.out _ (Below.refl _ _).drew) (fun hHeld => ?_)
      simp only [List.take_succ_cons, List.take_zero]
      refine wpAnyH_take (i := 0) (v := ?_) rfl (by decide +kernel) (by decide +kernel) (by decide +kernel) (fun _ _ _ h => h) (Or.inl ⟨by rfl, ?_⟩) (by assumption) ?_
      rotate_left 1
      · (intro w' hSw; (try dsimp only at hSw); go_simp; (try (with_reducible rfl)))
      try simp only [List.getElem_toArray, List.getElem_cons_zero, Act.put, List.setIfInBounds_toArray, List.set_cons_zero, List.set_cons_succ]
      refine wpAnyH_take (i := 1) (v := ?_) rfl (by decide +kernel) (by decide +kernel) (by decide +kernel) (fun _ _ _ h => h) (Or.inl ⟨by rfl, ?_⟩) (by assumption) ?_
      rotate_left 1
      · (intro w' hSw; (try dsimp only at hSw); go_simp; (try (with_reducible rfl)))
      try simp only [List.getElem_toArray, List.getElem_cons_zero, List.getElem_cons_succ, Act.put, List.setIfInBounds_toArray, List.set_cons_zero, List.set_cons_succ]
      refine wpAnyH_take (i := 2) (v := ?_) rfl (by decide +kernel) (by decide +kernel) (by decide +kernel) (fun _ _ _ h => h) (Or.inl ⟨by rfl, ?_⟩) (by assumption) ?_
      rotate_left 1
      · (intro w' hSw; (try dsimp only at hSw); go_simp; (try (with_reducible rfl)))
      try simp only [List.getElem_toArray, List.getElem_cons_zero, List.getElem_cons_succ, Act.put, List.setIfInBounds_toArray, List.set_cons_zero, List.set_cons_succ]
      refine wpAnyH_take (i := 3) (v := ?_) rfl (by decide +kernel) (by decide +kernel) (by decide +kernel) (fun _ _ _ h => h) (Or.inl ⟨by rfl, ?_⟩) (by assumption) ?_
      rotate_left 1
      · (intro w' hSw; (try dsimp only at hSw); go_simp; (try (with_reducible rfl)))
      try simp only [List.getElem_toArray, List.getElem_cons_zero, List.getElem_cons_succ, Act.put, List.setIfInBounds_toArray, List.set_cons_zero, List.set_cons_succ]
      refine wpAnyH_take (i := 4) (v := ?_) rfl (by decide +kernel) (by decide +kernel) (by decide +kernel) (fun _ _ _ h => h) (Or.inl ⟨by rfl, ?_⟩) (by assumption) ?_
      rotate_left 1
      · (intro w' hSw; (try dsimp only at hSw); go_simp; (try (with_reducible rfl)))
      try simp only [List.getElem_toArray, List.getElem_cons_zero, List.getElem_cons_succ, Act.put, List.setIfInBounds_toArray, List.set_cons_zero, List.set_cons_succ]
      refine wpAnyH_take (i := 5) (v := ?_) rfl (by decide +kernel) (by decide +kernel) (by decide +kernel) (fun _ _ _ h => h) (Or.inl ⟨by rfl, ?_⟩) (by assumption) ?_
      rotate_left 1
      · (intro w' hSw; (try dsimp only at hSw); go_simp; (try (with_reducible rfl)))
      try simp only [List.getElem_toArray, List.getElem_cons_zero, List.getElem_cons_succ, Act.put, List.setIfInBounds_toArray, List.set_cons_zero, List.set_cons_succ]
      refine wpAnyH_take (i := 6) (v := ?_) rfl (by decide +kernel) (by decide +kernel) (by decide +kernel) (fun _ _ _ h => h) (Or.inl ⟨by rfl, ?_⟩) (by assumption) ?_
      rotate_left 1
      · (intro w' hSw; (try dsimp only at hSw); go_simp; (try (with_reducible rfl)))
      try simp only [List.getElem_toArray, List.getElem_cons_zero, List.getElem_cons_succ, Act.put, List.setIfInBounds_toArray, List.set_cons_zero, List.set_cons_succ]
      refine wpAnyH_take (i := 7) (v := ?_) rfl (by decide +kernel) (by decide +kernel) (by decide +kernel) (fun _ _ _ h => h) (Or.inl ⟨by rfl, ?_⟩) (by assumption) ?_
      rotate_left 1
      · (intro w' hSw; (try dsimp only at hSw); go_simp; (try (with_reducible rfl)))
      try simp only [List.getElem_toArray, List.getElem_cons_zero, List.getElem_cons_succ, Act.put, List.setIfInBounds_toArray, List.set_cons_zero, List.set_cons_succ]
      refine wpAnyH_take (i := 8) (v := ?_) rfl (by decide +kernel) (by decide +kernel) (by decide +kernel) (fun _ _ _ h => h) (Or.inl ⟨by rfl, ?_⟩) (by assumption) ?_
      rotate_left 1
      · (intro w' hSw; (try dsimp only at hSw); go_simp; (try (with_reducible rfl)))
      try simp only [List.getElem_toArray, List.getElem_cons_zero, List.getElem_cons_succ, Act.put, List.setIfInBounds_toArray, List.set_cons_zero, List.set_cons_succ]
      refine wpAnyH_take (i := 9) (v := ?_) rfl (by decide +kernel) (by decide +kernel) (by decide +kernel) (fun _ _ _ h => h) (Or.inl ⟨by rfl, ?_⟩) (by assumption) ?_
      rotate_left 1
      · (intro w' hSw; (try dsimp only at hSw); go_simp; (try (with_reducible rfl)))
      try simp only [List.getElem_toArray, List.getElem_cons_zero, List.getElem_cons_succ, Act.put, List.setIfInBounds_toArray, List.set_cons_zero, List.set_cons_succ]
      refine wpAnyH_take (i := 10) (v := ?_) rfl (by decide +kernel) (by decide +kernel) (by decide +kernel) (fun _ _ _ h => h) (Or.inl ⟨by rfl, ?_⟩) (by assumption) ?_
      rotate_left 1
      · (intro w' hSw; (try dsimp only at hSw); go_simp; (try (with_reducible rfl)))
      try simp only [List.getElem_toArray, List.getElem_cons_zero, List.getElem_cons_succ, Act.put, List.setIfInBounds_toArray, List.set_cons_zero, List.set_cons_succ]
      refine wpAnyH_take (i := 11) (v := ?_) rfl (by decide +kernel) (by decide +kernel) (by decide +kernel) (fun _ _ _ h => h) (Or.inl ⟨by rfl, ?_⟩) (by assumption) ?_
      rotate_left 1
      · (intro w' hSw; (try dsimp only at hSw); go_simp; (try (with_reducible rfl)))
      try simp only [List.getElem_toArray, List.getElem_cons_zero, List.getElem_cons_succ, Act.put, List.setIfInBounds_toArray, List.set_cons_zero, List.set_cons_succ]
      refine wpAnyH_take (i := 12) (v := ?_) rfl (by decide +kernel) (by decide +kernel) (by decide +kernel) (fun _ _ _ h => h) (Or.inl ⟨by rfl, ?_⟩) (by assumption) ?_
      rotate_left 1
      · (intro w' hSw; (try dsimp only at hSw); go_simp; (try (with_reducible rfl)))
      try simp only [List.getElem_toArray, List.getElem_cons_zero, List.getElem_cons_succ, Act.put, List.setIfInBounds_toArray, List.set_cons_zero, List.set_cons_succ]
      refine wpAnyH_take (i := 13) (v := ?_) rfl (by decide +kernel) (by decide +kernel) (by decide +kernel) (fun _ _ _ h => h) (Or.inl ⟨by rfl, ?_⟩) (by assumption) ?_
      rotate_left 1
      · (intro w' hSw; (try dsimp only at hSw); go_simp; (try (with_reducible rfl)))
      try simp only [List.getElem_toArray, List.getElem_cons_zero, List.getElem_cons_succ, Act.put, List.setIfInBounds_toArray, List.set_cons_zero, List.set_cons_succ]
      refine wpAnyH_ready (rs := [14]) (by decide +kernel) (by simp) ?_
      refine AllReadyH.cons rfl (fun K hK => ?_) AllReadyH.nil
      go_simp
      go_at_call 44
      refine (HPu.out wr.drew (HSl.out.below (Below.refl _ _).drew)).mono ?_
      rintro e w4 ⟨⟨u, rfl, hu⟩, hb4⟩
      have hb4 : Below wr.heap.size wr w4 := (Below.drew (Below.refl wr.heap.size wr)).trans hb4
      have HBd := Lib.hid hb4
      have HU4 := Lib.hid hu
      obtain ⟨A8, c8, rfl, _⟩ := id hu
      have hfl8 := slv_flat hu HRp.out
      have HFl8 := Lib.hid hfl8
      have HG34' := Lib.hid (blk_carry HG3.out hb4)
      have HG14' := Lib.hid (blk_carry HY.out hb4)
      have HG24' := Lib.hid (blk_carry HZ.out hb4)
      have HB4' := Lib.hid (HB.out.trans (hb4.mono HB.out.size))
      obtain ⟨lq, hlq⟩ : ∃ lq, lq = R.length := ⟨_, rfl⟩
      have HLq := Lib.hid hlq
      rw [← hlq] at HU4 ⊢
      have hX4 : P3 < w4.heap.size := by have := HHz.out; have := hb4.size; omega
      clear hu hb4 hfl8 hlq
      try go_wp2_with fail
      refine hK.out _ _ (HKS.out _ HBd.out) (fun hHeld => ?_)
      clear hK K
      try simp only [List.getElem_toArray, List.getElem_cons_zero, List.getElem_cons_succ, Act.put, List.setIfInBounds_toArray, List.set_cons_zero, List.set_cons_succ]
      refine wpAnyH_take (i := 15) (v := ?_) rfl (by decide +kernel) (by decide +kernel) (by decide +kernel) (fun _ _ _ h => h) (Or.inl ⟨by rfl, ?_⟩) (by assumption) ?_
      rotate_left 1
      · (intro w' hSw; (try dsimp only at hSw); go_simp; (try (with_reducible rfl)))
      try simp only [List.getElem_toArray, List.getElem_cons_zero, List.getElem_cons_succ, Act.put, List.setIfInBounds_toArray, List.set_cons_zero, List.set_cons_succ]
      have e3 := cell_of_row _ _ 3 _ _ _ HG34'.out
      have f3' := frz HG34'.out 3
      simp at e3
      refine wpAnyH_done (by decide +kernel) ?_ _
      intro K hK
      go_simp
      refine hK.out _ _ ?_
      clear hK K
      try simp only [List.getElem_toArray, List.getElem_cons_zero, List.getElem_cons_succ, Act.put, List.setIfInBounds_toArray, List.set_cons_zero, List.set_cons_succ]
      (refine (by assumption : ∀ _ _, _ → _) _ _ ?_)
      obtain ⟨W9, hW9⟩ : ∃ W9, W9 = w4.setCell ⟨P3, 3, none⟩ (.slice A8 lq c8) := ⟨_, rfl⟩
      have HX9 : Hid (Bx W9 P3 ⟨(m : Int), tt, ll, N (j + 1)⟩) := Lib.hid (by
        rw [HSt.out]
        refine ⟨A8, c8, ?_, ?_, HFl8.out⟩
        · show W9.heap[P3]? = some (.cells #[.int .i64 (m : Int), .int .i64 tt, .int .i64 ll, .slice A8 R.length c8] 24 (0, 0))
          rw [hW9, blk_set _ HG34'.out, ← HLq.out]; rfl
        · show SlV W9 (.slice A8 R.length c8) R
          rw [hW9, ← HLq.out]; exact slv_setCell HU4.out HG34'.out)
      have HY9 := Lib.hid ((Below.heap_setCell w4 ⟨P3, 3, none⟩ (.slice A8 lq c8) P1 (by show P1 ≠ P3; have := HP.out; omega)).trans HG14'.out)
      have HZ9 := Lib.hid ((Below.heap_setCell w4 ⟨P3, 3, none⟩ (.slice A8 lq c8) P2 (by show P2 ≠ P3; have := HP.out; omega)).trans HG24'.out)
      have HB9 : Hid (Below w.heap.size w W9) := Lib.hid (by rw [hW9]; exact HB4'.out.setCell (p := ⟨P3, 3, none⟩) (by show w.heap.size ≤ P3; have := HP.out; omega) _)
      rw [← hW9] at HY9 HZ9 ⊢
      clear hW9 e3 f3' hX4
      go_wp2_with fail
      go_roundw
      case rel => exact ⟨j + 1, by omega, by go_num, HX9, HY9, HZ9, HB9⟩
      case measure => simp [intOf] <;> omega
    · have ej : j = lm := by omega
      rw [ej, HNe.out] at HX
      obtain ⟨hf1, hf2, hf3⟩ := HF.out
      have hmg := HMg.out
      obtain ⟨M, hM⟩ : ∃ M, M = coC (cs ++ cs') := ⟨_, rfl⟩
      rw [← hM] at HX hf1 hf2 hf3 hmg
      have HMg2 := Lib.hid hmg
      obtain ⟨A1, c1, hg, hsl, hfl⟩ := HX.out
      dsimp only at hg hsl
      have HTp := Lib.hid (fun W h => top_any (.slice A1 M.length c1) M (by omega) W h)
      have HLs := Lib.hid (fun d (hd : 0 ≤ d ∧ d ≤ 1152921504606846976) W h => less_any (.slice A1 M.length c1) M d (by omega) hf2 hd W h)
      have HF3 := Lib.hid hf3
      obtain ⟨l1, hl1⟩ : ∃ l1, l1 = M.length := ⟨_, rfl⟩
      have HL1 := Lib.hid hl1
      rw [← hl1] at hg hsl HTp HLs
      have HG3 := Lib.hid hg
      have HSl := Lib.hid hsl
      have HFl := Lib.hid hfl
      have hz1 := (Array.getElem?_eq_some_iff.1 HG3.out).1
      have c0 := cell_of_row _ _ 0 _ _ _ hg
      have c3 := cell_of_row _ _ 3 _ _ _ hg
      simp at c0 c3
      have hjI : ¬ (j : Int) < (lm : Int) := by omega
      have hP := HP.out
      have hX3 : P3 < wr.heap.size := hz1
      clear hg hsl hfl hM hmg hf1 hf2 hf3 HX hz1 hl1 ej hP
      by_cases hc : (m : Int) < (l1 : Int)
      · have dc : decide ((m : Int) < (l1 : Int)) = true := by simpa using hc
        have hml : m < M.length := by have := HL1.out; omega
        have HZe : Hid (Z = ⟨(m : Int), tt, ll + rkN M m, loC M (rkN M m)⟩) := Lib.hid (by rw [HMg2.out, if_pos (by omega)])
        obtain ⟨hm2, hm3, hm4, hm5⟩ := HF3.out hml
        obtain ⟨D, hD⟩ : ∃ D, D = topL M := ⟨_, rfl⟩
        have hm2' : ∃ h9 : m < D.length, D[m].2 = rkN M m := by subst hD; exact ⟨hm2, hm3⟩
        obtain ⟨hm6, hm7⟩ := hm2'
        rw [← hD] at HTp
        obtain ⟨d, hd⟩ : ∃ d, d = rkN M m := ⟨_, rfl⟩
        rw [← hd] at hm4 hm5 hm7 HZe
        have HLd := Lib.hid (fun W h => HLs.out d ⟨hm4, by omega⟩ W h)
        have HCd : Hid ((ctCells D)[m * 2 + 1]? = some (.int .i64 d)) := Lib.hid (by rw [(ct_get D m hm6).2, hm7])
        have hwd : IntKind.i64.wrap (ll + d) = ll + d := by have := HLl.out; simp only [IntKind.wrap_i64]; omega
        have HMl : Hid (0 < l1) := Lib.hid (by omega)
        obtain ⟨N2, hN2⟩ : ∃ N2, N2 = loC M d := ⟨_, rfl⟩
        rw [← hN2] at HLd HZe
        have HKS : Hid (∀ W, Below wr.heap.size wr W → W.cell? ⟨P3, 0, none⟩ = some (.int .i64 (m : Int)) ∧ W.cell? ⟨P3, 3, none⟩ = some (.slice A1 l1 c1)) := Lib.hid (fun W hW => by
          have g3 := (hW.block _ hX3).trans HG3.out
          exact ⟨cell_of_row _ _ 0 _ _ _ g3, cell_of_row _ _ 3 _ _ _ g3⟩)
        have hm0 : (0 : Int) ≤ (m : Int) := by omega
        clear HLs hm2 hm3 hD hm6 hm7 hd hN2 hml
        go_upto_region 8 with fail
        clear c0 c3 dc
        refine wp_region_last 8 (fun W => W.cell? ⟨P3, 0, none⟩ = some (.int .i64 (m : Int)) ∧ W.cell? ⟨P3, 3, none⟩ = some (.slice A1 l1 c1)) (by kernel_rfl) (by decide +kernel) (by rfl) (HKS.out _ (Below.refl _ _).drew) (fun hHeld => ?_)
        simp only [List.take_succ_cons, List.take_zero]
        refine wpAnyH_take (i := 0) (v := ?_) rfl (by decide +kernel) (by decide +kernel) (by decide +kernel) (fun _ _ _ h => h) (Or.inl ⟨by rfl, ?_⟩) (by assumption) ?_
        rotate_left 1
        · (intro w' hSw; (try dsimp only at hSw); go_simp; (try (with_reducible rfl)))
        try simp only [List.getElem_toArray, List.getElem_cons_zero, Act.put, List.setIfInBounds_toArray, List.set_cons_zero, List.set_cons_succ]
        refine wpAnyH_take (i := 1) (v := ?_) rfl (by decide +kernel) (by decide +kernel) (by decide +kernel) (fun _ _ _ h => h) (Or.inl ⟨by rfl, ?_⟩) (by assumption) ?_
        rotate_left 1
        · (intro w' hSw; (try dsimp only at hSw); go_simp; (try (with_reducible rfl)))
        try simp only [List.getElem_toArray, List.getElem_cons_zero, List.getElem_cons_succ, Act.put, List.setIfInBounds_toArray, List.set_cons_zero, List.set_cons_succ]
        refine wpAnyH_take (i := 3) (v := ?_) rfl (by decide +kernel) (by decide +kernel) (by decide +kernel) (fun _ _ _ h => h) (Or.inl ⟨by rfl, ?_⟩) (by assumption) ?_
        rotate_left 1
        · (intro w' hSw; (try dsimp only at hSw); go_simp; (try (with_reducible rfl)))
        try simp only [List.getElem_toArray, List.getElem_cons_zero, List.getElem_cons_succ, Act.put, List.setIfInBounds_toArray, List.set_cons_zero, List.set_cons_succ]
        refine wpAnyH_take (i := 4) (v := ?_) rfl (by decide +kernel) (by decide +kernel) (by decide +kernel) (fun _ _ _ h => h) (Or.inl ⟨by rfl, ?_⟩) (by assumption) ?_
        rotate_left 1
        · (intro w' hSw; (try dsimp only at hSw); go_simp; (try (with_reducible rfl)))
        try simp only [List.getElem_toArray, List.getElem_cons_zero, List.getElem_cons_succ, Act.put, List.setIfInBounds_toArray, List.set_cons_zero, List.set_cons_succ]
        refine wpAnyH_ready (rs := [2]) (by decide +kernel) (by simp) ?_
        refine AllReadyH.cons rfl (fun K hK => ?_) AllReadyH.nil
        go_simp
        go_at_call 35
        refine (HTp.out wr.drew (HSl.out.below (Below.refl _ _).drew)).mono ?_
        rintro e wd ⟨⟨u, rfl, hown⟩, hb4⟩
        have hb4 : Below wr.heap.size wr wd := (Below.drew (Below.refl wr.heap.size wr)).trans hb4
        have HBd := Lib.hid hb4
        obtain ⟨gg, cg, rfl, hcells⟩ := own_posc hown HMl.out
        have k1 := hcells (m * 2 + 1) (.int .i64 d) HCd.out
        rw [add_flat, Nat.zero_add] at k1
        have HGd := Lib.hid (blk_carry HG3.out hb4)
        have HZd := Lib.hid (blk_carry HZ.out hb4)
        have HSd := Lib.hid (HSl.out.below hb4)
        have HBw := Lib.hid (HB.out.trans (hb4.mono HB.out.size))
        have hX4 : P3 < wd.heap.size := by have := hb4.size; omega
        clear hown hb4 hcells
        try go_wp2_with fail
        refine hK.out _ _ (HKS.out _ HBd.out) (fun hHeld => ?_)
        clear hK K
        try simp only [List.getElem_toArray, List.getElem_cons_zero, List.getElem_cons_succ, Act.put, List.setIfInBounds_toArray, List.set_cons_zero, List.set_cons_succ]
        refine wpAnyH_take (i := 5) (v := ?_) rfl (by decide +kernel) (by decide +kernel) (by decide +kernel) (fun _ _ _ h => h) (Or.inl ⟨by rfl, ?_⟩) (by assumption) ?_
        rotate_left 1
        · (intro w' hSw; (try dsimp only at hSw); go_simp; (try (with_reducible rfl)))
        try simp only [List.getElem_toArray, List.getElem_cons_zero, List.getElem_cons_succ, Act.put, List.setIfInBounds_toArray, List.set_cons_zero, List.set_cons_succ]
        refine wpAnyH_take (i := 6) (v := ?_) rfl (by decide +kernel) (by decide +kernel) (by decide +kernel) (fun _ _ _ h => h) (Or.inl ⟨by rfl, ?_⟩) (by assumption) ?_
        rotate_left 1
        · (intro w' hSw; (try dsimp only at hSw); go_simp; (try (with_reducible rfl)))
        try simp only [List.getElem_toArray, List.getElem_cons_zero, List.getElem_cons_succ, Act.put, List.setIfInBounds_toArray, List.set_cons_zero, List.set_cons_succ]
        refine wpAnyH_ready (rs := [7]) (by decide +kernel) (by simp) ?_
        refine AllReadyH.cons rfl (fun K hK => ?_) AllReadyH.nil
        go_simp
        refine hK.out _ _ (HKS.out _ HBd.out) (fun hHeld => ?_)
        clear hK K
        try simp only [List.getElem_toArray, List.getElem_cons_zero, List.getElem_cons_succ, Act.put, List.setIfInBounds_toArray, List.set_cons_zero, List.set_cons_succ]
        refine wpAnyH_done (by decide +kernel) ?_ _
        intro K hK
        go_simp
        refine hK.out _ _ ?_
        clear hK K
        try simp only [List.getElem_toArray, List.getElem_cons_zero, List.getElem_cons_succ, Act.put, List.setIfInBounds_toArray, List.set_cons_zero, List.set_cons_succ]
        (refine (by assumption : ∀ _ _, _ → _) _ _ ?_)
        clear k1
        have HX4 := Lib.hid hX4
        clear hX4 hX3
        go_upto_region 9 with fail
        have c2 := cell_of_row _ _ 2 _ _ _ HGd.out
        simp at c2
        have f2 := frz HGd.out 2
        have f3 := frz HGd.out 3
        have hX4 := HX4.out
        refine wp_region_last 11 (fun W => W.cell? ⟨P3, 2, none⟩ = some (.int .i64 ll)) (by kernel_rfl) (by decide +kernel) (by rfl) c2 (fun hHeld => ?_)
        simp only [List.take_succ_cons, List.take_zero]
        refine wpAnyH_take (i := 0) (v := ?_) rfl (by decide +kernel) (by decide +kernel) (by decide +kernel) (fun _ _ _ h => h) (Or.inl ⟨by rfl, ?_⟩) (by assumption) ?_
        rotate_left 1
        · (intro w' hSw; (try dsimp only at hSw); go_simp; (try (with_reducible rfl)))
        try simp only [List.getElem_toArray, List.getElem_cons_zero, Act.put, List.setIfInBounds_toArray, List.set_cons_zero, List.set_cons_succ]
        refine wpAnyH_take (i := 2) (v := ?_) rfl (by decide +kernel) (by decide +kernel) (by decide +kernel) (fun _ _ _ h => h) (Or.inl ⟨by rfl, ?_⟩) (by assumption) ?_
        rotate_left 1
        · (intro w' hSw; (try dsimp only at hSw); go_simp; (try (with_reducible rfl)))
        try simp only [List.getElem_toArray, List.getElem_cons_zero, List.getElem_cons_succ, Act.put, List.setIfInBounds_toArray, List.set_cons_zero, List.set_cons_succ]
        refine wpAnyH_take (i := 4) (v := ?_) rfl (by decide +kernel) (by decide +kernel) (by decide +kernel) (fun _ _ _ h => h) (Or.inl ⟨by rfl, ?_⟩) (by assumption) ?_
        rotate_left 1
        · (intro w' hSw; (try dsimp only at hSw); go_simp; (try (with_reducible rfl)))
        try simp only [List.getElem_toArray, List.getElem_cons_zero, List.getElem_cons_succ, Act.put, List.setIfInBounds_toArray, List.set_cons_zero, List.set_cons_succ]
        refine wpAnyH_take (i := 5) (v := ?_) rfl (by decide +kernel) (by decide +kernel) (by decide +kernel) (fun _ _ _ h => h) (Or.inl ⟨by rfl, ?_⟩) (by assumption) ?_
        rotate_left 1
        · (intro w' hSw; (try dsimp only at hSw); go_simp; (try (with_reducible rfl)))
        try simp only [List.getElem_toArray, List.getElem_cons_zero, List.getElem_cons_succ, Act.put, List.setIfInBounds_toArray, List.set_cons_zero, List.set_cons_succ]
        refine wpAnyH_take (i := 6) (v := ?_) rfl (by decide +kernel) (by decide +kernel) (by decide +kernel) (fun _ _ _ h => h) (Or.inl ⟨by rfl, ?_⟩) (by assumption) ?_
        rotate_left 1
        · (intro w' hSw; (try dsimp only at hSw); go_simp; (try (with_reducible rfl)))
        try simp only [List.getElem_toArray, List.getElem_cons_zero, List.getElem_cons_succ, Act.put, List.setIfInBounds_toArray, List.set_cons_zero, List.set_cons_succ]
        refine wpAnyH_take (i := 7) (v := ?_) rfl (by decide +kernel) (by decide +kernel) (by decide +kernel) (fun _ _ _ h => h) (Or.inl ⟨by rfl, ?_⟩) (by assumption) ?_
        rotate_left 1
        · (intro w' hSw; (try dsimp only at hSw); go_simp; (try (with_reducible rfl)))
        try simp only [List.getElem_toArray, List.getElem_cons_zero, List.getElem_cons_succ, Act.put, List.setIfInBounds_toArray, List.set_cons_zero, List.set_cons_succ]
        refine wpAnyH_ready (rs := [1]) (by decide +kernel) (by simp) ?_
        refine AllReadyH.cons rfl (fun K hK => ?_) AllReadyH.nil
        go_simp
        refine hK.out _ _ (c2) (fun hHeld => ?_)
        clear hK K
        try simp only [List.getElem_toArray, List.getElem_cons_zero, List.getElem_cons_succ, Act.put, List.setIfInBounds_toArray, List.set_cons_zero, List.set_cons_succ]
        refine wpAnyH_ready (rs := [3]) (by decide +kernel) (by simp) ?_
        refine AllReadyH.cons rfl (fun K hK => ?_) AllReadyH.nil
        go_simp
        go_at_call 45
        refine (HLd.out wd.drew (HSd.out.below (Below.refl _ _).drew)).mono ?_
        rintro e w5 ⟨⟨u, rfl, hown⟩, hb4⟩
        have hb4 : Below wd.heap.size wd w5 := (Below.drew (Below.refl wd.heap.size wd)).trans hb4
        have HB5 : Hid (Below w.heap.size w w5) := Lib.hid (HBw.out.trans (hb4.mono HBw.out.size))
        have HG05 := Lib.hid (blk_carry HGd.out hb4)
        have HG15 := Lib.hid (blk_carry HZd.out hb4)
        obtain ⟨A9, c9, rfl, _, _, _⟩ := rs_own hown
        have HFl9 := Lib.hid (flat_own hown)
        have HU5 := Lib.hid (SlV.own hown)
        obtain ⟨q, hq⟩ : ∃ q, q = N2.length := ⟨_, rfl⟩
        have HQ := Lib.hid hq
        rw [← hq] at HU5 ⊢
        have e2 := cell_of_row _ _ 2 _ _ _ HG05.out
        have e3 := cell_of_row _ _ 3 _ _ _ HG05.out
        have f2' := frz HG05.out 2
        have f3' := frz HG05.out 3
        simp at e2 e3
        have hX5 : P3 < w5.heap.size := by have := hb4.size; omega
        clear hown hb4 hq
        try go_wp2_with fail
        refine hK.out _ _ (e2) (fun hHeld => ?_)
        clear hK K
        try simp only [List.getElem_toArray, List.getElem_cons_zero, List.getElem_cons_succ, Act.put, List.setIfInBounds_toArray, List.set_cons_zero, List.set_cons_succ]
        refine wpAnyH_take (i := 8) (v := ?_) rfl (by decide +kernel) (by decide +kernel) (by decide +kernel) (fun _ _ _ h => h) (Or.inl ⟨by rfl, ?_⟩) (by assumption) ?_
        rotate_left 1
        · (intro w' hSw; (try dsimp only at hSw); go_simp; (try (with_reducible rfl)))
        try simp only [List.getElem_toArray, List.getElem_cons_zero, List.getElem_cons_succ, Act.put, List.setIfInBounds_toArray, List.set_cons_zero, List.set_cons_succ]
        refine wpAnyH_ready (rs := [9]) (by decide +kernel) (by simp) ?_
        refine AllReadyH.cons rfl (fun K hK => ?_) AllReadyH.nil
        go_simp
        refine hK.out _ _ (by first | exact e2 | (simp [*, go_sem]) | skip) (fun hHeld => ?_)
        clear hK K
        try simp only [List.getElem_toArray, List.getElem_cons_zero, List.getElem_cons_succ, Act.put, List.setIfInBounds_toArray, List.set_cons_zero, List.set_cons_succ]
        refine wpAnyH_take (i := 10) (v := ?_) rfl (by decide +kernel) (by decide +kernel) (by decide +kernel) (fun _ _ _ h => h) (Or.inl ⟨by rfl, ?_⟩) (by assumption) ?_
        rotate_left 1
        · (intro w' hSw; (try dsimp only at hSw); go_simp; (try (with_reducible rfl)))
        try simp only [List.getElem_toArray, List.getElem_cons_zero, List.getElem_cons_succ, Act.put, List.setIfInBounds_toArray, List.set_cons_zero, List.set_cons_succ]
        refine wpAnyH_done (by decide +kernel) ?_ _
        intro K hK
        go_simp
        refine hK.out _ _ ?_
        clear hK K
        try simp only [List.getElem_toArray, List.getElem_cons_zero, List.getElem_cons_succ, Act.put, List.setIfInBounds_toArray, List.set_cons_zero, List.set_cons_succ]
        (refine (by assumption : ∀ _ _, _ → _) _ _ ?_)
        obtain ⟨W5, hW5⟩ : ∃ W5, W5 = (w5.setCell ⟨P3, 3, none⟩ (.slice A9 q c9)).setCell ⟨P3, 2, none⟩ (.int .i64 (ll + d)) := ⟨_, rfl⟩
        have s0 : W5.heap[P3]? = some (.cells #[.int .i64 (m : Int), .int .i64 tt, .int .i64 (ll + d), .slice A9 q c9] 24 (0, 0)) := by rw [hW5, blk_set _ (blk_set _ HG05.out)]; rfl
        have hP := HP.out
        have HS1 : Hid (W5.heap[P2]? = some (.cells #[.int .i64 0, .int .i64 0, .int .i64 0, .slice none 0 0] 24 (0, 0))) := Lib.hid (by rw [hW5]; exact ((Below.heap_setCell _ _ _ _ (by show P2 ≠ P3; omega)).trans (Below.heap_setCell w5 _ _ _ (by show P2 ≠ P3; omega))).trans HG15.out)
        have HB3 : Hid (Below w.heap.size w W5) := Lib.hid (by rw [hW5]; exact (HB5.out.setCell (p := ⟨P3, 3, none⟩) (by show w.heap.size ≤ P3; omega) _).setCell (p := ⟨P3, 2, none⟩) (by show w.heap.size ≤ P3; omega) _)
        have HU3 : Hid (SlV W5 (.slice A9 q c9) N2) := Lib.hid (by rw [hW5]; exact slv_setCell (slv_setCell HU5.out HG05.out) (blk_set _ HG05.out))
        have HW5 := Lib.hid hW5
        have t0 := cell_of_row _ _ 0 _ _ _ s0
        have t1 := cell_of_row _ _ 1 _ _ _ s0
        have t2 := cell_of_row _ _ 2 _ _ _ s0
        have t3 := cell_of_row _ _ 3 _ _ _ s0
        simp at t0 t1 t2 t3
        try rw [← hW5]
        clear hW5 s0 hwd
        go_wp2_with ((try rw [← HW5.out]); refine wpList_store_row rfl _ _ _ rfl P2 #[.int .i64 (m : Int), .int .i64 tt, .int .i64 (ll + d), .slice A9 q c9] rfl rfl 24 _ HS1.out HSb.out rfl (one_rows rfl _ _ _) ?_)
        have ho := setRow_heap W5 P2 _ #[.int .i64 (m : Int), .int .i64 tt, .int .i64 (ll + d), .slice A9 q c9] _ _ HS1.out
        have k0 := cell_of_row _ _ 0 _ _ _ ho
        have k1 := cell_of_row _ _ 1 _ _ _ ho
        have k2 := cell_of_row _ _ 2 _ _ _ ho
        have k3 := cell_of_row _ _ 3 _ _ _ ho
        simp at k0 k1 k2 k3
        refine bodyPost_ret (v := .agg #[.int .i64 (m : Int), .int .i64 tt, .int .i64 (ll + d), .slice A9 q c9]) ?_ rfl ⟨⟨_, rfl, ?_⟩, below_setRow HB3.out (by omega)⟩
        · rw [results_cell1 rfl]; go_simp <;> rfl
        · rw [HZe.out]; exact ⟨_, rfl, slv_setRow HU3.out HS1.out⟩
      · have dc : decide ((m : Int) < (l1 : Int)) = false := by simpa using hc
        have HZe : Hid (Z = ⟨(m : Int), tt, ll, M⟩) := Lib.hid (by rw [HMg2.out, if_neg (by have := HL1.out; omega)])
        have t1 := cell_of_row _ _ 1 _ _ _ HG3.out
        have t2 := cell_of_row _ _ 2 _ _ _ HG3.out
        simp at t1 t2
        have hP := HP.out
        have HW5 : Hid (wr = wr) := Lib.hid rfl
        have HS1 := HZ
        have HB3 := HB
        go_wp2_with ((try rw [← HW5.out]); refine wpList_store_row rfl _ _ _ rfl P2 #[.int .i64 (m : Int), .int .i64 tt, .int .i64 ll, .slice A1 l1 c1] rfl rfl 24 _ HS1.out HSb.out rfl (one_rows rfl _ _ _) ?_)
        have ho := setRow_heap wr P2 _ #[.int .i64 (m : Int), .int .i64 tt, .int .i64 ll, .slice A1 l1 c1] _ _ HS1.out
        have k0 := cell_of_row _ _ 0 _ _ _ ho
        have k1 := cell_of_row _ _ 1 _ _ _ ho
        have k2 := cell_of_row _ _ 2 _ _ _ ho
        have k3 := cell_of_row _ _ 3 _ _ _ ho
        simp at k0 k1 k2 k3
        refine bodyPost_ret (v := .agg #[.int .i64 (m : Int), .int .i64 tt, .int .i64 ll, .slice A1 l1 c1]) ?_ rfl ⟨⟨_, rfl, ?_⟩, below_setRow HB3.out (by omega)⟩
        · rw [results_cell1 rfl]; go_simp <;> rfl
        · rw [HZe.out]; exact ⟨_, rfl, slv_setRow HSl.out HS1.out⟩
end Go.Proofs.Ytnpjakgdfjaglaa
