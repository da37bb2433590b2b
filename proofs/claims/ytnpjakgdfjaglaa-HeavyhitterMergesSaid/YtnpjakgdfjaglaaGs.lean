/- Merge (written by wip/bin/gen_gs22.py, then unused.py). -/
import Derived.Test.YtnpjakgdfjaglaaGr
import Derived.Test.YtnpjakgdfjaglaaGl
namespace Go.Proofs.Ytnpjakgdfjaglaa
open Go.ChangeShapes Go.WideShapes Go.ChangeAt Go.RowKit Go.Joins

theorem rk_ntrans {x y z : Ct} (h1 : rkl x y = false) (h2 : rkl y z = false) : rkl x z = false := by
  have := swo_rk.ntrans x y z (by rw [lt_rk]; exact h1) (by rw [lt_rk]; exact h2)
  rwa [lt_rk] at this
theorem rk_anti {x y : Ct} (h1 : rkl x y = false) (h2 : rkl y x = false) : x = y := by
  rcases rk_tri x y with h | h | h
  · rw [h] at h1; cases h1
  · exact h
  · rw [h] at h2; cases h2
/-- Counters by rank. -/
def rkS (L : List Ct) : List Ct := L.mergeSort fun x y => !rkl y x
theorem rkS_ok (L : List Ct) : Rkd (rkS L) L := by
  refine ⟨List.mergeSort_perm _ _, ?_⟩
  have := List.pairwise_mergeSort (le := fun x y : Ct => !rkl y x) (fun a b c h1 h2 => by simp at *; exact rk_ntrans h2 h1) (fun a b => by
    cases h : rkl b a with
    | false => simp
    | true =>
      cases h2 : rkl a b with
      | false => simp
      | true => have := rk_trans h h2; rw [rk_irrefl] at this; cases this) L
  exact this.imp fun h => by simpa using h
theorem rkd_uniq {D E L : List Ct} (h : Rkd D L) (k : Rkd E L) : D = E :=
  List.Perm.eq_of_pairwise (le := fun x y => rkl y x = false) (fun _ _ _ _ h1 h2 => rk_anti h2 h1) h.2 k.2 (h.1.trans k.1.symm)
/-- The count of the counter at a rank. -/
def rkN (L : List Ct) (m : Nat) : Int := ((rkS L).getD m (.empty, 0)).2
/-- The summary of two. -/
def mgS (a b : Su) : Su :=
  if a.mo < (coC (a.cs ++ b.cs)).length then ⟨a.mo, a.to + b.to, a.lo + b.lo + rkN (coC (a.cs ++ b.cs)) a.mo.toNat, loC (coC (a.cs ++ b.cs)) (rkN (coC (a.cs ++ b.cs)) a.mo.toNat)⟩
  else ⟨a.mo, a.to + b.to, a.lo + b.lo, coC (a.cs ++ b.cs)⟩
def mgR (a b : Su) : Su × Int := if a.mo ≠ b.mo then (su0, 3) else if 1125899906842624 < a.to + b.to then (su0, 20) else (mgS a b, 0)
theorem fit_coC {l : List Ct} (h : Fit22 l) : Fit22 (coC l) := by
  refine ⟨nn_coC h.1, by rw [sm_coC]; exact h.2.1, fun p hp => ?_, Nat.le_trans (len_coC l) h.2.2.2⟩
  obtain ⟨q, hq, e⟩ := List.mem_map.1 ((hs_coC l p.1).1 (mem_keys hp))
  rw [← e]; exact h.2.2.1 q hq
theorem rkN_at {D L : List Ct} (h : Rkd D L) (m : Nat) (hm : m < D.length) : D[m].2 = rkN L m := by
  have e := rkd_uniq h (rkS_ok L)
  subst e
  unfold rkN
  rw [List.getD_eq_getElem?_getD, List.getElem?_eq_getElem hm]; rfl
theorem rkN_bd {L : List Ct} (h : Fit22 L) (m : Nat) (hm : m < L.length) : 0 ≤ rkN L m ∧ rkN L m ≤ 1152921504606846976 := by
  have k := rkS_ok L
  have hl : m < (rkS L).length := by rw [k.1.length_eq]; exact hm
  rw [← rkN_at k m hl]
  have hmem := k.1.mem_iff.1 (List.getElem_mem hl)
  have := mem_sm h.1 hmem
  exact ⟨h.1 _ hmem, by have := h.2.1; omega⟩
set_option maxRecDepth 100000 in
set_option maxHeartbeats 8000000 in
theorem merge_any (v v' : Value) (a b : Su) (ha : a.cs.length ≤ 100000) (hb : b.cs.length ≤ 100000) (hF : Fit22 (a.cs ++ b.cs)) (hNa : Nb a) (hNb : Nb b) (hmo : 0 ≤ a.mo) (w : World) (hv : SuV w v a) (hv' : SuV w v' b) :
    Calls Try.prog 27 #[v, v'] w fun e w' => (∃ u, e = .returned (.tuple #[u, .int .i64 (mgR a b).2]) ∧ SuV w' u (mgR a b).1) ∧ Below w.heap.size w w' := by
  obtain ⟨mo, to, lo, cs⟩ := a
  obtain ⟨mo', to', lo', cs'⟩ := b
  obtain ⟨u, rfl, A, c, rfl, hc1, hc2, hR⟩ := hv
  obtain ⟨u, rfl, A', c', rfl, hd1, hd2, hR'⟩ := hv'
  obtain ⟨⟨m1, m2⟩, ⟨t1, t2⟩, ⟨l1, l2⟩⟩ := hNa
  obtain ⟨⟨n1, n2⟩, ⟨s1, s2⟩, ⟨o1, o2⟩⟩ := hNb
  dsimp only at ha hb hF m1 m2 t1 t2 l1 l2 n1 n2 s1 s2 o1 o2 hc1 hd1 hR hR' hmo ⊢
  obtain ⟨m, rfl⟩ := Int.eq_ofNat_of_zero_le hmo
  have hmx : max (m : Int) 0 = (m : Int) := by omega
  have HX : Hid (mgR ⟨(m : Int), to, lo, cs⟩ ⟨mo', to', lo', cs'⟩ = if (m : Int) ≠ mo' then (su0, 3) else if 1125899906842624 < to + to' then (su0, 20) else (mgS ⟨(m : Int), to, lo, cs⟩ ⟨mo', to', lo', cs'⟩, 0)) := Lib.hid rfl
  obtain ⟨X, hX⟩ : ∃ X, X = mgR ⟨(m : Int), to, lo, cs⟩ ⟨mo', to', lo', cs'⟩ := ⟨_, rfl⟩
  rw [← hX] at HX ⊢
  have hlc := len_coC (cs ++ cs')
  rw [List.length_append] at hlc
  have HF := Lib.hid (fit_coC hF)
  have HSd := Lib.hid (sd_coC (cs ++ cs'))
  have HMg : Hid (mgS ⟨(m : Int), to, lo, cs⟩ ⟨mo', to', lo', cs'⟩ = if (m : Int) < (coC (cs ++ cs')).length then ⟨(m : Int), to + to', lo + lo' + rkN (coC (cs ++ cs')) m, loC (coC (cs ++ cs')) (rkN (coC (cs ++ cs')) m)⟩ else ⟨(m : Int), to + to', lo + lo', coC (cs ++ cs')⟩) := Lib.hid rfl
  have HCo : Hid (∀ (A9 : Option Addr) (c9 : Nat) (W : World), CR W A9 (cs ++ cs') → Calls Try.prog 39 #[.slice A9 (cs.length + cs'.length) c9] W fun e w' => e = .returned (.map (some W.heap.size)) ∧ Hm w' W.heap.size (coC (cs ++ cs')) ∧ Below W.heap.size W w') := Lib.hid (fun A9 c9 W h => by have := countsOf_any A9 c9 _ hF W h; rwa [List.length_append] at this)
  have HCc : Hid (∀ (g : Nat) (W : World), W.heap[g]? = some (.cells #[.slice A cs.length c, .slice A' cs'.length c'] 22 (0, 0)) → SlV W (.slice A cs.length c) cs → SlV W (.slice A' cs'.length c') cs' → Calls Try.prog 48 #[.slice (some ⟨g, 0, none⟩) 2 2] W fun e w' => (∃ v, e = .returned v ∧ w'.ownsRow W.heap.size 27 2 v (cs.length + cs'.length) (ctCells (cs ++ cs'))) ∧ Below W.heap.size W w') := Lib.hid (fun g W h h1 h2 => concat_any g _ _ cs cs' (by omega) (by omega) 22 W h h1 h2)
  have HS1 := Lib.hid (show SlV w (.slice A cs.length c) cs from ⟨A, c, rfl, hc1, hc2, hR⟩)
  have HS2 := Lib.hid (show SlV w (.slice A' cs'.length c') cs' from ⟨A', c', rfl, hd1, hd2, hR'⟩)
  obtain ⟨M, hM⟩ : ∃ M, M = coC (cs ++ cs') := ⟨_, rfl⟩
  rw [← hM] at HF HSd HMg HCo hlc
  obtain ⟨ln, hln⟩ : ∃ ln, ln = cs.length := ⟨_, rfl⟩
  obtain ⟨ln', hln'⟩ : ∃ ln', ln' = cs'.length := ⟨_, rfl⟩
  obtain ⟨lm, hlm⟩ : ∃ lm, lm = M.length := ⟨_, rfl⟩
  rw [← hln] at HCo HCc HS1 ha hlc ⊢
  rw [← hln'] at HCo HCc HS2 hb hlc ⊢
  have HLm := Lib.hid hlm
  rw [← hlm] at HMg hlc
  clear hX hF hM hln hln' hlm hR hR' hc1 hc2 hd1 hd2
  obtain ⟨W0, hW0⟩ : ∃ W0 : World, W0 = ((w.alloc (.cells #[.int .i64 (m : Int), .int .i64 to, .int .i64 lo, .slice A ln c] 24)).alloc (.cells #[.int .i64 mo', .int .i64 to', .int .i64 lo', .slice A' ln' c'] 24)).alloc (.cells #[.int .i64 0, .int .i64 0, .int .i64 0, .slice none 0 0] 24) := ⟨_, rfl⟩
  have hz0 : W0.heap.size = w.heap.size + 3 := by rw [hW0]; simp
  have HB0 : Hid (Below w.heap.size w W0) := Lib.hid (by rw [hW0]; exact (((Below.refl _ _).alloc (Nat.le_refl _) _).alloc (by simp) _).alloc (by simp <;> omega) _)
  have HG0 : Hid (W0.heap[w.heap.size]? = some (.cells #[.int .i64 (m : Int), .int .i64 to, .int .i64 lo, .slice A ln c] 24 (0, 0))) := Lib.hid (by rw [hW0, Below.heap_alloc _ _ _ (by simp <;> omega)]; exact blk_under _ _ _)
  have HG1 : Hid (W0.heap[w.heap.size + 1]? = some (.cells #[.int .i64 mo', .int .i64 to', .int .i64 lo', .slice A' ln' c'] 24 (0, 0))) := Lib.hid (by rw [hW0, Below.heap_alloc _ _ _ (by simp)]; exact blk_over _ _ _)
  have HG2 : Hid (W0.heap[w.heap.size + 2]? = some (.cells #[.int .i64 0, .int .i64 0, .int .i64 0, .slice none 0 0] 24 (0, 0))) := Lib.hid (by
    rw [hW0]
    have := Deep.blk_alloc_new ((w.alloc (.cells #[.int .i64 (m : Int), .int .i64 to, .int .i64 lo, .slice A ln c] 24)).alloc (.cells #[.int .i64 mo', .int .i64 to', .int .i64 lo', .slice A' ln' c'] 24)) (.cells #[.int .i64 0, .int .i64 0, .int .i64 0, .slice none 0 0] 24)
    rwa [World.size_alloc, World.size_alloc] at this)
  have HSb : Hid ((Try.prog.info? 24).map (fun i => i.size) = some (#[Value.int .i64 0, .int .i64 0, .int .i64 0, .slice none 0 0] : Array Value).size) := Lib.hid (by kernel_rfl)
  have HAl : Hid ((#[Value.int .i64 0, .int .i64 0, .int .i64 0, .slice none 0 0] : Array Value).all (·.oneCell') = true) := Lib.hid (by simp [Value.oneCell'])
  have HCell : Hid (∀ W, Below (w.heap.size + 3) W0 W → (W.cell? ⟨w.heap.size, 0, none⟩ = some (.int .i64 (m : Int)) ∧ W.cell? ⟨w.heap.size, 1, none⟩ = some (.int .i64 to) ∧ W.cell? ⟨w.heap.size, 2, none⟩ = some (.int .i64 lo) ∧ W.cell? ⟨w.heap.size, 3, none⟩ = some (.slice A ln c)) ∧ (W.cell? ⟨w.heap.size + 1, 0, none⟩ = some (.int .i64 mo') ∧ W.cell? ⟨w.heap.size + 1, 1, none⟩ = some (.int .i64 to') ∧ W.cell? ⟨w.heap.size + 1, 2, none⟩ = some (.int .i64 lo') ∧ W.cell? ⟨w.heap.size + 1, 3, none⟩ = some (.slice A' ln' c'))) := Lib.hid (fun W h => by
    have hg := (h.block w.heap.size (by omega)).trans HG0.out
    have hg1 := (h.block (w.heap.size + 1) (by omega)).trans HG1.out
    exact ⟨⟨cell_of_row _ _ 0 _ _ _ hg, cell_of_row _ _ 1 _ _ _ hg, cell_of_row _ _ 2 _ _ _ hg, cell_of_row _ _ 3 _ _ _ hg⟩, cell_of_row _ _ 0 _ _ _ hg1, cell_of_row _ _ 1 _ _ _ hg1, cell_of_row _ _ 2 _ _ _ hg1, cell_of_row _ _ 3 _ _ _ hg1⟩)
  have HOut : Hid (∀ W, Below (w.heap.size + 3) W0 W → W.heap[w.heap.size + 2]? = some (.cells #[.int .i64 0, .int .i64 0, .int .i64 0, .slice none 0 0] 24 (0, 0))) := Lib.hid (fun W h => (h.block (w.heap.size + 2) (by omega)).trans HG2.out)
  have HBr : Hid (Below (w.heap.size + 3) W0 W0) := Lib.hid (Below.refl _ _)
  have hws : IntKind.i64.wrap (to + to') = to + to' := by simp only [IntKind.wrap_i64]; omega
  have HBe := HB0.out
  rw [hW0] at HBe
  have HBe := Lib.hid HBe
  go_enter Try.func27, Try.ntmps27
  obtain ⟨⟨c0, c1, c2, c3⟩, d0, d1, d2, d3⟩ := HCell.out _ HBr.out
  by_cases hmm : (m : Int) = mo'
  · have hne : ((m : Int) != mo') = false := by simpa using hmm
    have Hmm := Lib.hid hmm
    clear hmm
    by_cases ho : 1125899906842624 < to + to'
    · have d9 : decide (1125899906842624 < to + to') = true := by simpa using ho
      have HXe : X = (su0, 20) := by rw [HX.out, if_neg (by simpa using Hmm.out), if_pos ho]
      go_wp2_with fail
      refine bodyPost_ret (v := .tuple #[.agg #[.int .i64 0, .int .i64 0, .int .i64 0, .slice none 0 0], .int .i64 20]) ?_ rfl ⟨⟨_, by rw [HXe], ?_⟩, HBe.out⟩
      · rw [results_cell_tmp1 rfl]; go_simp <;> rfl
      · rw [HXe]; exact ⟨_, rfl, CRempty⟩
    · have d9 : decide (1125899906842624 < to + to') = false := by simpa using ho
      have HXk : Hid (X = (mgS ⟨(m : Int), to, lo, cs⟩ ⟨mo', to', lo', cs'⟩, 0)) := Lib.hid (by rw [HX.out, if_neg (by simpa using Hmm.out), if_neg ho])
      go_wp2_with fail
      rw [← hW0]
      have HWa : Hid (Below (w.heap.size + 3) W0 (W0.alloc (.cells #[.slice A ln c, .slice A' ln' c'] 22))) := Lib.hid ((Below.refl _ _).alloc (by omega) _)
      have hbk : (W0.alloc (.cells #[.slice A ln c, .slice A' ln' c'] 22)).heap[w.heap.size + 1 + 1 + 1]? = some (.cells #[.slice A ln c, .slice A' ln' c'] 22 (0, 0)) := by
        have := Deep.blk_alloc_new W0 (.cells #[.slice A ln c, .slice A' ln' c'] 22)
        rw [hz0] at this; exact this
      have HWb := Lib.hid (HB0.out.trans (HWa.out.mono (by omega)))
      refine (HCc.out _ _ hbk (HS1.out.below HWb.out) (HS2.out.below HWb.out)).mono ?_
      rintro e w1 ⟨⟨v, rfl, hrow⟩, hb1⟩
      obtain ⟨A9, c9, rfl, _, _, _⟩ := rs_own hrow
      have HCR := Lib.hid (CR.own hrow)
      have HB1 : Hid (Below (w.heap.size + 3) W0 w1) := Lib.hid (HWa.out.trans (hb1.mono (by have := HWa.out.size; omega)))
      clear hrow hb1 hbk c0 c1 c2 c3 d0 d1 d2 d3
      go_wp2_with fail
      refine (HCo.out _ _ _ HCR.out).mono ?_
      rintro e w2 ⟨rfl, hm2, hb2⟩
      have HB2 : Hid (Below (w.heap.size + 3) W0 w2) := Lib.hid (HB1.out.trans (hb2.mono (by have := HB1.out.size; omega)))
      obtain ⟨g, hg⟩ : ∃ g, g = w1.heap.size := ⟨_, rfl⟩
      have hgl : w.heap.size + 3 ≤ g := by have := HB1.out.size; omega
      rw [← hg] at hm2 ⊢
      have HM2 := Lib.hid hm2
      clear hb2 hm2 hg HCR
      have hlen2 := fun ty => HM2.out.len ty
      rw [← HLm.out] at hlen2
      obtain ⟨⟨c0, c1, c2, c3⟩, d0, d1, d2, d3⟩ := HCell.out _ HB2.out
      by_cases hlt : (m : Int) < (lm : Int)
      · have d8 : decide ((m : Int) < (lm : Int)) = true := by simpa using hlt
        have hml : m < M.length := by rw [← HLm.out]; omega
        obtain ⟨r0, r1⟩ := rkN_bd HF.out m hml
        have HRk := Lib.hid (fun (D : List Ct) (h : Rkd D M) (hm : m < D.length) => rkN_at h m hm)
        have HMS : Hid (mgS ⟨(m : Int), to, lo, cs⟩ ⟨mo', to', lo', cs'⟩ = ⟨(m : Int), to + to', lo + lo' + rkN M m, loC M (rkN M m)⟩) := Lib.hid (by rw [HMg.out, if_pos hlt])
        obtain ⟨d, hd⟩ : ∃ d, d = rkN M m := ⟨_, rfl⟩
        rw [← hd] at r0 r1 HRk HMS
        clear hd
        have HMl := Lib.hid hml
        have hwC : IntKind.i64.wrap (lo + lo') = lo + lo' := by simp only [IntKind.wrap_i64]; omega
        have hM1 : M.length ≤ 1000000 := by have := HF.out.2.2.2; omega
        go_wp2_with fail
        refine (counters_any g M HF.out.2.2.1 hM1 _ HM2.out).mono ?_
        rintro e w3 ⟨⟨vr, rfl, hrow3⟩, hb3⟩
        obtain ⟨A3, e3, rfl, _, _, _⟩ := rs_own hrow3
        have HCR3 := Lib.hid (CR.own hrow3)
        have HB3 : Hid (Below (w.heap.size + 3) W0 w3) := Lib.hid (HB2.out.trans (hb3.mono (by have := HB2.out.size; omega)))
        have HM3 := Lib.hid (HM2.out.below hb3)
        clear hrow3 hb3 hlen2
        go_wp2_with fail
        refine (ranked_any A3 e3 M hM1 (by have := HMl.out; omega) _ HCR3.out).mono ?_
        rintro e w4 ⟨⟨g4, c4, D, rfl, hcap, hD, hRs⟩, hb4⟩
        have HB4 : Hid (Below (w.heap.size + 3) W0 w4) := Lib.hid (HB3.out.trans (hb4.mono (by have := HB3.out.size; omega)))
        have HM4 := Lib.hid (HM3.out.below hb4)
        have hDl : m < D.length := by rw [hD.1.length_eq]; exact HMl.out
        have hcell : g4 < w4.heap.size ∧ w4.cell? ⟨g4, m * 2 + 1, none⟩ = some (.int .i64 d) := by
          obtain ⟨b, off, e, h1, h2⟩ := hRs (m * 2 + 1) (by rw [ct_len]; omega)
          injection e with e
          injection e with e1 e2
          subst e1 e2
          obtain ⟨_, k1⟩ := ct_get D m hDl
          obtain ⟨_, k2⟩ := List.getElem?_eq_some_iff.1 k1
          rw [Nat.zero_add] at h2
          exact ⟨h1, by rw [h2, k2, HRk.out D hD hDl]⟩
        obtain ⟨hg4, hcell⟩ := hcell
        have hmI : (m : Int) < (M.length : Int) := by have := HMl.out; omega
        have hm0 : (0 : Int) ≤ (m : Int) := by omega
        clear hRs hb4 hD hDl HCR3
        go_wp2_with fail
        refine (lower_any g M d HF.out ⟨r0, r1⟩ _ HM4.out).mono ?_
        rintro e w5 ⟨rfl, hm5, hb5⟩
        have HBT : Hid (Below (w.heap.size + 3) W0 w5) := Lib.hid (HB4.out.trans (hb5.mono hgl))
        have HMM := Lib.hid hm5
        clear hm5 hb5 hcell c0 c1 c2 c3 d0 d1 d2 d3
        go_wp2_with fail
        obtain ⟨L9, hL9⟩ : ∃ L9, L9 = loC M d := ⟨_, rfl⟩
        rw [← hL9] at HMM
        have HX9 : Hid (X = (⟨(m : Int), to + to', lo + lo' + d, L9⟩, 0)) := Lib.hid (by rw [HXk.out, HMS.out, hL9])
        have HL9 : Hid (L9.length ≤ 1000000 ∧ ∀ p ∈ L9, p.1.size ≤ 1000) := Lib.hid (by rw [hL9]; exact ⟨Nat.le_trans (len_loC _ _) (by have := HF.out.2.2.2; omega), ks_loC HF.out.2.2.1 d⟩)
        clear hL9
        have HDw : Hid (∀ n, Below (w.heap.size + 3) W0 (w5.drewN n)) := Lib.hid (fun n => below_drewN HBT.out n)
        have HMd : Hid (∀ n, Hm (w5.drewN n) g L9) := Lib.hid (fun n => HMM.out)
        have hwB : IntKind.i64.wrap (lo + lo' + d) = lo + lo' + d := by simp only [IntKind.wrap_i64]; omega
        refine wp_region_held_drew (S := fun W => W.cell? ⟨w.heap.size, 0, none⟩ = some (.int .i64 (m : Int)) ∧ W.cell? ⟨w.heap.size, 1, none⟩ = some (.int .i64 to) ∧ W.cell? ⟨w.heap.size, 2, none⟩ = some (.int .i64 lo) ∧ W.cell? ⟨w.heap.size + 1, 1, none⟩ = some (.int .i64 to') ∧ W.cell? ⟨w.heap.size + 1, 2, none⟩ = some (.int .i64 lo')) (by kernel_rfl) ?_ (fun hHeld => ?_)
        · (try dsimp only); exact ⟨(HCell.out _ (HDw.out _)).1.1, (HCell.out _ (HDw.out _)).1.2.1, (HCell.out _ (HDw.out _)).1.2.2.1, (HCell.out _ (HDw.out _)).2.2.1, (HCell.out _ (HDw.out _)).2.2.2.1⟩
        try simp only [List.getElem_toArray, List.getElem_cons_zero, List.getElem_cons_succ, Act.put, List.setIfInBounds_toArray, List.set_cons_zero, List.set_cons_succ]
        refine wpAnyH_take (i := 0) (v := ?_) rfl (by kernel_rfl) (by kernel_rfl) (by kernel_rfl) (fun _ _ _ h => h) (Or.inl ⟨by rfl, ?_⟩) (by assumption) ?_
        rotate_left 1
        · (intro w' hSw; (try dsimp only at hSw); go_simp; (try (with_reducible rfl)))
        try simp only [List.getElem_toArray, List.getElem_cons_zero, Act.put, List.setIfInBounds_toArray, List.set_cons_zero, List.set_cons_succ]
        refine wpAnyH_take (i := 1) (v := ?_) rfl (by kernel_rfl) (by kernel_rfl) (by kernel_rfl) (fun _ _ _ h => h) (Or.inl ⟨by rfl, ?_⟩) (by assumption) ?_
        rotate_left 1
        · (intro w' hSw; (try dsimp only at hSw); go_simp; (try (with_reducible rfl)))
        try simp only [List.getElem_toArray, List.getElem_cons_zero, List.getElem_cons_succ, Act.put, List.setIfInBounds_toArray, List.set_cons_zero, List.set_cons_succ]
        refine wpAnyH_take (i := 2) (v := ?_) rfl (by kernel_rfl) (by kernel_rfl) (by kernel_rfl) (fun _ _ _ h => h) (Or.inl ⟨by rfl, ?_⟩) (by assumption) ?_
        rotate_left 1
        · (intro w' hSw; (try dsimp only at hSw); go_simp; (try (with_reducible rfl)))
        try simp only [List.getElem_toArray, List.getElem_cons_zero, List.getElem_cons_succ, Act.put, List.setIfInBounds_toArray, List.set_cons_zero, List.set_cons_succ]
        refine wpAnyH_take (i := 3) (v := ?_) rfl (by kernel_rfl) (by kernel_rfl) (by kernel_rfl) (fun _ _ _ h => h) (Or.inl ⟨by rfl, ?_⟩) (by assumption) ?_
        rotate_left 1
        · (intro w' hSw; (try dsimp only at hSw); go_simp; (try (with_reducible rfl)))
        try simp only [List.getElem_toArray, List.getElem_cons_zero, List.getElem_cons_succ, Act.put, List.setIfInBounds_toArray, List.set_cons_zero, List.set_cons_succ]
        refine wpAnyH_take (i := 4) (v := ?_) rfl (by kernel_rfl) (by kernel_rfl) (by kernel_rfl) (fun _ _ _ h => h) (Or.inl ⟨by rfl, ?_⟩) (by assumption) ?_
        rotate_left 1
        · (intro w' hSw; (try dsimp only at hSw); go_simp; (try (with_reducible rfl)))
        try simp only [List.getElem_toArray, List.getElem_cons_zero, List.getElem_cons_succ, Act.put, List.setIfInBounds_toArray, List.set_cons_zero, List.set_cons_succ]
        refine wpAnyH_take (i := 5) (v := ?_) rfl (by kernel_rfl) (by kernel_rfl) (by kernel_rfl) (fun _ _ _ h => h) (Or.inl ⟨by rfl, ?_⟩) (by assumption) ?_
        rotate_left 1
        · (intro w' hSw; (try dsimp only at hSw); go_simp; (try (with_reducible rfl)))
        try simp only [List.getElem_toArray, List.getElem_cons_zero, List.getElem_cons_succ, Act.put, List.setIfInBounds_toArray, List.set_cons_zero, List.set_cons_succ]
        refine wpAnyH_take (i := 6) (v := ?_) rfl (by kernel_rfl) (by kernel_rfl) (by kernel_rfl) (fun _ _ _ h => h) (Or.inl ⟨by rfl, ?_⟩) (by assumption) ?_
        rotate_left 1
        · (intro w' hSw; (try dsimp only at hSw); go_simp; (try (with_reducible rfl)))
        try simp only [List.getElem_toArray, List.getElem_cons_zero, List.getElem_cons_succ, Act.put, List.setIfInBounds_toArray, List.set_cons_zero, List.set_cons_succ]
        refine wpAnyH_take (i := 7) (v := ?_) rfl (by kernel_rfl) (by kernel_rfl) (by kernel_rfl) (fun _ _ _ h => h) (Or.inl ⟨by rfl, ?_⟩) (by assumption) ?_
        rotate_left 1
        · (intro w' hSw; (try dsimp only at hSw); go_simp; (try (with_reducible rfl)))
        try simp only [List.getElem_toArray, List.getElem_cons_zero, List.getElem_cons_succ, Act.put, List.setIfInBounds_toArray, List.set_cons_zero, List.set_cons_succ]
        refine wpAnyH_take (i := 8) (v := ?_) rfl (by kernel_rfl) (by kernel_rfl) (by kernel_rfl) (fun _ _ _ h => h) (Or.inl ⟨by rfl, ?_⟩) (by assumption) ?_
        rotate_left 1
        · (intro w' hSw; (try dsimp only at hSw); go_simp; (try (with_reducible rfl)))
        try simp only [List.getElem_toArray, List.getElem_cons_zero, List.getElem_cons_succ, Act.put, List.setIfInBounds_toArray, List.set_cons_zero, List.set_cons_succ]
        refine wpAnyH_take (i := 9) (v := ?_) rfl (by kernel_rfl) (by kernel_rfl) (by kernel_rfl) (fun _ _ _ h => h) (Or.inl ⟨by rfl, ?_⟩) (by assumption) ?_
        rotate_left 1
        · (intro w' hSw; (try dsimp only at hSw); go_simp; (try (with_reducible rfl)))
        try simp only [List.getElem_toArray, List.getElem_cons_zero, List.getElem_cons_succ, Act.put, List.setIfInBounds_toArray, List.set_cons_zero, List.set_cons_succ]
        refine wpAnyH_take (i := 10) (v := ?_) rfl (by kernel_rfl) (by kernel_rfl) (by kernel_rfl) (fun _ _ _ h => h) (Or.inl ⟨by rfl, ?_⟩) (by assumption) ?_
        rotate_left 1
        · (intro w' hSw; (try dsimp only at hSw); go_simp; (try (with_reducible rfl)))
        try simp only [List.getElem_toArray, List.getElem_cons_zero, List.getElem_cons_succ, Act.put, List.setIfInBounds_toArray, List.set_cons_zero, List.set_cons_succ]
        refine wpAnyH_take (i := 11) (v := ?_) rfl (by kernel_rfl) (by kernel_rfl) (by kernel_rfl) (fun _ _ _ h => h) (Or.inl ⟨by rfl, ?_⟩) (by assumption) ?_
        rotate_left 1
        · (intro w' hSw; (try dsimp only at hSw); go_simp; (try (with_reducible rfl)))
        try simp only [List.getElem_toArray, List.getElem_cons_zero, List.getElem_cons_succ, Act.put, List.setIfInBounds_toArray, List.set_cons_zero, List.set_cons_succ]
        refine wpAnyH_take (i := 12) (v := ?_) rfl (by kernel_rfl) (by kernel_rfl) (by kernel_rfl) (fun _ _ _ h => h) (Or.inl ⟨by rfl, ?_⟩) (by assumption) ?_
        rotate_left 1
        · (intro w' hSw; (try dsimp only at hSw); go_simp; (try (with_reducible rfl)))
        try simp only [List.getElem_toArray, List.getElem_cons_zero, List.getElem_cons_succ, Act.put, List.setIfInBounds_toArray, List.set_cons_zero, List.set_cons_succ]
        refine wpAnyH_take (i := 13) (v := ?_) rfl (by kernel_rfl) (by kernel_rfl) (by kernel_rfl) (fun _ _ _ h => h) (Or.inl ⟨by rfl, ?_⟩) (by assumption) ?_
        rotate_left 1
        · (intro w' hSw; (try dsimp only at hSw); go_simp; (try (with_reducible rfl)))
        try simp only [List.getElem_toArray, List.getElem_cons_zero, List.getElem_cons_succ, Act.put, List.setIfInBounds_toArray, List.set_cons_zero, List.set_cons_succ]
        refine wpAnyH_take (i := 14) (v := ?_) rfl (by kernel_rfl) (by kernel_rfl) (by kernel_rfl) (fun _ _ _ h => h) (Or.inl ⟨by rfl, ?_⟩) (by assumption) ?_
        rotate_left 1
        · (intro w' hSw; (try dsimp only at hSw); go_simp; (try (with_reducible rfl)))
        try simp only [List.getElem_toArray, List.getElem_cons_zero, List.getElem_cons_succ, Act.put, List.setIfInBounds_toArray, List.set_cons_zero, List.set_cons_succ]
        refine wpAnyH_ready (rs := [15]) (by kernel_rfl) (by simp) ?_
        refine AllReadyH.cons rfl (fun K hK => ?_) AllReadyH.nil
        go_simp
        (go_at_call 42; (refine (counters_any _ L9 HL9.out.2 HL9.out.1 _ (HMd.out _)).mono ?_); rintro e w8 ⟨⟨vr, rfl, hrow⟩, hb8⟩; have HB8 : Hid (Below (w.heap.size + 3) W0 w8) := Lib.hid ((HDw.out _).trans (hb8.mono (by have := (HDw.out 0).size; simp at this ⊢; omega))); obtain ⟨A9, c9, rfl, hA1, hA2, hCR⟩ := SlV.own hrow; have HR8 := Lib.hid (And.intro hA1 (And.intro hA2 hCR)); clear hrow hb8 hA1 hA2 hCR)
        try go_wp2_with fail
        refine hK.out _ _ ?_ (fun hHeld => ?_)
        · (try dsimp only); exact ⟨(HCell.out _ HB8.out).1.1, (HCell.out _ HB8.out).1.2.1, (HCell.out _ HB8.out).1.2.2.1, (HCell.out _ HB8.out).2.2.1, (HCell.out _ HB8.out).2.2.2.1⟩
        clear hK K
        try simp only [List.getElem_toArray, List.getElem_cons_zero, List.getElem_cons_succ, Act.put, List.setIfInBounds_toArray, List.set_cons_zero, List.set_cons_succ]
        refine wpAnyH_take (i := 16) (v := ?_) rfl (by kernel_rfl) (by kernel_rfl) (by kernel_rfl) (fun _ _ _ h => h) (Or.inl ⟨by rfl, ?_⟩) (by assumption) ?_
        rotate_left 1
        · (intro w' hSw; (try dsimp only at hSw); go_simp; (try (with_reducible rfl)))
        try simp only [List.getElem_toArray, List.getElem_cons_zero, List.getElem_cons_succ, Act.put, List.setIfInBounds_toArray, List.set_cons_zero, List.set_cons_succ]
        refine wpAnyH_ready (rs := [17]) (by kernel_rfl) (by simp) ?_
        refine AllReadyH.cons rfl (fun K hK => ?_) AllReadyH.nil
        rw [if_pos (by rfl)]
        refine wp_store_row 24 _ _ rfl (w.heap.size + 2) #[.int .i64 (m : Int), .int .i64 (to + to'), .int .i64 (lo + lo' + d), .slice A9 L9.length c9] rfl rfl 24 _ (HOut.out _ HB8.out) HSb.out rfl (by simp [Value.oneCell']) ?_
        refine hK.out _ _ ?_ (fun hHeld => ?_)
        · (try dsimp only); exact ⟨(cell_setRow_other _ _ _ _ (by show w.heap.size ≠ w.heap.size + 2; omega)).trans ((HCell.out _ HB8.out).1.1), (cell_setRow_other _ _ _ _ (by show w.heap.size ≠ w.heap.size + 2; omega)).trans ((HCell.out _ HB8.out).1.2.1), (cell_setRow_other _ _ _ _ (by show w.heap.size ≠ w.heap.size + 2; omega)).trans ((HCell.out _ HB8.out).1.2.2.1), (cell_setRow_other _ _ _ _ (by show w.heap.size + 1 ≠ w.heap.size + 2; omega)).trans ((HCell.out _ HB8.out).2.2.1), (cell_setRow_other _ _ _ _ (by show w.heap.size + 1 ≠ w.heap.size + 2; omega)).trans ((HCell.out _ HB8.out).2.2.2.1)⟩
        clear hK K
        try simp only [List.getElem_toArray, List.getElem_cons_zero, List.getElem_cons_succ, Act.put]
        refine wpAnyH_take (i := 18) (v := ?_) rfl (by kernel_rfl) (by kernel_rfl) (by kernel_rfl) (fun _ _ _ h => h) (Or.inl ⟨by rfl, ?_⟩) (by assumption) ?_
        rotate_left 1
        · (intro w' hSw; (try dsimp only at hSw); go_simp; (try (with_reducible rfl)))
        try simp only [List.getElem_toArray, List.getElem_cons_zero, List.getElem_cons_succ, Act.put, List.setIfInBounds_toArray, List.set_cons_zero, List.set_cons_succ]
        refine wpAnyH_done (by kernel_rfl) ?_ _

        have ho := setRow_heap w8 (w.heap.size + 2) _ #[.int .i64 (m : Int), .int .i64 (to + to'), .int .i64 (lo + lo' + d), .slice A9 L9.length c9] _ _ (HOut.out _ HB8.out)
        have hB9 : Below w.heap.size w (w8.setRow (w.heap.size + 2) #[.int .i64 (m : Int), .int .i64 (to + to'), .int .i64 (lo + lo' + d), .slice A9 L9.length c9]) := below_setRow (HB0.out.trans (HB8.out.mono (by omega))) (by omega)
        have k0 := cell_of_row _ _ 0 _ _ _ ho
        have k1 := cell_of_row _ _ 1 _ _ _ ho
        have k2 := cell_of_row _ _ 2 _ _ _ ho
        have k3 := cell_of_row _ _ 3 _ _ _ ho
        simp at k0 k1 k2 k3
        have HR9 : Hid (CR (w8.setRow (w.heap.size + 2) #[.int .i64 (m : Int), .int .i64 (to + to'), .int .i64 (lo + lo' + d), .slice A9 L9.length c9]) A9 L9) := Lib.hid (HR8.out.2.2.keep (fun b cs2 h1 => setRow_other _ _ _ _ (fun e => by
          subst e
          rw [HOut.out _ HB8.out] at h1
          injection h1 with h1
          injection h1 with _ h1
          exact absurd h1 (by decide))))
        go_wp2_with fail
        refine bodyPost_ret (v := .tuple #[.agg #[.int .i64 (m : Int), .int .i64 (to + to'), .int .i64 (lo + lo' + d), .slice A9 L9.length c9], .int .i64 0]) ?_ rfl ⟨⟨_, by rw [HX9.out], ?_⟩, hB9⟩
        · rw [results_cell_tmp1 rfl]; go_simp <;> rfl
        · rw [HX9.out]; exact ⟨_, rfl, A9, c9, rfl, HR8.out.1, HR8.out.2.1, HR9.out⟩
      · have d8 : decide ((m : Int) < (lm : Int)) = false := by simpa using hlt
        have HMS : Hid (mgS ⟨(m : Int), to, lo, cs⟩ ⟨mo', to', lo', cs'⟩ = ⟨(m : Int), to + to', lo + lo', M⟩) := Lib.hid (by rw [HMg.out, if_neg hlt])
        have HMM := HM2
        have HBT := HB2
        go_wp2_with fail
        clear hlen2 c0 c1 c2 c3 d0 d1 d2 d3
        obtain ⟨L9, hL9⟩ : ∃ L9, L9 = M := ⟨_, rfl⟩
        rw [← hL9] at HMM
        have HX9 : Hid (X = (⟨(m : Int), to + to', lo + lo', L9⟩, 0)) := Lib.hid (by rw [HXk.out, HMS.out, hL9])
        have HL9 : Hid (L9.length ≤ 1000000 ∧ ∀ p ∈ L9, p.1.size ≤ 1000) := Lib.hid (by rw [hL9]; exact ⟨by have := HF.out.2.2.2; omega, HF.out.2.2.1⟩)
        clear hL9
        have HDw : Hid (∀ n, Below (w.heap.size + 3) W0 (w2.drewN n)) := Lib.hid (fun n => below_drewN HBT.out n)
        have HMd : Hid (∀ n, Hm (w2.drewN n) g L9) := Lib.hid (fun n => HMM.out)
        have hwB : IntKind.i64.wrap (lo + lo') = lo + lo' := by simp only [IntKind.wrap_i64]; omega
        refine wp_region_held_drew (S := fun W => W.cell? ⟨w.heap.size, 0, none⟩ = some (.int .i64 (m : Int)) ∧ W.cell? ⟨w.heap.size, 1, none⟩ = some (.int .i64 to) ∧ W.cell? ⟨w.heap.size, 2, none⟩ = some (.int .i64 lo) ∧ W.cell? ⟨w.heap.size + 1, 1, none⟩ = some (.int .i64 to') ∧ W.cell? ⟨w.heap.size + 1, 2, none⟩ = some (.int .i64 lo')) (by kernel_rfl) ?_ (fun hHeld => ?_)
        · (try dsimp only); exact ⟨(HCell.out _ (HDw.out _)).1.1, (HCell.out _ (HDw.out _)).1.2.1, (HCell.out _ (HDw.out _)).1.2.2.1, (HCell.out _ (HDw.out _)).2.2.1, (HCell.out _ (HDw.out _)).2.2.2.1⟩
        try simp only [List.getElem_toArray, List.getElem_cons_zero, List.getElem_cons_succ, Act.put, List.setIfInBounds_toArray, List.set_cons_zero, List.set_cons_succ]
        refine wpAnyH_take (i := 0) (v := ?_) rfl (by kernel_rfl) (by kernel_rfl) (by kernel_rfl) (fun _ _ _ h => h) (Or.inl ⟨by rfl, ?_⟩) (by assumption) ?_
        rotate_left 1
        · (intro w' hSw; (try dsimp only at hSw); go_simp; (try (with_reducible rfl)))
        try simp only [List.getElem_toArray, List.getElem_cons_zero, Act.put, List.setIfInBounds_toArray, List.set_cons_zero, List.set_cons_succ]
        refine wpAnyH_take (i := 1) (v := ?_) rfl (by kernel_rfl) (by kernel_rfl) (by kernel_rfl) (fun _ _ _ h => h) (Or.inl ⟨by rfl, ?_⟩) (by assumption) ?_
        rotate_left 1
        · (intro w' hSw; (try dsimp only at hSw); go_simp; (try (with_reducible rfl)))
        try simp only [List.getElem_toArray, List.getElem_cons_zero, List.getElem_cons_succ, Act.put, List.setIfInBounds_toArray, List.set_cons_zero, List.set_cons_succ]
        refine wpAnyH_take (i := 2) (v := ?_) rfl (by kernel_rfl) (by kernel_rfl) (by kernel_rfl) (fun _ _ _ h => h) (Or.inl ⟨by rfl, ?_⟩) (by assumption) ?_
        rotate_left 1
        · (intro w' hSw; (try dsimp only at hSw); go_simp; (try (with_reducible rfl)))
        try simp only [List.getElem_toArray, List.getElem_cons_zero, List.getElem_cons_succ, Act.put, List.setIfInBounds_toArray, List.set_cons_zero, List.set_cons_succ]
        refine wpAnyH_take (i := 3) (v := ?_) rfl (by kernel_rfl) (by kernel_rfl) (by kernel_rfl) (fun _ _ _ h => h) (Or.inl ⟨by rfl, ?_⟩) (by assumption) ?_
        rotate_left 1
        · (intro w' hSw; (try dsimp only at hSw); go_simp; (try (with_reducible rfl)))
        try simp only [List.getElem_toArray, List.getElem_cons_zero, List.getElem_cons_succ, Act.put, List.setIfInBounds_toArray, List.set_cons_zero, List.set_cons_succ]
        refine wpAnyH_take (i := 4) (v := ?_) rfl (by kernel_rfl) (by kernel_rfl) (by kernel_rfl) (fun _ _ _ h => h) (Or.inl ⟨by rfl, ?_⟩) (by assumption) ?_
        rotate_left 1
        · (intro w' hSw; (try dsimp only at hSw); go_simp; (try (with_reducible rfl)))
        try simp only [List.getElem_toArray, List.getElem_cons_zero, List.getElem_cons_succ, Act.put, List.setIfInBounds_toArray, List.set_cons_zero, List.set_cons_succ]
        refine wpAnyH_take (i := 5) (v := ?_) rfl (by kernel_rfl) (by kernel_rfl) (by kernel_rfl) (fun _ _ _ h => h) (Or.inl ⟨by rfl, ?_⟩) (by assumption) ?_
        rotate_left 1
        · (intro w' hSw; (try dsimp only at hSw); go_simp; (try (with_reducible rfl)))
        try simp only [List.getElem_toArray, List.getElem_cons_zero, List.getElem_cons_succ, Act.put, List.setIfInBounds_toArray, List.set_cons_zero, List.set_cons_succ]
        refine wpAnyH_take (i := 6) (v := ?_) rfl (by kernel_rfl) (by kernel_rfl) (by kernel_rfl) (fun _ _ _ h => h) (Or.inl ⟨by rfl, ?_⟩) (by assumption) ?_
        rotate_left 1
        · (intro w' hSw; (try dsimp only at hSw); go_simp; (try (with_reducible rfl)))
        try simp only [List.getElem_toArray, List.getElem_cons_zero, List.getElem_cons_succ, Act.put, List.setIfInBounds_toArray, List.set_cons_zero, List.set_cons_succ]
        refine wpAnyH_take (i := 7) (v := ?_) rfl (by kernel_rfl) (by kernel_rfl) (by kernel_rfl) (fun _ _ _ h => h) (Or.inl ⟨by rfl, ?_⟩) (by assumption) ?_
        rotate_left 1
        · (intro w' hSw; (try dsimp only at hSw); go_simp; (try (with_reducible rfl)))
        try simp only [List.getElem_toArray, List.getElem_cons_zero, List.getElem_cons_succ, Act.put, List.setIfInBounds_toArray, List.set_cons_zero, List.set_cons_succ]
        refine wpAnyH_take (i := 8) (v := ?_) rfl (by kernel_rfl) (by kernel_rfl) (by kernel_rfl) (fun _ _ _ h => h) (Or.inl ⟨by rfl, ?_⟩) (by assumption) ?_
        rotate_left 1
        · (intro w' hSw; (try dsimp only at hSw); go_simp; (try (with_reducible rfl)))
        try simp only [List.getElem_toArray, List.getElem_cons_zero, List.getElem_cons_succ, Act.put, List.setIfInBounds_toArray, List.set_cons_zero, List.set_cons_succ]
        refine wpAnyH_take (i := 9) (v := ?_) rfl (by kernel_rfl) (by kernel_rfl) (by kernel_rfl) (fun _ _ _ h => h) (Or.inl ⟨by rfl, ?_⟩) (by assumption) ?_
        rotate_left 1
        · (intro w' hSw; (try dsimp only at hSw); go_simp; (try (with_reducible rfl)))
        try simp only [List.getElem_toArray, List.getElem_cons_zero, List.getElem_cons_succ, Act.put, List.setIfInBounds_toArray, List.set_cons_zero, List.set_cons_succ]
        refine wpAnyH_take (i := 10) (v := ?_) rfl (by kernel_rfl) (by kernel_rfl) (by kernel_rfl) (fun _ _ _ h => h) (Or.inl ⟨by rfl, ?_⟩) (by assumption) ?_
        rotate_left 1
        · (intro w' hSw; (try dsimp only at hSw); go_simp; (try (with_reducible rfl)))
        try simp only [List.getElem_toArray, List.getElem_cons_zero, List.getElem_cons_succ, Act.put, List.setIfInBounds_toArray, List.set_cons_zero, List.set_cons_succ]
        refine wpAnyH_take (i := 11) (v := ?_) rfl (by kernel_rfl) (by kernel_rfl) (by kernel_rfl) (fun _ _ _ h => h) (Or.inl ⟨by rfl, ?_⟩) (by assumption) ?_
        rotate_left 1
        · (intro w' hSw; (try dsimp only at hSw); go_simp; (try (with_reducible rfl)))
        try simp only [List.getElem_toArray, List.getElem_cons_zero, List.getElem_cons_succ, Act.put, List.setIfInBounds_toArray, List.set_cons_zero, List.set_cons_succ]
        refine wpAnyH_take (i := 12) (v := ?_) rfl (by kernel_rfl) (by kernel_rfl) (by kernel_rfl) (fun _ _ _ h => h) (Or.inl ⟨by rfl, ?_⟩) (by assumption) ?_
        rotate_left 1
        · (intro w' hSw; (try dsimp only at hSw); go_simp; (try (with_reducible rfl)))
        try simp only [List.getElem_toArray, List.getElem_cons_zero, List.getElem_cons_succ, Act.put, List.setIfInBounds_toArray, List.set_cons_zero, List.set_cons_succ]
        refine wpAnyH_take (i := 13) (v := ?_) rfl (by kernel_rfl) (by kernel_rfl) (by kernel_rfl) (fun _ _ _ h => h) (Or.inl ⟨by rfl, ?_⟩) (by assumption) ?_
        rotate_left 1
        · (intro w' hSw; (try dsimp only at hSw); go_simp; (try (with_reducible rfl)))
        try simp only [List.getElem_toArray, List.getElem_cons_zero, List.getElem_cons_succ, Act.put, List.setIfInBounds_toArray, List.set_cons_zero, List.set_cons_succ]
        refine wpAnyH_take (i := 14) (v := ?_) rfl (by kernel_rfl) (by kernel_rfl) (by kernel_rfl) (fun _ _ _ h => h) (Or.inl ⟨by rfl, ?_⟩) (by assumption) ?_
        rotate_left 1
        · (intro w' hSw; (try dsimp only at hSw); go_simp; (try (with_reducible rfl)))
        try simp only [List.getElem_toArray, List.getElem_cons_zero, List.getElem_cons_succ, Act.put, List.setIfInBounds_toArray, List.set_cons_zero, List.set_cons_succ]
        refine wpAnyH_ready (rs := [15]) (by kernel_rfl) (by simp) ?_
        refine AllReadyH.cons rfl (fun K hK => ?_) AllReadyH.nil
        go_simp
        (go_at_call 42; (refine (counters_any _ L9 HL9.out.2 HL9.out.1 _ (HMd.out _)).mono ?_); rintro e w8 ⟨⟨vr, rfl, hrow⟩, hb8⟩; have HB8 : Hid (Below (w.heap.size + 3) W0 w8) := Lib.hid ((HDw.out _).trans (hb8.mono (by have := (HDw.out 0).size; simp at this ⊢; omega))); obtain ⟨A9, c9, rfl, hA1, hA2, hCR⟩ := SlV.own hrow; have HR8 := Lib.hid (And.intro hA1 (And.intro hA2 hCR)); clear hrow hb8 hA1 hA2 hCR)
        try go_wp2_with fail
        refine hK.out _ _ ?_ (fun hHeld => ?_)
        · (try dsimp only); exact ⟨(HCell.out _ HB8.out).1.1, (HCell.out _ HB8.out).1.2.1, (HCell.out _ HB8.out).1.2.2.1, (HCell.out _ HB8.out).2.2.1, (HCell.out _ HB8.out).2.2.2.1⟩
        clear hK K
        try simp only [List.getElem_toArray, List.getElem_cons_zero, List.getElem_cons_succ, Act.put, List.setIfInBounds_toArray, List.set_cons_zero, List.set_cons_succ]
        refine wpAnyH_take (i := 16) (v := ?_) rfl (by kernel_rfl) (by kernel_rfl) (by kernel_rfl) (fun _ _ _ h => h) (Or.inl ⟨by rfl, ?_⟩) (by assumption) ?_
        rotate_left 1
        · (intro w' hSw; (try dsimp only at hSw); go_simp; (try (with_reducible rfl)))
        try simp only [List.getElem_toArray, List.getElem_cons_zero, List.getElem_cons_succ, Act.put, List.setIfInBounds_toArray, List.set_cons_zero, List.set_cons_succ]
        refine wpAnyH_ready (rs := [17]) (by kernel_rfl) (by simp) ?_
        refine AllReadyH.cons rfl (fun K hK => ?_) AllReadyH.nil
        rw [if_pos (by rfl)]
        refine wp_store_row 24 _ _ rfl (w.heap.size + 2) #[.int .i64 (m : Int), .int .i64 (to + to'), .int .i64 (lo + lo'), .slice A9 L9.length c9] rfl rfl 24 _ (HOut.out _ HB8.out) HSb.out rfl (by simp [Value.oneCell']) ?_
        refine hK.out _ _ ?_ (fun hHeld => ?_)
        · (try dsimp only); exact ⟨(cell_setRow_other _ _ _ _ (by show w.heap.size ≠ w.heap.size + 2; omega)).trans ((HCell.out _ HB8.out).1.1), (cell_setRow_other _ _ _ _ (by show w.heap.size ≠ w.heap.size + 2; omega)).trans ((HCell.out _ HB8.out).1.2.1), (cell_setRow_other _ _ _ _ (by show w.heap.size ≠ w.heap.size + 2; omega)).trans ((HCell.out _ HB8.out).1.2.2.1), (cell_setRow_other _ _ _ _ (by show w.heap.size + 1 ≠ w.heap.size + 2; omega)).trans ((HCell.out _ HB8.out).2.2.1), (cell_setRow_other _ _ _ _ (by show w.heap.size + 1 ≠ w.heap.size + 2; omega)).trans ((HCell.out _ HB8.out).2.2.2.1)⟩
        clear hK K
        try simp only [List.getElem_toArray, List.getElem_cons_zero, List.getElem_cons_succ, Act.put]
        refine wpAnyH_take (i := 18) (v := ?_) rfl (by kernel_rfl) (by kernel_rfl) (by kernel_rfl) (fun _ _ _ h => h) (Or.inl ⟨by rfl, ?_⟩) (by assumption) ?_
        rotate_left 1
        · (intro w' hSw; (try dsimp only at hSw); go_simp; (try (with_reducible rfl)))
        try simp only [List.getElem_toArray, List.getElem_cons_zero, List.getElem_cons_succ, Act.put, List.setIfInBounds_toArray, List.set_cons_zero, List.set_cons_succ]
        refine wpAnyH_done (by kernel_rfl) ?_ _

        have ho := setRow_heap w8 (w.heap.size + 2) _ #[.int .i64 (m : Int), .int .i64 (to + to'), .int .i64 (lo + lo'), .slice A9 L9.length c9] _ _ (HOut.out _ HB8.out)
        have hB9 : Below w.heap.size w (w8.setRow (w.heap.size + 2) #[.int .i64 (m : Int), .int .i64 (to + to'), .int .i64 (lo + lo'), .slice A9 L9.length c9]) := below_setRow (HB0.out.trans (HB8.out.mono (by omega))) (by omega)
        have k0 := cell_of_row _ _ 0 _ _ _ ho
        have k1 := cell_of_row _ _ 1 _ _ _ ho
        have k2 := cell_of_row _ _ 2 _ _ _ ho
        have k3 := cell_of_row _ _ 3 _ _ _ ho
        simp at k0 k1 k2 k3
        have HR9 : Hid (CR (w8.setRow (w.heap.size + 2) #[.int .i64 (m : Int), .int .i64 (to + to'), .int .i64 (lo + lo'), .slice A9 L9.length c9]) A9 L9) := Lib.hid (HR8.out.2.2.keep (fun b cs2 h1 => setRow_other _ _ _ _ (fun e => by
          subst e
          rw [HOut.out _ HB8.out] at h1
          injection h1 with h1
          injection h1 with _ h1
          exact absurd h1 (by decide))))
        go_wp2_with fail
        refine bodyPost_ret (v := .tuple #[.agg #[.int .i64 (m : Int), .int .i64 (to + to'), .int .i64 (lo + lo'), .slice A9 L9.length c9], .int .i64 0]) ?_ rfl ⟨⟨_, by rw [HX9.out], ?_⟩, hB9⟩
        · rw [results_cell_tmp1 rfl]; go_simp <;> rfl
        · rw [HX9.out]; exact ⟨_, rfl, A9, c9, rfl, HR8.out.1, HR8.out.2.1, HR9.out⟩
  · have hne : ((m : Int) != mo') = true := by simpa using hmm
    have HXe : X = (su0, 3) := by rw [HX.out, if_pos hmm]
    clear hmm
    go_wp2_with fail
    refine bodyPost_ret (v := .tuple #[.agg #[.int .i64 0, .int .i64 0, .int .i64 0, .slice none 0 0], .int .i64 3]) ?_ rfl ⟨⟨_, by rw [HXe], ?_⟩, HBe.out⟩
    · rw [results_cell_tmp1 rfl]; go_simp <;> rfl
    · rw [HXe]; exact ⟨_, rfl, CRempty⟩
end Go.Proofs.Ytnpjakgdfjaglaa
