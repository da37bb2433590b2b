/- The law's add at a small summary (written by wip/bin/gen_hf22.py). -/
import Derived.Test.YtnpjakgdfjaglaaHe
import Derived.Test.YtnpjakgdfjaglaaHa
import Derived.Test.YtnpjakgdfjaglaaIl
namespace Go.Proofs.Ytnpjakgdfjaglaa
open Go.ChangeShapes Go.WideShapes Go.ChangeAt Go.RowKit Go.Joins

/-- An address without a spot. -/
def Flat (A : Option Addr) : Prop := ∀ ad, A = some ad → ∃ b off, ad = ⟨b, off, none⟩
/-- A value that reads as a summary, its counters at an address without a spot. -/
def SuF (w : World) (v : Value) (s : Su) : Prop := ∃ A c, v = .agg #[.int .i64 s.mo, .int .i64 s.to, .int .i64 s.lo, .slice A s.cs.length c] ∧ SlV w (.slice A s.cs.length c) s.cs ∧ Flat A
theorem SuF.suv {w : World} {v : Value} {s : Su} (h : SuF w v s) : SuV w v s := by
  obtain ⟨A, c, rfl, h, _⟩ := h
  exact ⟨_, rfl, h⟩
theorem SuF.below {w w' : World} {v : Value} {s : Su} (h : SuF w v s) (hb : Below w.heap.size w w') : SuF w' v s := by
  obtain ⟨A, c, rfl, h, hf⟩ := h
  exact ⟨A, c, rfl, h.below hb, hf⟩
theorem slv_flat {w : World} {A : Option Addr} {c : Nat} {L : List Ct} (h : SlV w (.slice A L.length c) L) (h0 : 0 < L.length) : Flat A := by
  obtain ⟨A', c', e, _, _, hR⟩ := h
  injection e with e1 e2 e3
  subst e1
  obtain ⟨b, off, cs, e, _⟩ := hR 0 h0
  intro ad h
  rw [e] at h
  injection h with h
  exact ⟨b, off, h.symm⟩
theorem SuF.of {w : World} {v : Value} {s : Su} (h : SuV w v s) (h0 : 0 < s.cs.length) : SuF w v s := by
  obtain ⟨u, rfl, hx⟩ := h
  obtain ⟨A, c, rfl, _⟩ := id hx
  exact ⟨A, c, rfl, hx, slv_flat hx h0⟩
theorem adC_pos {L : List Ct} (k : ByteArray) (n : Int) : 0 < (adC L k n).length := by
  have h : hs (adC L k n) k := (hs_pt _ _ _ _).2 (.inl rfl)
  obtain ⟨p, hp, _⟩ := List.mem_map.1 h
  exact List.length_pos_of_mem hp
theorem slv_setCell {w : World} {v u : Value} {L : List Ct} {g j : Nat} {cs : Array Value} (h : SlV w v L) (hg : w.heap[g]? = some (.cells cs 24 (0, 0))) : SlV (w.setCell ⟨g, j, none⟩ u) v L := by
  obtain ⟨A', c', e, q1, q2, q3⟩ := h
  refine ⟨A', c', e, q1, q2, q3.keep (fun b cs2 hb => ?_)⟩
  exact Below.heap_setCell w _ _ _ (fun e => by
    have e : b = g := e
    subst e
    rw [hg] at hb
    injection hb with hb
    injection hb with _ hb
    exact absurd hb (by decide))
set_option maxRecDepth 100000 in
set_option maxHeartbeats 8000000 in
theorem radd_full (v : Value) (s : Su) (k : ByteArray) (n : Int) (hS : Sd s.cs) (hP : Ps s.cs) (hsb : sm s.cs ≤ 1000000) (hl : s.cs.length ≤ 1000) (hn : 1 ≤ n ∧ n ≤ 2199023255552) (hlo : 0 ≤ s.lo ∧ s.lo ≤ 1000000) (ht : 0 ≤ s.to ∧ s.to ≤ 1000000) (hF : ¬ hs s.cs k ∧ s.mo ≤ (s.cs.length : Int)) (w : World) (hv : SuF w v s) :
    Calls Try.prog 21 #[v, .string k, .int .i64 n] w fun e w' => (∃ u, e = .returned u ∧ SuF w' u (adS s k n)) ∧ Below w.heap.size w w' := by
  obtain ⟨mo, to, lo, cs⟩ := s
  obtain ⟨A, c, rfl, hx, hfl⟩ := hv
  dsimp only at hS hP hsb hl hlo ht hF hx ⊢
  obtain ⟨hk0, hfull⟩ := hF
  obtain ⟨n1, n2⟩ := hn
  obtain ⟨lo1, lo2⟩ := hlo
  obtain ⟨to1, to2⟩ := ht
  have HAd : Hid (adS ⟨mo, to, lo, cs⟩ k n = ⟨mo, to + n, lo + leC cs n, if leC cs n < n then adC (loC cs (leC cs n)) k (n - leC cs n) else loC cs (leC cs n)⟩) := Lib.hid (by unfold adS; rw [if_pos ⟨hk0, hfull⟩])
  obtain ⟨Z, hZ⟩ : ∃ Z, Z = adS ⟨mo, to, lo, cs⟩ k n := ⟨_, rfl⟩
  rw [← hZ] at HAd ⊢
  have hb1 := leC_pos hP n1
  have hb2 := leC_le cs n
  have hcb : ∀ p ∈ cs, 0 ≤ p.2 ∧ p.2 ≤ 1152921504606846976 := fun p hp => by
    have h1 := hP p hp
    have h2 := mem_sm hP.nn hp
    omega
  have hlb : (leC cs n) ≤ 2199023255552 := by omega
  have HLs := Lib.hid (fun W h => less_any (.slice A cs.length c) cs (leC cs n) (by omega) hcb ⟨by omega, by omega⟩ W h)
  have hwt : IntKind.i64.wrap (to + n) = to + n := by simp only [IntKind.wrap_i64]; omega
  have HX := Lib.hid hx
  have HSb : Hid ((Try.prog.info? 24).map (fun i => i.size) = some 4) := Lib.hid (by kernel_rfl)
  obtain ⟨W0, hW0⟩ : ∃ W0 : World, W0 = (w.alloc (.cells #[.int .i64 mo, .int .i64 (to + n), .int .i64 lo, .slice A cs.length c] 24)).alloc (.cells #[.int .i64 0, .int .i64 0, .int .i64 0, .slice none 0 0] 24) := ⟨_, rfl⟩
  have hz0 : W0.heap.size = w.heap.size + 2 := by rw [hW0]; simp
  have HB0 : Hid (Below w.heap.size w W0) := Lib.hid (by rw [hW0]; exact ((Below.refl _ _).alloc (Nat.le_refl _) _).alloc (by simp) _)
  have HG0 : Hid (W0.heap[w.heap.size]? = some (.cells #[.int .i64 mo, .int .i64 (to + n), .int .i64 lo, .slice A cs.length c] 24 (0, 0))) := Lib.hid (by rw [hW0]; exact blk_under _ _ _)
  have HG1 : Hid (W0.heap[w.heap.size + 1]? = some (.cells #[.int .i64 0, .int .i64 0, .int .i64 0, .slice none 0 0] 24 (0, 0))) := Lib.hid (by rw [hW0]; exact blk_over _ _ _)
  have HCo := Lib.hid (fun W h => count_any (.slice A cs.length c) cs k (by omega) W h)
  have HTk : Hid (∀ j (h : j < cs.length), leC (cs.take (j + 1)) n = min (leC (cs.take j) n) cs[j].2) := Lib.hid (fun j h => leC_take cs n h)
  have H0 : Hid (leC (cs.take 0) n = n) := Lib.hid (by rw [List.take_zero]; rfl)
  obtain ⟨x, hxg⟩ : ∃ x, x = gt cs k := ⟨_, rfl⟩
  have hx0 : x = 0 := by rw [hxg]; exact gt_none hk0
  rw [← hxg] at HCo
  have d0 : decide (0 < x) = false := by simp; omega
  have HW := Lib.hid hW0
  have HFl := Lib.hid hfl
  have HSd := Lib.hid hS
  have HPs := Lib.hid hP
  have HSm := Lib.hid hsb
  have HBd := Lib.hid hb1
  have HBd2 := Lib.hid hb2
  obtain ⟨ln, hln⟩ : ∃ ln, ln = cs.length := ⟨_, rfl⟩
  have HLn := Lib.hid hln
  rw [← hln] at HX HG0 HCo HW HLs hl hfull ⊢
  have d1 : decide ((ln : Int) < mo) = false := by simp; omega
  have HL8 := Lib.hid hl
  clear hx hS hxg hx0 hW0 hln hfl hP hk0 hcb hZ hb1 hb2 hlb hsb hfull
  go_enter Try.func21, Try.ntmps21
  go_wp2_with fail
  rw [← HW.out]
  refine (HCo.out _ (HX.out.below HB0.out)).mono ?_
  rintro e w1 ⟨rfl, hb1⟩
  have HB1 : Hid (Below w.heap.size w w1) := Lib.hid (HB0.out.trans (hb1.mono HB0.out.size))
  have g0 := (hb1.block w.heap.size (by omega)).trans HG0.out
  have HG11 := Lib.hid ((hb1.block (w.heap.size + 1) (by omega)).trans HG1.out)
  have hz1 := hb1.size
  have HG01 := Lib.hid g0
  have c0 := cell_of_row _ _ 0 _ _ _ g0
  have c3 := cell_of_row _ _ 3 _ _ _ g0
  simp at c0 c3
  clear hb1 g0
  go_wp2_with fail
  clear c0 c3 d0 d1
  go_loopw [7, 8] (fun nv iv wr => ∃ j : Nat, j ≤ ln ∧ iv = .int .i64 (j : Int) ∧ nv = .int .i64 (leC (cs.take j) n) ∧ Hid (Below w1.heap.size w1 wr)) (fun _ iv _ => ln - (intOf iv).toNat)
  case atStart => exact ⟨0, Nat.zero_le _, rfl, by rw [H0.out], Lib.hid (Below.refl _ _)⟩
  case round =>
    obtain ⟨j, hj, rfl, rfl, HB⟩ := hrel
    have hszr := HB.out.size
    have HBr : Hid (Below w.heap.size w wr) := Lib.hid (HB1.out.trans (HB.out.mono HB1.out.size))
    have HG0r := Lib.hid ((HB.out.block w.heap.size (by omega)).trans HG01.out)
    have HG1r := Lib.hid ((HB.out.block (w.heap.size + 1) (by omega)).trans HG11.out)
    have c3 := cell_of_row _ _ 3 _ _ _ HG0r.out
    simp at c3
    by_cases hlt : j < ln
    · have hj2 : j < cs.length := by rw [← HLn.out]; exact hlt
      obtain ⟨A', c', e, _, _, hR⟩ := HX.out.below HBr.out
      injection e with e1 e2 e3
      subst e1 e3
      obtain ⟨b, off, rfl, hb, h0, h1⟩ := hR.at j hj2
      have hTj := HTk.out j hj2
      obtain ⟨x, hx⟩ : ∃ x, x = cs[j] := ⟨_, rfl⟩
      rw [← hx] at h0 h1 hTj
      clear hx hj2 hR h0 e2
      obtain ⟨t, m⟩ := x
      dsimp only at h1 hTj
      obtain ⟨y, hy⟩ : ∃ y, y = leC (cs.take j) n := ⟨_, rfl⟩
      rw [← hy] at hTj ⊢
      clear hy
      have HT2 := Lib.hid hTj
      clear hTj
      have hjI : (j : Int) < (ln : Int) := by omega
      have hj0 : (0 : Int) ≤ (j : Int) := by omega
      have hw1 : IntKind.i64.wrap ((j : Int) + 1) = (j : Int) + 1 := by simp only [IntKind.wrap_i64]; omega
      go_wp2_with fail
      go_roundw
      case rel => exact ⟨j + 1, by omega, by go_num, by rw [HT2.out] <;> go_num, HB⟩
      case measure => simp [intOf] <;> omega
    · have hT : cs.take j = cs := List.take_of_length_le (by rw [← HLn.out]; omega)
      rw [hT]
      have hjI : ¬ (j : Int) < (ln : Int) := by omega
      have HLc := Lib.hid (len_loC cs (leC cs n))
      have HSl := Lib.hid (sd_loC HSd.out (leC cs n))
      have HNl : Hid (0 ≤ gt (loC cs (leC cs n)) k ∧ gt (loC cs (leC cs n)) k ≤ 1000000) := Lib.hid (by
        have h1 := gt_sm (nn_loC cs (leC cs n)) k
        have h2 := sm_loC HPs.out.nn (b := leC cs n) (by have := HBd.out; omega)
        have := HSm.out
        omega)
      obtain ⟨b, hb⟩ : ∃ b, b = leC cs n := ⟨_, rfl⟩
      rw [← hb] at HLs HAd HBd HBd2 HLc HSl HNl ⊢
      obtain ⟨M, hM⟩ : ∃ M, M = loC cs b := ⟨_, rfl⟩
      rw [← hM] at HLs HAd HLc HSl HNl
      have hb1 := HBd.out
      have hb2 := HBd2.out
      have hwb : IntKind.i64.wrap (lo + b) = lo + b := by simp only [IntKind.wrap_i64]; omega
      have hwn : IntKind.i64.wrap (n - b) = n - b := by simp only [IntKind.wrap_i64]; omega
      clear hb hM hT
      go_wp2_with fail
      have c2 := cell_of_row _ _ 2 _ _ _ HG0r.out
      simp at c2
      have hX0 : w.heap.size < wr.heap.size := by omega
      have f2 := frz HG0r.out 2
      have f3 := frz HG0r.out 3
      refine wp_region_last 11 (fun W => W.cell? ⟨w.heap.size, 2, none⟩ = some (.int .i64 lo)) (by kernel_rfl) (by decide +kernel) (by rfl) c2 (fun hHeld => ?_)
      simp only [List.take_succ_cons, List.take_zero]
      refine wpAnyH_take (i := 0) (v := ?_) rfl (by decide +kernel) (by decide +kernel) (by decide +kernel) (fun _ _ _ h => h) (Or.inl ⟨by rfl, ?_⟩) (by assumption) ?_
      rotate_left 1
      · (intro w' hSw; (try dsimp only at hSw); go_simp; (try (with_reducible rfl)))
      try simp only [List.getElem_toArray, List.getElem_cons_zero, Act.put, List.setIfInBounds_toArray, List.set_cons_zero, List.set_cons_succ]
      refine wpAnyH_take (i := 2) (v := ?_) rfl (by decide +kernel) (by decide +kernel) (by decide +kernel) (fun _ _ _ h => h) (Or.inl ⟨by rfl, ?_⟩) (by assumption) ?_
      rotate_left 1
      · (intro w' hSw; (try dsimp only at hSw); go_simp; (try (with_reducible rfl)))
      try simp only [List.getElem_toArray, List.getElem_cons_zero, List.getElem_cons_succ, Act.put, List.setIfInBounds_toArray, List.set_cons_zero, List.set_cons_succ]
      refine wpAnyH_take (i := 4) (v := ?_) rfl (by decide +kernel) (by decide +kernel) (by decide +kernel) (fun _ _ _ h => h) (Or.inl ⟨by rfl, ?_⟩) (by assumption) ?_
      rotate_left 1
      · (intro w' hSw; (try dsimp only at hSw); go_simp; (try (with_reducible rfl)))
      try simp only [List.getElem_toArray, List.getElem_cons_zero, List.getElem_cons_succ, Act.put, List.setIfInBounds_toArray, List.set_cons_zero, List.set_cons_succ]
      refine wpAnyH_take (i := 5) (v := ?_) rfl (by decide +kernel) (by decide +kernel) (by decide +kernel) (fun _ _ _ h => h) (Or.inl ⟨by rfl, ?_⟩) (by assumption) ?_
      rotate_left 1
      · (intro w' hSw; (try dsimp only at hSw); go_simp; (try (with_reducible rfl)))
      try simp only [List.getElem_toArray, List.getElem_cons_zero, List.getElem_cons_succ, Act.put, List.setIfInBounds_toArray, List.set_cons_zero, List.set_cons_succ]
      refine wpAnyH_take (i := 6) (v := ?_) rfl (by decide +kernel) (by decide +kernel) (by decide +kernel) (fun _ _ _ h => h) (Or.inl ⟨by rfl, ?_⟩) (by assumption) ?_
      rotate_left 1
      · (intro w' hSw; (try dsimp only at hSw); go_simp; (try (with_reducible rfl)))
      try simp only [List.getElem_toArray, List.getElem_cons_zero, List.getElem_cons_succ, Act.put, List.setIfInBounds_toArray, List.set_cons_zero, List.set_cons_succ]
      refine wpAnyH_take (i := 7) (v := ?_) rfl (by decide +kernel) (by decide +kernel) (by decide +kernel) (fun _ _ _ h => h) (Or.inl ⟨by rfl, ?_⟩) (by assumption) ?_
      rotate_left 1
      · (intro w' hSw; (try dsimp only at hSw); go_simp; (try (with_reducible rfl)))
      try simp only [List.getElem_toArray, List.getElem_cons_zero, List.getElem_cons_succ, Act.put, List.setIfInBounds_toArray, List.set_cons_zero, List.set_cons_succ]
      refine wpAnyH_ready (rs := [1]) (by decide +kernel) (by simp) ?_
      refine AllReadyH.cons rfl (fun K hK => ?_) AllReadyH.nil
      go_simp
      refine hK.out _ _ (c2) (fun hHeld => ?_)
      clear hK K
      try simp only [List.getElem_toArray, List.getElem_cons_zero, List.getElem_cons_succ, Act.put, List.setIfInBounds_toArray, List.set_cons_zero, List.set_cons_succ]
      refine wpAnyH_ready (rs := [3]) (by decide +kernel) (by simp) ?_
      refine AllReadyH.cons rfl (fun K hK => ?_) AllReadyH.nil
      go_simp
      go_at_call 45
      refine (HLs.out wr.drew (HX.out.below (Below.drew HBr.out))).mono ?_
      rintro e w4 ⟨⟨u, rfl, hown⟩, hb4⟩
      have hb4 : Below wr.heap.size wr w4 := (Below.drew (Below.refl wr.heap.size wr)).trans hb4
      have HB4 : Hid (Below w.heap.size w w4) := Lib.hid (HBr.out.trans (hb4.mono HBr.out.size))
      have HG04 := Lib.hid ((hb4.block w.heap.size (by omega)).trans HG0r.out)
      have HG14 := Lib.hid ((hb4.block (w.heap.size + 1) (by omega)).trans HG1r.out)
      obtain ⟨A9, c9, rfl, _, _, hA9⟩ := rs_own hown
      have HFl9 : Hid (Flat A9) := Lib.hid (fun ad ea => by
        rcases hA9 with ⟨e, _⟩ | ⟨g, e, _⟩
        · rw [e] at ea; cases ea
        · rw [e] at ea; injection ea with ea; exact ⟨g, 0, ea.symm⟩)
      have HU4 := Lib.hid (SlV.own hown)
      obtain ⟨q, hq⟩ : ∃ q, q = M.length := ⟨_, rfl⟩
      have HQ := Lib.hid hq
      rw [← hq] at HU4 ⊢
      have hz4 := hb4.size
      have e2 := cell_of_row _ _ 2 _ _ _ HG04.out
      have e3 := cell_of_row _ _ 3 _ _ _ HG04.out
      have f2' := frz HG04.out 2
      have f3' := frz HG04.out 3
      simp at e2 e3
      have hX4 : w.heap.size < w4.heap.size := by omega
      clear hown hb4 hA9 hq
      try go_wp2_with fail
      refine hK.out _ _ (e2) (fun hHeld => ?_)
      clear hK K
      try simp only [List.getElem_toArray, List.getElem_cons_zero, List.getElem_cons_succ, Act.put, List.setIfInBounds_toArray, List.set_cons_zero, List.set_cons_succ]
      refine wpAnyH_take (i := 8) (v := ?_) rfl (by decide +kernel) (by decide +kernel) (by decide +kernel) (fun _ _ _ h => h) (Or.inl ⟨by rfl, ?_⟩) (by assumption) ?_
      rotate_left 1
      · (intro w' hSw; (try dsimp only at hSw); go_simp; (try (with_reducible rfl)))
      try simp only [List.getElem_toArray, List.getElem_cons_zero, List.getElem_cons_succ, Act.put, List.setIfInBounds_toArray, List.set_cons_zero, List.set_cons_succ]
      refine wpAnyH_ready (rs := [9]) (by decide +kernel) (by simp) ?_
      refine AllReadyH.cons rfl (fun K hK => ?_) AllReadyH.nil
      go_simp
      refine hK.out _ _ (by first | exact e2 | (simp [*, go_sem]) | skip) (fun hHeld => ?_)
      clear hK K
      try simp only [List.getElem_toArray, List.getElem_cons_zero, List.getElem_cons_succ, Act.put, List.setIfInBounds_toArray, List.set_cons_zero, List.set_cons_succ]
      refine wpAnyH_take (i := 10) (v := ?_) rfl (by decide +kernel) (by decide +kernel) (by decide +kernel) (fun _ _ _ h => h) (Or.inl ⟨by rfl, ?_⟩) (by assumption) ?_
      rotate_left 1
      · (intro w' hSw; (try dsimp only at hSw); go_simp; (try (with_reducible rfl)))
      try simp only [List.getElem_toArray, List.getElem_cons_zero, List.getElem_cons_succ, Act.put, List.setIfInBounds_toArray, List.set_cons_zero, List.set_cons_succ]
      refine wpAnyH_done (by decide +kernel) ?_ _
      intro K hK
      go_simp
      refine hK.out _ _ ?_
      clear hK K
      try simp only [List.getElem_toArray, List.getElem_cons_zero, List.getElem_cons_succ, Act.put, List.setIfInBounds_toArray, List.set_cons_zero, List.set_cons_succ]
      (refine (by assumption : ∀ _ _, _ → _) _ _ ?_)
      have HX0 := Lib.hid hX0
      obtain ⟨W5, hW5⟩ : ∃ W5, W5 = (w4.setCell ⟨w.heap.size, 3, none⟩ (.slice A9 q c9)).setCell ⟨w.heap.size, 2, none⟩ (.int .i64 (lo + b)) := ⟨_, rfl⟩
      have s0 : W5.heap[w.heap.size]? = some (.cells #[.int .i64 mo, .int .i64 (to + n), .int .i64 (lo + b), .slice A9 q c9] 24 (0, 0)) := by rw [hW5, blk_set _ (blk_set _ HG04.out)]; rfl
      have s1 : W5.heap[w.heap.size + 1]? = some (.cells #[.int .i64 0, .int .i64 0, .int .i64 0, .slice none 0 0] 24 (0, 0)) := by rw [hW5]; exact ((Below.heap_setCell _ _ _ _ (by show w.heap.size + 1 ≠ w.heap.size; omega)).trans (Below.heap_setCell w4 _ _ _ (by show w.heap.size + 1 ≠ w.heap.size; omega))).trans HG14.out
      have HB5 : Hid (Below w.heap.size w W5) := Lib.hid (by rw [hW5]; exact (HB4.out.setCell (p := ⟨w.heap.size, 3, none⟩) (Nat.le_refl _) _).setCell (p := ⟨w.heap.size, 2, none⟩) (Nat.le_refl _) _)
      have HU5 : Hid (SlV W5 (.slice A9 q c9) M) := Lib.hid (by rw [hW5]; exact slv_setCell (slv_setCell HU4.out HG04.out) (blk_set _ HG04.out))
      have hz5 : W5.heap.size = w4.heap.size := by rw [hW5]; simp
      have HW5 := Lib.hid hW5
      have HG05 := Lib.hid s0
      have HG15 := Lib.hid s1
      have t0 := cell_of_row _ _ 0 _ _ _ s0
      have t1 := cell_of_row _ _ 1 _ _ _ s0
      have t2 := cell_of_row _ _ 2 _ _ _ s0
      have t3 := cell_of_row _ _ 3 _ _ _ s0
      simp at t0 t1 t2 t3
      try rw [← hW5]
      clear hW5 s0 s1
      by_cases hbn : b < n
      · have d3 : decide (b < n) = true := by simpa using hbn
        have HZ : Hid (Z = ⟨mo, to + n, lo + b, adC M k (n - b)⟩) := Lib.hid (by rw [HAd.out, if_pos hbn])
        have HPu := Lib.hid (fun W h => put_any (.slice A9 M.length c9) M k (n - b) HSl.out (by have := HLc.out; have := HL8.out; have := HLn.out; omega) (by have := HNl.out; omega) (fun A' m' c' e ad ea => by
          injection e with e1 e2 e3
          subst e1
          exact HFl9.out ad ea) W h)
        rw [← HQ.out] at HPu
        obtain ⟨R, hR⟩ : ∃ R, R = adC M k (n - b) := ⟨_, rfl⟩
        have HRp : Hid (0 < R.length) := Lib.hid (by rw [hR]; exact adC_pos k _)
        rw [← hR] at HPu HZ
        clear hR hbn
        go_wp2_with fail
        try rw [← HW5.out]
        refine (HPu.out _ HU5.out).mono ?_
        rintro e w6 ⟨⟨u, rfl, hu⟩, hb6⟩
        have HB6 : Hid (Below w.heap.size w w6) := Lib.hid (HB5.out.trans (hb6.mono HB5.out.size))
        have g0 := (hb6.block w.heap.size (by omega)).trans HG05.out
        have g1 := (hb6.block (w.heap.size + 1) (by omega)).trans HG15.out
        have hz6 := hb6.size
        have HU := Lib.hid hu
        obtain ⟨A8, c8, rfl, _⟩ := id hu
        have f0 := frz g0 3
        have hl0 : w.heap.size < w6.heap.size := by omega
        clear t0 t1 t2 t3 hb6 hu
        have c3 := cell_of_row _ _ 3 _ _ _ g0
        simp at c3
        obtain ⟨W3, hW3⟩ : ∃ W3, W3 = w6.setCell ⟨w.heap.size, 3, none⟩ (.slice A8 R.length c8) := ⟨_, rfl⟩
        have s0 : W3.heap[w.heap.size]? = some (.cells #[.int .i64 mo, .int .i64 (to + n), .int .i64 (lo + b), .slice A8 R.length c8] 24 (0, 0)) := by rw [hW3, blk_set _ g0]; rfl
        have s1 : W3.heap[w.heap.size + 1]? = some (.cells #[.int .i64 0, .int .i64 0, .int .i64 0, .slice none 0 0] 24 (0, 0)) := by rw [hW3]; exact (Below.heap_setCell w6 _ _ _ (by show w.heap.size + 1 ≠ w.heap.size; omega)).trans g1
        have HB3 : Hid (Below w.heap.size w W3) := Lib.hid (by rw [hW3]; exact HB6.out.setCell (p := ⟨w.heap.size, 3, none⟩) (Nat.le_refl _) _)
        have HU3 : Hid (SlV W3 (.slice A8 R.length c8) R) := Lib.hid (by rw [hW3]; exact slv_setCell HU.out g0)
        have t0 := cell_of_row _ _ 0 _ _ _ s0
        have t1 := cell_of_row _ _ 1 _ _ _ s0
        have t2 := cell_of_row _ _ 2 _ _ _ s0
        have t3 := cell_of_row _ _ 3 _ _ _ s0
        simp at t0 t1 t2 t3
        rw [hW3] at t0 t1 t2 t3
        have HW3 := Lib.hid hW3
        have HS1 := Lib.hid s1
        clear g0 g1 s0 s1 hW3
        go_wp2_with ((try rw [← HW3.out]); refine wpList_store_row rfl _ _ _ rfl (w.heap.size + 1) #[.int .i64 mo, .int .i64 (to + n), .int .i64 (lo + b), .slice A8 R.length c8] rfl rfl 24 _ HS1.out HSb.out rfl (one_rows rfl _ _ _) ?_)
        have ho := setRow_heap W3 (w.heap.size + 1) _ #[.int .i64 mo, .int .i64 (to + n), .int .i64 (lo + b), .slice A8 R.length c8] _ _ HS1.out
        have k0 := cell_of_row _ _ 0 _ _ _ ho
        have k1 := cell_of_row _ _ 1 _ _ _ ho
        have k2 := cell_of_row _ _ 2 _ _ _ ho
        have k3 := cell_of_row _ _ 3 _ _ _ ho
        simp at k0 k1 k2 k3
        refine bodyPost_ret (v := .agg #[.int .i64 mo, .int .i64 (to + n), .int .i64 (lo + b), .slice A8 R.length c8]) ?_ rfl ⟨⟨_, rfl, ?_⟩, below_setRow HB3.out (by omega)⟩
        · rw [results_cell1 rfl]; go_simp <;> rfl
        · rw [HZ.out]; exact ⟨A8, c8, rfl, slv_setRow HU3.out HS1.out, slv_flat HU.out HRp.out⟩
      · have d3 : decide (b < n) = false := by simpa using hbn
        have HZ : Hid (Z = ⟨mo, to + n, lo + b, M⟩) := Lib.hid (by rw [HAd.out, if_neg hbn])
        have HU3 := HU5
        have HB3 := HB5
        have HS1 := HG15
        clear hbn
        go_wp2_with ((try rw [← HW5.out]); refine wpList_store_row rfl _ _ _ rfl (w.heap.size + 1) #[.int .i64 mo, .int .i64 (to + n), .int .i64 (lo + b), .slice A9 q c9] rfl rfl 24 _ HS1.out HSb.out rfl (one_rows rfl _ _ _) ?_)
        have ho := setRow_heap W5 (w.heap.size + 1) _ #[.int .i64 mo, .int .i64 (to + n), .int .i64 (lo + b), .slice A9 q c9] _ _ HS1.out
        have k0 := cell_of_row _ _ 0 _ _ _ ho
        have k1 := cell_of_row _ _ 1 _ _ _ ho
        have k2 := cell_of_row _ _ 2 _ _ _ ho
        have k3 := cell_of_row _ _ 3 _ _ _ ho
        simp at k0 k1 k2 k3
        refine bodyPost_ret (v := .agg #[.int .i64 mo, .int .i64 (to + n), .int .i64 (lo + b), .slice A9 q c9]) ?_ rfl ⟨⟨_, rfl, ?_⟩, below_setRow HB3.out (by omega)⟩
        · rw [results_cell1 rfl]; go_simp <;> rfl
        · rw [HZ.out]; exact by
            have h := slv_setRow (cs := #[.int .i64 mo, .int .i64 (to + n), .int .i64 (lo + b), .slice A9 q c9]) HU3.out HS1.out
            rw [HQ.out] at h ⊢
            exact ⟨A9, c9, rfl, h, HFl9.out⟩
end Go.Proofs.Ytnpjakgdfjaglaa
