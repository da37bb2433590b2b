/- The law's add at a small summary, its Stream (written by wip/bin/gen_hg22.py). -/
import Derived.Test.YtnpjakgdfjaglaaHf
import Derived.Test.YtnpjakgdfjaglaaHd
import Derived.Test.YtnpjakgdfjaglaaHo
namespace Go.Proofs.Ytnpjakgdfjaglaa
open Go.ChangeShapes Go.WideShapes Go.ChangeAt Go.RowKit Go.Joins

theorem radd_any (v : Value) (s : Su) (k : ByteArray) (n : Int) (hs' : Sl22 s) (hn : 1 ≤ n ∧ n ≤ 2199023255552) (w : World) (hv : SuF w v s) :
    Calls Try.prog 21 #[v, .string k, .int .i64 n] w fun e w' => (∃ u, e = .returned u ∧ SuF w' u (adS s k n)) ∧ Below w.heap.size w w' := by
  have hlen := hs'.size
  have hsm := hs'.smb
  have hto := hs'.to
  have hg := hs'.gtb k
  by_cases hF : ¬ hs s.cs k ∧ s.mo ≤ (s.cs.length : Int)
  · exact radd_full v s k n hs'.sd hs'.ps hsm (by omega) hn hs'.lo hto hF w hv
  · have e : adS s k n = ⟨s.mo, s.to + n, s.lo, adC s.cs k n⟩ := by unfold adS; rw [if_neg hF]
    rw [e]
    obtain ⟨A, c, rfl, hx, hfl⟩ := hv
    refine (radd_few _ s k n hs'.sd (by omega) ⟨by omega, by omega⟩ (fun m t' l A' x' c' he ad ea => ?_) ?_ ⟨by omega, by omega⟩ w ⟨_, rfl, hx⟩).mono ?_
    · simp at he
      obtain ⟨_, _, _, he, _⟩ := he
      rw [← he] at ea
      exact hfl ad ea
    · by_cases hh : hs s.cs k
      · exact .inl ((gt_pos hs'.ps k).2 hh)
      · right
        have : ¬ s.mo ≤ (s.cs.length : Int) := fun h => hF ⟨hh, h⟩
        omega
    · rintro e w' ⟨⟨u, rfl, hu⟩, hb⟩
      exact ⟨⟨u, rfl, SuF.of hu (adC_pos k n)⟩, hb⟩
/-- Block g holds a summary. -/
def Bx (w : World) (g : Nat) (s : Su) : Prop := ∃ A c, w.heap[g]? = some (.cells #[.int .i64 s.mo, .int .i64 s.to, .int .i64 s.lo, .slice A s.cs.length c] 24 (0, 0)) ∧ SlV w (.slice A s.cs.length c) s.cs ∧ Flat A
theorem Bx.below {w w' : World} {g : Nat} {s : Su} (h : Bx w g s) (hb : Below w.heap.size w w') : Bx w' g s := by
  obtain ⟨A, c, hg, hs, hf⟩ := h
  exact ⟨A, c, (hb.block g (Array.getElem?_eq_some_iff.1 hg).1).trans hg, hs.below hb, hf⟩
theorem st_take (mo : Int) {L : List It} {j : Nat} (hj : j < L.length) : stL mo (L.take (j + 1)) = adS (stL mo (L.take j)) (kyI L[j].1) (wtI L[j]) := by
  rw [List.take_succ_eq_append_getElem hj, stL_snoc]; rfl
set_option maxRecDepth 100000 in
set_option maxHeartbeats 8000000 in
theorem stream_any (mo : Int) (hmo : 1 ≤ mo ∧ mo ≤ 256) (A : Option Addr) (c : Nat) (L : List It) (hL : L.length ≤ 9223372036854775807) (hI : ∀ x ∈ L, ItOk x) (w : World) (hR : IR w A L) :
    Calls Try.prog 18 #[.int .i64 mo, .slice A L.length c] w fun e w' => (∃ u, e = .returned u ∧ SuF w' u (stL mo (L.take 60))) ∧ Below w.heap.size w w' := by
  have HSb : Hid ((Try.prog.info? 24).map (fun i => i.size) = some 4) := Lib.hid (by kernel_rfl)
  obtain ⟨W0, hW0⟩ : ∃ W0 : World, W0 = (w.alloc (.cells #[.int .i64 0, .int .i64 0, .int .i64 0, .slice none 0 0] 24)).alloc (.cells #[.int .i64 mo, .int .i64 0, .int .i64 0, .slice none 0 0] 24) := ⟨_, rfl⟩
  have hz0 : W0.heap.size = w.heap.size + 2 := by rw [hW0]; simp
  have HB0 : Hid (Below w.heap.size w W0) := Lib.hid (by rw [hW0]; exact ((Below.refl _ _).alloc (Nat.le_refl _) _).alloc (by simp) _)
  have HG0 : Hid (W0.heap[w.heap.size]? = some (.cells #[.int .i64 0, .int .i64 0, .int .i64 0, .slice none 0 0] 24 (0, 0))) := Lib.hid (by rw [hW0]; exact blk_under _ _ _)
  have HG1 : Hid (Bx W0 (w.heap.size + 1) (stL mo (L.take 0))) := Lib.hid (by rw [hW0, List.take_zero]; exact ⟨none, 0, blk_over _ _ _, CRempty, fun ad h => nomatch h⟩)
  have HR := Lib.hid hR
  have HI := Lib.hid hI
  have HSt : Hid (∀ j, Sl22 (stL mo (L.take (min j 60)))) := Lib.hid (fun j => st_small hmo _ (by rw [List.length_take]; omega))
  obtain ⟨ln, hln⟩ : ∃ ln, ln = L.length := ⟨_, rfl⟩
  have HLn := Lib.hid hln
  rw [← hln] at hL ⊢
  have HW := Lib.hid hW0
  clear hR hI hln hW0
  go_enter Try.func18, Try.ntmps18
  go_wp2_with fail
  rw [← HW.out]
  go_loopw [6] (fun iv wr => ∃ j : Nat, j ≤ ln ∧ j ≤ 60 ∧ iv = .int .i64 (j : Int) ∧ Hid (Bx wr (w.heap.size + 1) (stL mo (L.take j))) ∧ Hid (wr.heap[w.heap.size]? = some (.cells #[.int .i64 0, .int .i64 0, .int .i64 0, .slice none 0 0] 24 (0, 0))) ∧ Hid (Below w.heap.size w wr)) (fun iv _ => 60 - (intOf iv).toNat)
  case atStart => exact ⟨0, Nat.zero_le _, Nat.zero_le _, rfl, HG1, HG0, HB0⟩
  case round =>
    obtain ⟨j, hj, hj6, rfl, HX, HZ, HB⟩ := hrel
    have hj0 : (0 : Int) ≤ (j : Int) := by omega
    by_cases hlt : j < ln ∧ j < 60
    · obtain ⟨hlt, hlt6⟩ := hlt
      have hj2 : j < L.length := by rw [← HLn.out]; exact hlt
      obtain ⟨bi, oi, rfl, hbi, h0, h1⟩ := (HR.out.below HB.out) j hj2
      have hok := HI.out _ (List.getElem_mem hj2)
      have HN := Lib.hid (st_take mo hj2)
      have HS := HSt.out j
      rw [Nat.min_eq_left hj6] at HS
      have HS := Lib.hid HS
      obtain ⟨x, hx⟩ : ∃ x, x = L[j] := ⟨_, rfl⟩
      rw [← hx] at h0 h1 hok HN
      clear hx hj2
      obtain ⟨s, hs⟩ : ∃ s, s = stL mo (L.take j) := ⟨_, rfl⟩
      rw [← hs] at HX HN HS
      clear hs
      have HKy := Lib.hid (fun W => key_any x hok.1 W)
      have HWt := Lib.hid (fun W => weight_any x hok.2 W)
      have HAd := Lib.hid (fun u W h => radd_any u s (kyI x.1) (wtI x) HS.out (by have := wt_bd x; omega) W h)
      obtain ⟨y, hy⟩ : ∃ y, y = kyI x.1 := ⟨_, rfl⟩
      obtain ⟨q, hq⟩ : ∃ q, q = wtI x := ⟨_, rfl⟩
      rw [← hy] at HKy HAd HN
      rw [← hq] at HWt HAd HN
      clear hy hq hok
      obtain ⟨k, n⟩ := x
      dsimp only at h0 h1
      obtain ⟨s2, hs2⟩ : ∃ s2, s2 = adS s y q := ⟨_, rfl⟩
      rw [← hs2] at HAd HN
      clear hs2 HS
      obtain ⟨m1, t1, l1, cs⟩ := s
      obtain ⟨m2, t2, l2, cs2⟩ := s2
      have HBr := HB
      obtain ⟨A1, c1, hg, hsl, hfl⟩ := HX.out
      dsimp only at hg hsl
      have HG := Lib.hid hg
      have HSl := Lib.hid hsl
      have HFl := Lib.hid hfl
      obtain ⟨l1n, hl1n⟩ : ∃ l1n, l1n = cs.length := ⟨_, rfl⟩
      have HAd1 : Hid (∀ W, Below wr.heap.size wr W → Calls Try.prog 21 #[.agg #[.int .i64 m1, .int .i64 t1, .int .i64 l1, .slice A1 l1n c1], .string y, .int .i64 q] W fun e w' => (∃ A9 c9, e = .returned (.agg #[.int .i64 m2, .int .i64 t2, .int .i64 l2, .slice A9 cs2.length c9]) ∧ SlV w' (.slice A9 cs2.length c9) cs2 ∧ Flat A9) ∧ Below W.heap.size W w') := Lib.hid (fun W hW => by
        rw [hl1n]
        refine (HAd.out _ W ⟨A1, c1, rfl, HSl.out.below hW, HFl.out⟩).mono ?_
        rintro e w' ⟨⟨u, rfl, A9, c9, rfl, h1, h2⟩, hb⟩
        exact ⟨⟨A9, c9, rfl, h1, h2⟩, hb⟩)
      have hz := (Array.getElem?_eq_some_iff.1 hg).1
      have HKS : Hid (∀ W, Below wr.heap.size wr W → W.cell? ⟨w.heap.size + 1, 0, none⟩ = some (.int .i64 m1) ∧ W.cell? ⟨w.heap.size + 1, 1, none⟩ = some (.int .i64 t1) ∧ W.cell? ⟨w.heap.size + 1, 2, none⟩ = some (.int .i64 l1) ∧ W.cell? ⟨w.heap.size + 1, 3, none⟩ = some (.slice A1 l1n c1) ∧ W.cell? ⟨bi, oi + j * 2, none⟩ = some (.int .u8 (k : Int)) ∧ W.cell? ⟨bi, oi + j * 2 + 1, none⟩ = some (.int .u8 (n : Int))) := Lib.hid (fun W hW => by
        have hg := (hW.block _ hz).trans HG.out
        rw [← hl1n] at hg
        exact ⟨cell_of_row _ _ 0 _ _ _ hg, cell_of_row _ _ 1 _ _ _ hg, cell_of_row _ _ 2 _ _ _ hg, cell_of_row _ _ 3 _ _ _ hg, (hW.cell (p := ⟨bi, oi + j * 2, none⟩) hbi).trans h0, (hW.cell (p := ⟨bi, oi + j * 2 + 1, none⟩) hbi).trans h1⟩)
      have HGW : Hid (∀ W, Below wr.heap.size wr W → W.heap[w.heap.size + 1]? = some (.cells #[.int .i64 m1, .int .i64 t1, .int .i64 l1, .slice A1 l1n c1] 24 (0, 0))) := Lib.hid (fun W hW => by
        rw [hl1n]; exact (hW.block _ hz).trans HG.out)
      have hjI : (j : Int) < (ln : Int) := by omega
      have hjI6 : (j : Int) < 60 := by omega
      have hw1 : IntKind.i64.wrap ((j : Int) + 1) = (j : Int) + 1 := by simp only [IntKind.wrap_i64]; omega
      have HHz := Lib.hid hz
      clear hg hsl hfl hl1n h0 h1 hz HX
      go_wp2_with fail
      refine wp_region_last 12 (fun W => W.cell? ⟨w.heap.size + 1, 0, none⟩ = some (.int .i64 m1) ∧ W.cell? ⟨w.heap.size + 1, 1, none⟩ = some (.int .i64 t1) ∧ W.cell? ⟨w.heap.size + 1, 2, none⟩ = some (.int .i64 l1) ∧ W.cell? ⟨w.heap.size + 1, 3, none⟩ = some (.slice A1 l1n c1) ∧ W.cell? ⟨bi, oi + j * 2, none⟩ = some (.int .u8 (k : Int)) ∧ W.cell? ⟨bi, oi + j * 2 + 1, none⟩ = some (.int .u8 (n : Int))) (by kernel_rfl) (by decide +kernel) (by rfl) (HKS.out _ (Below.drew (Below.refl _ _))) (fun hHeld => ?_)
      simp only [List.take_succ_cons, List.take_zero]
      refine wpAnyH_take (i := 0) (v := ?_) rfl (by decide +kernel) (by decide +kernel) (by decide +kernel) (fun _ _ _ h => h) (Or.inl ⟨by rfl, ?_⟩) (by assumption) ?_
      rotate_left 1
      · (intro w' hSw; (try dsimp only at hSw); go_simp; (try (with_reducible rfl)))
      try simp only [List.getElem_toArray, List.getElem_cons_zero, Act.put, List.setIfInBounds_toArray, List.set_cons_zero, List.set_cons_succ]
      refine wpAnyH_take (i := 1) (v := ?_) rfl (by decide +kernel) (by decide +kernel) (by decide +kernel) (fun _ _ _ h => h) (Or.inl ⟨by rfl, ?_⟩) (by assumption) ?_
      rotate_left 1
      · (intro w' hSw; (try dsimp only at hSw); go_simp; (try (with_reducible rfl)))
      try simp only [List.getElem_toArray, List.getElem_cons_zero, List.getElem_cons_succ, Act.put, List.setIfInBounds_toArray, List.set_cons_zero, List.set_cons_succ]
      refine wpAnyH_take (i := 2) (v := ?_) rfl (by decide +kernel) (by decide +kernel) (by decide +kernel) (fun _ _ _ h => h) (Or.inl ⟨by rfl, ?_⟩) (by assumption) ?_
      rotate_left 1
      · (intro w' hSw; (try dsimp only at hSw); go_simp; (try (with_reducible rfl)))
      try simp only [List.getElem_toArray, List.getElem_cons_zero, List.getElem_cons_succ, Act.put, List.setIfInBounds_toArray, List.set_cons_zero, List.set_cons_succ]
      refine wpAnyH_take (i := 3) (v := ?_) rfl (by decide +kernel) (by decide +kernel) (by decide +kernel) (fun _ _ _ h => h) (Or.inl ⟨by rfl, ?_⟩) (by assumption) ?_
      rotate_left 1
      · (intro w' hSw; (try dsimp only at hSw); go_simp; (try (with_reducible rfl)))
      try simp only [List.getElem_toArray, List.getElem_cons_zero, List.getElem_cons_succ, Act.put, List.setIfInBounds_toArray, List.set_cons_zero, List.set_cons_succ]
      refine wpAnyH_take (i := 4) (v := ?_) rfl (by decide +kernel) (by decide +kernel) (by decide +kernel) (fun _ _ _ h => h) (Or.inl ⟨by rfl, ?_⟩) (by assumption) ?_
      rotate_left 1
      · (intro w' hSw; (try dsimp only at hSw); go_simp; (try (with_reducible rfl)))
      try simp only [List.getElem_toArray, List.getElem_cons_zero, List.getElem_cons_succ, Act.put, List.setIfInBounds_toArray, List.set_cons_zero, List.set_cons_succ]
      refine wpAnyH_take (i := 6) (v := ?_) rfl (by decide +kernel) (by decide +kernel) (by decide +kernel) (fun _ _ _ h => h) (Or.inl ⟨by rfl, ?_⟩) (by assumption) ?_
      rotate_left 1
      · (intro w' hSw; (try dsimp only at hSw); go_simp; (try (with_reducible rfl)))
      try simp only [List.getElem_toArray, List.getElem_cons_zero, List.getElem_cons_succ, Act.put, List.setIfInBounds_toArray, List.set_cons_zero, List.set_cons_succ]
      refine wpAnyH_take (i := 7) (v := ?_) rfl (by decide +kernel) (by decide +kernel) (by decide +kernel) (fun _ _ _ h => h) (Or.inl ⟨by rfl, ?_⟩) (by assumption) ?_
      rotate_left 1
      · (intro w' hSw; (try dsimp only at hSw); go_simp; (try (with_reducible rfl)))
      try simp only [List.getElem_toArray, List.getElem_cons_zero, List.getElem_cons_succ, Act.put, List.setIfInBounds_toArray, List.set_cons_zero, List.set_cons_succ]
      refine wpAnyH_take (i := 8) (v := ?_) rfl (by decide +kernel) (by decide +kernel) (by decide +kernel) (fun _ _ _ h => h) (Or.inl ⟨by rfl, ?_⟩) (by assumption) ?_
      rotate_left 1
      · (intro w' hSw; (try dsimp only at hSw); go_simp; (try (with_reducible rfl)))
      try simp only [List.getElem_toArray, List.getElem_cons_zero, List.getElem_cons_succ, Act.put, List.setIfInBounds_toArray, List.set_cons_zero, List.set_cons_succ]
      refine wpAnyH_take (i := 9) (v := ?_) rfl (by decide +kernel) (by decide +kernel) (by decide +kernel) (fun _ _ _ h => h) (Or.inl ⟨by rfl, ?_⟩) (by assumption) ?_
      rotate_left 1
      · (intro w' hSw; (try dsimp only at hSw); go_simp; (try (with_reducible rfl)))
      try simp only [List.getElem_toArray, List.getElem_cons_zero, List.getElem_cons_succ, Act.put, List.setIfInBounds_toArray, List.set_cons_zero, List.set_cons_succ]
      refine wpAnyH_ready (rs := [5]) (by decide +kernel) (by simp) ?_
      refine AllReadyH.cons rfl (fun K hK => ?_) AllReadyH.nil
      go_simp
      go_at_call 23
      with_reducible refine (HKy.out _).mono ?_
      rintro e w4 ⟨rfl, hb4⟩
      have HB4 : Hid (Below wr.heap.size wr w4) := Lib.hid ((Below.drew (Below.refl wr.heap.size wr)).trans hb4)
      clear hb4
      try go_wp2_with fail
      refine hK.out _ _ (HKS.out _ HB4.out) (fun hHeld => ?_)
      clear hK K
      try simp only [List.getElem_toArray, List.getElem_cons_zero, List.getElem_cons_succ, Act.put, List.setIfInBounds_toArray, List.set_cons_zero, List.set_cons_succ]
      refine wpAnyH_ready (rs := [10]) (by decide +kernel) (by simp) ?_
      refine AllReadyH.cons rfl (fun K hK => ?_) AllReadyH.nil
      go_simp
      go_at_call 24
      with_reducible refine (HWt.out _).mono ?_
      rintro e w5 ⟨rfl, hb5⟩
      have HB5 : Hid (Below wr.heap.size wr w5) := Lib.hid (HB4.out.trans (hb5.mono HB4.out.size))
      clear hb5
      try go_wp2_with fail
      refine hK.out _ _ (HKS.out _ HB5.out) (fun hHeld => ?_)
      clear hK K
      try simp only [List.getElem_toArray, List.getElem_cons_zero, List.getElem_cons_succ, Act.put, List.setIfInBounds_toArray, List.set_cons_zero, List.set_cons_succ]
      refine wpAnyH_ready (rs := [11]) (by decide +kernel) (by simp) ?_
      refine AllReadyH.cons rfl (fun K hK => ?_) AllReadyH.nil
      go_simp
      go_at_call 21
      with_reducible refine (HAd1.out _ HB5.out).mono ?_
      rintro e w6 ⟨⟨A9, c9, rfl, hu, hf⟩, hb6⟩
      have HB6 : Hid (Below wr.heap.size wr w6) := Lib.hid (HB5.out.trans (hb6.mono HB5.out.size))
      obtain ⟨l9, hl9⟩ : ∃ l9, l9 = cs2.length := ⟨_, rfl⟩
      have HL9 := Lib.hid hl9
      rw [← hl9] at hu ⊢
      have HU6 := Lib.hid hu
      have HF6 := Lib.hid hf
      clear hb6 hu hf hl9
      try go_wp2_with fail
      refine hK.out _ _ (HKS.out _ HB6.out) (fun hHeld => ?_)
      clear hK K
      try simp only [List.getElem_toArray, List.getElem_cons_zero, List.getElem_cons_succ, Act.put, List.setIfInBounds_toArray, List.set_cons_zero, List.set_cons_succ]
      refine wpAnyH_done (by decide +kernel) ?_ _
      intro K hK
      rw [if_pos (by rfl)]
      refine wp_store_row 24 _ _ rfl (w.heap.size + 1) #[.int .i64 m2, .int .i64 t2, .int .i64 l2, .slice A9 l9 c9] rfl rfl 24 _ (HGW.out _ HB6.out) HSb.out rfl (one_rows rfl _ _ _) ?_
      refine hK.out _ _ ?_
      clear hK K
      try simp only [Act.put]
      (refine (by assumption : ∀ _ _, _ → _) _ _ ?_)
      have HG9 := Lib.hid (setRow_heap w6 (w.heap.size + 1) _ #[.int .i64 m2, .int .i64 t2, .int .i64 l2, .slice A9 l9 c9] _ _ (HGW.out _ HB6.out))
      have HB9 : Hid (Below w.heap.size w (w6.setRow (w.heap.size + 1) #[.int .i64 m2, .int .i64 t2, .int .i64 l2, .slice A9 l9 c9])) := Lib.hid (below_setRow (HB.out.trans (HB6.out.mono HB.out.size)) (by omega))
      have HX9 : Hid (Bx (w6.setRow (w.heap.size + 1) #[.int .i64 m2, .int .i64 t2, .int .i64 l2, .slice A9 l9 c9]) (w.heap.size + 1) (stL mo (L.take (j + 1)))) := Lib.hid (by
        rw [HN.out]
        have h1 := HG9.out
        have h2 := slv_setRow (cs := #[.int .i64 m2, .int .i64 t2, .int .i64 l2, .slice A9 l9 c9]) HU6.out (HGW.out _ HB6.out)
        rw [HL9.out] at h1 h2 ⊢
        exact ⟨A9, c9, h1, h2, HF6.out⟩)
      have HZ9 : Hid ((w6.setRow (w.heap.size + 1) #[.int .i64 m2, .int .i64 t2, .int .i64 l2, .slice A9 l9 c9]).heap[w.heap.size]? = some (.cells #[.int .i64 0, .int .i64 0, .int .i64 0, .slice none 0 0] 24 (0, 0))) := Lib.hid ((setRow_other _ _ _ _ (by omega)).trans ((HB6.out.block _ (Array.getElem?_eq_some_iff.1 HZ.out).1).trans HZ.out))
      go_wp2_with fail
      go_roundw
      case rel => exact ⟨j + 1, by omega, by omega, by go_num, HX9, HZ9, HB9⟩
      case measure => simp [intOf] <;> omega
    · have HT : Hid (L.take j = L.take 60) := Lib.hid (by
        by_cases e : j = 60
        · rw [e]
        · rw [List.take_of_length_le (by rw [← HLn.out]; omega), List.take_of_length_le (by rw [← HLn.out]; omega)])
      rw [HT.out] at HX
      obtain ⟨s, hs⟩ : ∃ s, s = stL mo (L.take 60) := ⟨_, rfl⟩
      rw [← hs] at HX
      obtain ⟨m1, t1, l1, cs⟩ := s
      have HQs := Lib.hid hs
      clear hs
      obtain ⟨A1, c1, hg, hsl, hfl⟩ := HX.out
      dsimp only at hg hsl
      obtain ⟨l1n, hl1n⟩ : ∃ l1n, l1n = cs.length := ⟨_, rfl⟩
      have HL1 := Lib.hid hl1n
      rw [← hl1n] at hg hsl
      have HG := Lib.hid hg
      have HSl := Lib.hid hsl
      have HFl := Lib.hid hfl
      have y0 := cell_of_row _ _ 0 _ _ _ hg
      have y1 := cell_of_row _ _ 1 _ _ _ hg
      have y2 := cell_of_row _ _ 2 _ _ _ hg
      have y3 := cell_of_row _ _ 3 _ _ _ hg
      simp at y0 y1 y2 y3
      clear hg hsl hfl hl1n HX
      by_cases h1 : j < ln
      · have hjI : (j : Int) < (ln : Int) := by omega
        have hjI6 : ¬ (j : Int) < 60 := by omega
        clear hlt h1
        go_wp2_with (refine wpList_store_row rfl _ _ _ rfl w.heap.size #[.int .i64 m1, .int .i64 t1, .int .i64 l1, .slice A1 l1n c1] rfl rfl 24 _ HZ.out HSb.out rfl (one_rows rfl _ _ _) ?_)
        have ho := setRow_heap wr w.heap.size _ #[.int .i64 m1, .int .i64 t1, .int .i64 l1, .slice A1 l1n c1] _ _ HZ.out
        have k0 := cell_of_row _ _ 0 _ _ _ ho
        have k1 := cell_of_row _ _ 1 _ _ _ ho
        have k2 := cell_of_row _ _ 2 _ _ _ ho
        have k3 := cell_of_row _ _ 3 _ _ _ ho
        simp at k0 k1 k2 k3
        refine bodyPost_ret (v := .agg #[.int .i64 m1, .int .i64 t1, .int .i64 l1, .slice A1 l1n c1]) ?_ rfl ⟨⟨_, rfl, ?_⟩, below_setRow HB.out (Nat.le_refl _)⟩
        · rw [results_cell1 rfl]; go_simp <;> rfl
        · have h := slv_setRow (cs := #[.int .i64 m1, .int .i64 t1, .int .i64 l1, .slice A1 l1n c1]) HSl.out HZ.out
          rw [← HQs.out]
          rw [HL1.out] at h ⊢
          exact ⟨A1, c1, rfl, h, HFl.out⟩
      · have hjI : ¬ (j : Int) < (ln : Int) := by omega
        clear hlt h1
        go_wp2_with (refine wpList_store_row rfl _ _ _ rfl w.heap.size #[.int .i64 m1, .int .i64 t1, .int .i64 l1, .slice A1 l1n c1] rfl rfl 24 _ HZ.out HSb.out rfl (one_rows rfl _ _ _) ?_)
        have ho := setRow_heap wr w.heap.size _ #[.int .i64 m1, .int .i64 t1, .int .i64 l1, .slice A1 l1n c1] _ _ HZ.out
        have k0 := cell_of_row _ _ 0 _ _ _ ho
        have k1 := cell_of_row _ _ 1 _ _ _ ho
        have k2 := cell_of_row _ _ 2 _ _ _ ho
        have k3 := cell_of_row _ _ 3 _ _ _ ho
        simp at k0 k1 k2 k3
        refine bodyPost_ret (v := .agg #[.int .i64 m1, .int .i64 t1, .int .i64 l1, .slice A1 l1n c1]) ?_ rfl ⟨⟨_, rfl, ?_⟩, below_setRow HB.out (Nat.le_refl _)⟩
        · rw [results_cell1 rfl]; go_simp <;> rfl
        · have h := slv_setRow (cs := #[.int .i64 m1, .int .i64 t1, .int .i64 l1, .slice A1 l1n c1]) HSl.out HZ.out
          rw [← HQs.out]
          rw [HL1.out] at h ⊢
          exact ⟨A1, c1, rfl, h, HFl.out⟩
end Go.Proofs.Ytnpjakgdfjaglaa
