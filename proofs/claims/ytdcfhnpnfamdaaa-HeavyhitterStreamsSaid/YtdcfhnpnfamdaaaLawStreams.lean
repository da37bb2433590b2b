/- HeavyhitterStreams: for any number and items the law returns true (written by wip/bin/gen_ls22.py). No condition. -/
import Derived.Test.YtdcfhnpnfamdaaaHx
import Derived.Test.YtdcfhnpnfamdaaaIl
import Derived.Deep.RegionHeld3
import Derived.Deep.DeepCutAuto
namespace Go.Proofs.Ytdcfhnpnfamdaaa.lawStreams
open Go.ChangeShapes Go.WideShapes Go.ChangeAt Go.RowKit Go.Joins

/-- Block g holds a summary. -/
def Bv (w : World) (g : Nat) (s : Su) : Prop := ∃ A c, w.heap[g]? = some (.cells #[.int .i64 s.mo, .int .i64 s.to, .int .i64 s.lo, .slice A s.cs.length c] 24 (0, 0)) ∧ SlV w (.slice A s.cs.length c) s.cs
theorem Bv.below {w w' : World} {g : Nat} {s : Su} (h : Bv w g s) (hb : Below w.heap.size w w') : Bv w' g s := by
  obtain ⟨A, c, hg, hs⟩ := h
  exact ⟨A, c, (hb.block g (Array.getElem?_eq_some_iff.1 hg).1).trans hg, hs.below hb⟩
theorem it_set {w : World} {g b k : Nat} {old cs : Array Value} {v : Value} (_hg : w.heap[g]? = some (.cells old 24 (0, 0))) (h : w.cell? ⟨b, k, none⟩ = some v) (hne : b ≠ g) : (w.setRow g cs).cell? ⟨b, k, none⟩ = some v :=
  (cell_setRow_other _ _ _ _ (by first | exact hne | exact hne.symm)).trans h
set_option maxRecDepth 100000 in
set_option maxHeartbeats 16000000 in
theorem walk (w : World) (a0 : Int) (wa0 : (Lit.int .u8 a0).wf = true) (A : Option Addr) (c : Nat) (L : List It) (hL : L.length ≤ 9223372036854775807) (_hc : L.length ≤ c) (_hn : A = none → c = 0) (hok : ∀ x ∈ L, ItOk x) (hR : IR w A L) :
    Calls Try.prog 5 #[.int .u8 a0, .slice A L.length c] w fun e w' => e = .returned (.bool true) ∧ Below w.heap.size w w' := by
  obtain ⟨n, rfl⟩ : ∃ n : Nat, a0 = (n : Int) := ⟨a0.toNat, by have := bd8 wa0; omega⟩
  have hn8 : n ≤ 255 := by have := bd8 wa0; omega
  clear wa0
  have HSb : Hid ((Try.prog.info? 24).map (fun i => i.size) = some 4) := Lib.hid (by kernel_rfl)
  have HR := Lib.hid hR
  have HI := Lib.hid hok
  have HMo := Lib.hid (fun W => most_any n hn8 W)
  have hmo := mo_bd n
  obtain ⟨m, hm⟩ : ∃ m, m = moN n := ⟨_, rfl⟩
  rw [← hm] at HMo hmo
  have HEx := Lib.hid (fun A' key W h => exact_any A' c L hL hok key W h)
  have HSt : Hid (∀ j, Sl22 (stL m (L.take (min j 60)))) := Lib.hid (fun j => st_small ⟨by omega, by omega⟩ _ (by rw [List.length_take]; omega))
  have HGt : Hid (∀ j, Gd (stL m (L.take j)) (exL (L.take j))) := Lib.hid (fun j => st_gd hmo.1 _)
  have HTo : Hid (∀ j, (stL m (L.take j)).to = toL (L.take j)) := Lib.hid (fun j => st_to _ _)
  have HMm : Hid (∀ j, (stL m (L.take j)).mo = m) := Lib.hid (fun j => st_mo _ _)
  have HTb : Hid (∀ j, j ≤ 60 → 0 ≤ toL (L.take j) ∧ toL (L.take j) ≤ 1920) := Lib.hid (fun j hj => by have := toL_bd (L.take j); rw [List.length_take] at this; omega)
  have HNw := Lib.hid (fun W => new_good m ⟨by omega, by omega⟩ W)
  obtain ⟨ln, hln⟩ : ∃ ln, ln = L.length := ⟨_, rfl⟩
  have HLn := Lib.hid hln
  rw [← hln] at HEx hL ⊢
  have HL := Lib.hid hL
  have HMb := Lib.hid hmo
  clear hR hok hm hln hL hmo
  go_enter Try.func5, Try.ntmps5
  go_wp2_with fail
  refine (known_any _).mono ?_
  rintro e w1 ⟨rfl, hb⟩
  have HB1 := Lib.hid hb
  clear hb
  go_wp2_with fail
  refine (HMo.out _).mono ?_
  rintro e w9 ⟨rfl, rfl⟩
  go_wp2_with fail
  refine (HNw.out _).mono ?_
  rintro e w2 ⟨⟨A0, c0, rfl, hv⟩, hb⟩
  have HB2 := Lib.hid (HB1.out.trans (hb.mono HB1.out.size))
  have hlo2 := HB2.out.size
  obtain ⟨W0, hW0⟩ : ∃ W0, W0 = w2.alloc (.cells #[.int .i64 m, .int .i64 0, .int .i64 0, .slice A0 0 c0] 24) := ⟨_, rfl⟩
  have hb3 : Below w2.heap.size w2 W0 := by rw [hW0]; exact (Below.refl _ _).alloc (Nat.le_refl _) _
  have HB3 := Lib.hid (HB2.out.trans (hb3.mono HB2.out.size))
  have HX0 : Hid (Bv W0 w2.heap.size (stL m (L.take 0))) := Lib.hid (by rw [List.take_zero]; exact ⟨A0, c0, by rw [hW0]; exact Deep.blk_alloc_new _ _, hv.below hb3⟩)
  have HW0 := Lib.hid hW0
  obtain ⟨X, hX⟩ : ∃ X, X = w2.heap.size := ⟨_, rfl⟩
  have HXlo : Hid (w.heap.size ≤ X) := Lib.hid (by omega)
  have HXe := Lib.hid hX
  clear hb hb3 hv hW0 hlo2
  go_wp2_with fail
  rw [← HW0.out]
  rw [← hX] at HX0 ⊢
  clear hX HW0
  go_loopw [6, 7, 8] (fun ev tv iv wr => ∃ (j : Nat) (z : Int), j ≤ ln ∧ j ≤ 60 ∧ ev = .int .i64 0 ∧ tv = .int .i64 z ∧ iv = .int .i64 (j : Int) ∧ Hid (z = toL (L.take j)) ∧ Hid (Bv wr X (stL m (L.take j))) ∧ Hid (Below w.heap.size w wr)) (fun _ _ iv _ => 60 - (intOf iv).toNat)
  case atStart => exact ⟨0, 0, Nat.zero_le _, Nat.zero_le _, rfl, rfl, rfl, Lib.hid (by rw [List.take_zero]; rfl), HX0, HB3⟩
  case round =>
    obtain ⟨j, z, hj, hj6, rfl, rfl, rfl, HZ, HX, HB⟩ := hrel
    have hj0 : (0 : Int) ≤ (j : Int) := by omega
    by_cases hlt : j < ln ∧ j < 60
    · obtain ⟨hlt, hlt6⟩ := hlt
      have hj2 : j < L.length := by rw [← HLn.out]; exact hlt
      obtain ⟨bi, oi, rfl, hbi, h0, h1⟩ := (HR.out.below HB.out) j hj2
      have hbw : bi < w.heap.size := by
        obtain ⟨b', o', e, hl, _⟩ := HR.out j hj2
        injection e with e
        injection e with e1 e2
        omega
      have HIt : Hid (bi ≠ X) := Lib.hid (by have := HXlo.out; omega)
      have hok := HI.out _ (List.getElem_mem hj2)
      have hst := st_take m hj2
      have HS := HSt.out j
      rw [Nat.min_eq_left hj6] at HS
      have htn : toL (L.take (j + 1)) = toL (L.take j) + wtI L[j] := by rw [List.take_succ_eq_append_getElem hj2, toL_snoc]
      have HTn := Lib.hid htn
      have hzb := HTb.out j hj6
      rw [← HZ.out] at hzb
      obtain ⟨x, hx⟩ : ∃ x, x = L[j] := ⟨_, rfl⟩
      rw [← hx] at h0 h1 hok hst HTn
      clear hx hj2 htn
      obtain ⟨s, hs⟩ : ∃ s, s = stL m (L.take j) := ⟨_, rfl⟩
      rw [← hs] at HX hst HS
      clear hs
      have HKy := Lib.hid (fun W => key_any x hok.1 W)
      have HWt := Lib.hid (fun W => weight_any x hok.2 W)
      have hwb := wt_bd x
      have HAd := Lib.hid (fun v W h => add_ok s HS (kyI x.1) (wtI x) (nm_ky x.1) (by omega) v W h)
      obtain ⟨y, hy⟩ : ∃ y, y = kyI x.1 := ⟨_, rfl⟩
      obtain ⟨q, hq⟩ : ∃ q, q = wtI x := ⟨_, rfl⟩
      rw [← hy] at HKy HAd hst
      rw [← hq] at HWt HAd hst hwb HTn
      clear hy hq hok HS
      obtain ⟨k, i9⟩ := x
      dsimp only at h0 h1
      obtain ⟨s2, hs2⟩ : ∃ s2, s2 = adS s y q := ⟨_, rfl⟩
      rw [← hs2] at HAd hst
      have HN := Lib.hid hst
      clear hs2 hst
      obtain ⟨m1, t1, l1, cs⟩ := s
      obtain ⟨m2, t2, l2, cs2⟩ := s2
      obtain ⟨A1, c1, hg, hsl⟩ := HX.out
      dsimp only at hg hsl
      obtain ⟨l1n, hl1n⟩ : ∃ l1n, l1n = cs.length := ⟨_, rfl⟩
      rw [← hl1n] at hg hsl
      have HG := Lib.hid hg
      have HSl := Lib.hid hsl
      have HAd1 : Hid (∀ W, Below wr.heap.size wr W → Calls Try.prog 19 #[.agg #[.int .i64 m1, .int .i64 t1, .int .i64 l1, .slice A1 l1n c1], .string y, .int .i64 q] W fun e w' => (∃ A9 c9, e = .returned (.tuple #[.agg #[.int .i64 m2, .int .i64 t2, .int .i64 l2, .slice A9 cs2.length c9], .int .i64 0]) ∧ SlV w' (.slice A9 cs2.length c9) cs2) ∧ Below W.heap.size W w') := Lib.hid (fun W hW => by
        refine (HAd.out _ W ⟨_, rfl, HSl.out.below hW⟩).mono ?_
        rintro e w' ⟨⟨u, rfl, u', rfl, h⟩, hb⟩
        obtain ⟨A', c', rfl, _⟩ := id h
        exact ⟨⟨A', c', rfl, h⟩, hb⟩)
      have hz := (Array.getElem?_eq_some_iff.1 hg).1
      have HKS : Hid (∀ W, Below wr.heap.size wr W → W.cell? ⟨bi, oi + j * 2, none⟩ = some (.int .u8 (k : Int)) ∧ W.cell? ⟨bi, oi + j * 2 + 1, none⟩ = some (.int .u8 (i9 : Int))) := Lib.hid (fun W hW => ⟨(hW.cell (p := ⟨bi, oi + j * 2, none⟩) hbi).trans h0, (hW.cell (p := ⟨bi, oi + j * 2 + 1, none⟩) hbi).trans h1⟩)
      have HGW : Hid (∀ W, Below wr.heap.size wr W → W.heap[X]? = some (.cells #[.int .i64 m1, .int .i64 t1, .int .i64 l1, .slice A1 l1n c1] 24 (0, 0))) := Lib.hid (fun W hW => (hW.block _ hz).trans HG.out)
      have HRW : Hid (∀ W, Below wr.heap.size wr W → W.cell? ⟨X, 0, none⟩ = some (.int .i64 m1) ∧ W.cell? ⟨X, 1, none⟩ = some (.int .i64 t1) ∧ W.cell? ⟨X, 2, none⟩ = some (.int .i64 l1) ∧ W.cell? ⟨X, 3, none⟩ = some (.slice A1 l1n c1)) := Lib.hid (fun W hW => by
        have hg := HGW.out W hW
        exact ⟨cell_of_row _ _ 0 _ _ _ hg, cell_of_row _ _ 1 _ _ _ hg, cell_of_row _ _ 2 _ _ _ hg, cell_of_row _ _ 3 _ _ _ hg⟩)
      have HS9 : Hid (∀ W, W.heap[X]? = some (.cells #[.int .i64 m1, .int .i64 t1, .int .i64 l1, .slice A1 l1n c1] 24 (0, 0)) → ∀ cs9, Below wr.heap.size wr W → (W.setRow X cs9).cell? ⟨bi, oi + j * 2, none⟩ = some (.int .u8 (k : Int)) ∧ (W.setRow X cs9).cell? ⟨bi, oi + j * 2 + 1, none⟩ = some (.int .u8 (i9 : Int))) := Lib.hid (fun W hg cs9 hW => ⟨it_set hg (HKS.out W hW).1 HIt.out, it_set hg (HKS.out W hW).2 HIt.out⟩)
      have HC9 : Hid (∀ W, Below w.heap.size w W → W.cell? ⟨bi, oi + j * 2, none⟩ = some (.int .u8 (k : Int)) ∧ W.cell? ⟨bi, oi + j * 2 + 1, none⟩ = some (.int .u8 (i9 : Int))) := Lib.hid (fun W hW => by
        have e0 := HB.out.cell (p := ⟨bi, oi + j * 2, none⟩) hbw
        have e1 := HB.out.cell (p := ⟨bi, oi + j * 2 + 1, none⟩) hbw
        exact ⟨(hW.cell (p := ⟨bi, oi + j * 2, none⟩) hbw).trans (e0.symm.trans h0), (hW.cell (p := ⟨bi, oi + j * 2 + 1, none⟩) hbw).trans (e1.symm.trans h1)⟩)
      have hjI : (j : Int) < (ln : Int) := by omega
      have hjI6 : (j : Int) < 60 := by omega
      have hw1 : IntKind.i64.wrap ((j : Int) + 1) = (j : Int) + 1 := by simp only [IntKind.wrap_i64]; omega
      obtain ⟨z2, hz2⟩ : ∃ z2, z2 = z + q := ⟨_, rfl⟩
      have hw2 : IntKind.i64.wrap (z + q) = z2 := by rw [hz2]; simp only [IntKind.wrap_i64]; omega
      have HZ2 : Hid (z2 = toL (L.take (j + 1))) := Lib.hid (by rw [HTn.out, ← HZ.out, hz2])
      have HBi := Lib.hid hbw
      clear hg hsl hl1n h0 h1 hz HX hz2 hzb hwb
      go_upto_region 8 with fail
      go_cut [6] from 22 to 57 (fun s6 wx => s6 = .int .i64 0 ∧ Hid (Bv wx X ⟨m2, t2, l2, cs2⟩) ∧ Hid (Below w.heap.size w wx))
      case first =>
        refine wp_region_last 16 (fun W => W.cell? ⟨bi, oi + j * 2, none⟩ = some (.int .u8 (k : Int)) ∧ W.cell? ⟨bi, oi + j * 2 + 1, none⟩ = some (.int .u8 (i9 : Int))) (by kernel_rfl) (by decide +kernel) (by rfl) (HKS.out _ (Below.drew (Below.refl _ _))) (fun hHeld => ?_)
        simp only [List.take_succ_cons, List.take_zero]
        have HD0 : Hid (Below wr.heap.size wr wr.drew) := Lib.hid (Below.drew (Below.refl _ _))
        refine wpAnyH_take (i := 1) (v := ?_) rfl (by decide +kernel) (by decide +kernel) (by decide +kernel) (fun _ _ _ h => h) (Or.inl ⟨by rfl, ?_⟩) (by assumption) ?_
        rotate_left 1
        · (intro w' hSw; (try dsimp only at hSw); go_simp; (try (with_reducible rfl)))
        try simp only [List.getElem_toArray, List.getElem_cons_zero, List.getElem_cons_succ, Act.put, List.setIfInBounds_toArray, List.set_cons_zero, List.set_cons_succ]
        refine wpAnyH_take (i := 2) (v := ?_) rfl (by decide +kernel) (by decide +kernel) (by decide +kernel) (fun _ _ _ h => h) (Or.inl ⟨by rfl, ?_⟩) (by assumption) ?_
        rotate_left 1
        · (intro w' hSw; (try dsimp only at hSw); go_simp; (try (with_reducible rfl)))
        try simp only [List.getElem_toArray, List.getElem_cons_zero, List.getElem_cons_succ, Act.put, List.setIfInBounds_toArray, List.set_cons_zero, List.set_cons_succ]
        refine wpAnyH_take (i := 3) (v := ?_) rfl (by decide +kernel) (by decide +kernel) (by decide +kernel) (fun _ _ _ h => h) (Or.inl ⟨by rfl, ?_⟩) (by assumption) ?_
        rotate_left 1
        · (intro w' hSw; (try dsimp only at hSw); go_simp; (try (with_reducible rfl)))
        try simp only [List.getElem_toArray, List.getElem_cons_zero, List.getElem_cons_succ, Act.put, List.setIfInBounds_toArray, List.set_cons_zero, List.set_cons_succ]
        refine wpAnyH_take (i := 4) (v := ?_) rfl (by decide +kernel) (by decide +kernel) (by decide +kernel) (fun _ _ _ h => h) (Or.inl ⟨by rfl, ?_⟩) (by assumption) ?_
        rotate_left 1
        · (intro w' hSw; (try dsimp only at hSw); go_simp; (try (with_reducible rfl)))
        try simp only [List.getElem_toArray, List.getElem_cons_zero, List.getElem_cons_succ, Act.put, List.setIfInBounds_toArray, List.set_cons_zero, List.set_cons_succ]
        refine wpAnyH_take (i := 6) (v := ?_) rfl (by decide +kernel) (by decide +kernel) (by decide +kernel) (fun _ _ _ h => h) (Or.inl ⟨by rfl, ?_⟩) (by assumption) ?_
        rotate_left 1
        · (intro w' hSw; (try dsimp only at hSw); go_simp; (try (with_reducible rfl)))
        try simp only [List.getElem_toArray, List.getElem_cons_zero, List.getElem_cons_succ, Act.put, List.setIfInBounds_toArray, List.set_cons_zero, List.set_cons_succ]
        refine wpAnyH_take (i := 7) (v := ?_) rfl (by decide +kernel) (by decide +kernel) (by decide +kernel) (fun _ _ _ h => h) (Or.inl ⟨by rfl, ?_⟩) (by assumption) ?_
        rotate_left 1
        · (intro w' hSw; (try dsimp only at hSw); go_simp; (try (with_reducible rfl)))
        try simp only [List.getElem_toArray, List.getElem_cons_zero, List.getElem_cons_succ, Act.put, List.setIfInBounds_toArray, List.set_cons_zero, List.set_cons_succ]
        refine wpAnyH_take (i := 8) (v := ?_) rfl (by decide +kernel) (by decide +kernel) (by decide +kernel) (fun _ _ _ h => h) (Or.inl ⟨by rfl, ?_⟩) (by assumption) ?_
        rotate_left 1
        · (intro w' hSw; (try dsimp only at hSw); go_simp; (try (with_reducible rfl)))
        try simp only [List.getElem_toArray, List.getElem_cons_zero, List.getElem_cons_succ, Act.put, List.setIfInBounds_toArray, List.set_cons_zero, List.set_cons_succ]
        refine wpAnyH_take (i := 9) (v := ?_) rfl (by decide +kernel) (by decide +kernel) (by decide +kernel) (fun _ _ _ h => h) (Or.inl ⟨by rfl, ?_⟩) (by assumption) ?_
        rotate_left 1
        · (intro w' hSw; (try dsimp only at hSw); go_simp; (try (with_reducible rfl)))
        try simp only [List.getElem_toArray, List.getElem_cons_zero, List.getElem_cons_succ, Act.put, List.setIfInBounds_toArray, List.set_cons_zero, List.set_cons_succ]
        refine wpAnyH_ready (rs := [0, 5]) (by decide +kernel) (by simp) ?_
        refine AllReadyH.cons rfl (fun K hK => ?_) (AllReadyH.cons rfl (fun K hK => ?_) AllReadyH.nil)
        · obtain ⟨b0, b1, b2, b3⟩ := HRW.out _ HD0.out
          go_simp
          refine hK.out _ _ (HKS.out _ HD0.out) (fun hHeld => ?_)
          clear hK K b0 b1 b2 b3
          try simp only [List.getElem_toArray, List.getElem_cons_zero, List.getElem_cons_succ, Act.put, List.setIfInBounds_toArray, List.set_cons_zero, List.set_cons_succ]
          refine wpAnyH_ready (rs := [5]) (by decide +kernel) (by simp) ?_
          refine AllReadyH.cons rfl (fun K hK => ?_) AllReadyH.nil
          go_simp
          go_at_call 23
          with_reducible refine (HKy.out _).mono ?_
          rintro e w4 ⟨rfl, hb⟩
          have w4B : Hid (Below wr.heap.size wr w4) := Lib.hid (HD0.out.trans (hb.mono HD0.out.size))
          clear hb
          try go_wp2_with fail
          refine hK.out _ _ (HKS.out _ w4B.out) (fun hHeld => ?_)
          clear hK K
          try simp only [List.getElem_toArray, List.getElem_cons_zero, List.getElem_cons_succ, Act.put, List.setIfInBounds_toArray, List.set_cons_zero, List.set_cons_succ]
          refine wpAnyH_ready (rs := [10]) (by decide +kernel) (by simp) ?_
          refine AllReadyH.cons rfl (fun K hK => ?_) AllReadyH.nil
          go_simp
          go_at_call 24
          with_reducible refine (HWt.out _).mono ?_
          rintro e w5 ⟨rfl, hb⟩
          have w5B : Hid (Below wr.heap.size wr w5) := Lib.hid (w4B.out.trans (hb.mono w4B.out.size))
          clear hb
          try go_wp2_with fail
          refine hK.out _ _ (HKS.out _ w5B.out) (fun hHeld => ?_)
          clear hK K
          try simp only [List.getElem_toArray, List.getElem_cons_zero, List.getElem_cons_succ, Act.put, List.setIfInBounds_toArray, List.set_cons_zero, List.set_cons_succ]
          refine wpAnyH_ready (rs := [11]) (by decide +kernel) (by simp) ?_
          refine AllReadyH.cons rfl (fun K hK => ?_) AllReadyH.nil
          go_simp
          go_at_call 19
          with_reducible refine (HAd1.out _ w5B.out).mono ?_
          rintro e w6 ⟨⟨A9, c9, rfl, hu⟩, hb6⟩
          have HB6 : Hid (Below wr.heap.size wr w6) := Lib.hid (w5B.out.trans (hb6.mono w5B.out.size))
          obtain ⟨l9, hl9⟩ : ∃ l9, l9 = cs2.length := ⟨_, rfl⟩
          have HL9 := Lib.hid hl9
          rw [← hl9] at hu ⊢
          have HU6 := Lib.hid hu
          clear hb6 hu hl9
          try go_wp2_with fail
          refine hK.out _ _ (HKS.out _ HB6.out) (fun hHeld => ?_)
          clear hK K
          try simp only [List.getElem_toArray, List.getElem_cons_zero, List.getElem_cons_succ, Act.put, List.setIfInBounds_toArray, List.set_cons_zero, List.set_cons_succ]
          refine wpAnyH_take (i := 12) (v := ?_) rfl (by decide +kernel) (by decide +kernel) (by decide +kernel) (fun _ _ _ h => h) (Or.inl ⟨by rfl, ?_⟩) (by assumption) ?_
          rotate_left 1
          · (intro w' hSw; (try dsimp only at hSw); go_simp; (try (with_reducible rfl)))
          try simp only [List.getElem_toArray, List.getElem_cons_zero, List.getElem_cons_succ, Act.put, List.setIfInBounds_toArray, List.set_cons_zero, List.set_cons_succ]
          refine wpAnyH_take (i := 13) (v := ?_) rfl (by decide +kernel) (by decide +kernel) (by decide +kernel) (fun _ _ _ h => h) (Or.inl ⟨by rfl, ?_⟩) (by assumption) ?_
          rotate_left 1
          · (intro w' hSw; (try dsimp only at hSw); go_simp; (try (with_reducible rfl)))
          try simp only [List.getElem_toArray, List.getElem_cons_zero, List.getElem_cons_succ, Act.put, List.setIfInBounds_toArray, List.set_cons_zero, List.set_cons_succ]
          refine wpAnyH_take (i := 14) (v := ?_) rfl (by decide +kernel) (by decide +kernel) (by decide +kernel) (fun _ _ _ h => h) (Or.inl ⟨by rfl, ?_⟩) (by assumption) ?_
          rotate_left 1
          · (intro w' hSw; (try dsimp only at hSw); go_simp; (try (with_reducible rfl)))
          try simp only [List.getElem_toArray, List.getElem_cons_zero, List.getElem_cons_succ, Act.put, List.setIfInBounds_toArray, List.set_cons_zero, List.set_cons_succ]
          refine wpAnyH_ready (rs := [15]) (by decide +kernel) (by simp) ?_
          refine AllReadyH.cons rfl (fun K hK => ?_) AllReadyH.nil
          rw [if_pos (by rfl)]
          refine wp_store_row 24 _ _ rfl X #[.int .i64 m2, .int .i64 t2, .int .i64 l2, .slice A9 l9 c9] rfl rfl 24 _ (HGW.out _ HB6.out) HSb.out rfl (one_rows rfl _ _ _) ?_
          have HB9 : Hid (Below w.heap.size w (w6.setRow (X) #[.int .i64 m2, .int .i64 t2, .int .i64 l2, .slice A9 l9 c9])) := Lib.hid (below_setRow (HB.out.trans (HB6.out.mono HB.out.size)) HXlo.out)
          have HX9 : Hid (Bv (w6.setRow (X) #[.int .i64 m2, .int .i64 t2, .int .i64 l2, .slice A9 l9 c9]) (X) ⟨m2, t2, l2, cs2⟩) := Lib.hid (by
            have h1 := setRow_heap w6 (X) _ #[.int .i64 m2, .int .i64 t2, .int .i64 l2, .slice A9 l9 c9] _ _ (HGW.out _ HB6.out)
            have h2 := slv_setRow (cs := #[.int .i64 m2, .int .i64 t2, .int .i64 l2, .slice A9 l9 c9]) HU6.out (HGW.out _ HB6.out)
            rw [HL9.out] at h1 h2 ⊢
            exact ⟨A9, c9, h1, h2⟩)
          have hS9 := HS9.out _ (HGW.out _ HB6.out) #[.int .i64 m2, .int .i64 t2, .int .i64 l2, .slice A9 l9 c9] HB6.out
          refine hK.out _ _ hS9 (fun hHeld => ?_)
          clear hK K hS9
          try simp only [List.getElem_toArray, List.getElem_cons_zero, List.getElem_cons_succ, Act.put]
          refine wpAnyH_done (by decide +kernel) ?_ _
          intro K hK
          go_simp
          refine hK.out _ _ ?_
          clear hK K
          try simp only [List.getElem_toArray, List.getElem_cons_zero, List.getElem_cons_succ, Act.put, List.setIfInBounds_toArray, List.set_cons_zero, List.set_cons_succ]
          (refine (by assumption : ∀ _ _, _ → _) _ _ ?_)
          go_wp2_with fail
          go_meet
          exact ⟨rfl, HX9, HB9⟩
        · go_simp
          go_at_call 23
          with_reducible refine (HKy.out _).mono ?_
          rintro e w4 ⟨rfl, hb⟩
          have w4B : Hid (Below wr.heap.size wr w4) := Lib.hid (HD0.out.trans (hb.mono HD0.out.size))
          clear hb
          try go_wp2_with fail
          refine hK.out _ _ (HKS.out _ w4B.out) (fun hHeld => ?_)
          clear hK K
          try simp only [List.getElem_toArray, List.getElem_cons_zero, List.getElem_cons_succ, Act.put, List.setIfInBounds_toArray, List.set_cons_zero, List.set_cons_succ]
          refine wpAnyH_ready (rs := [0, 10]) (by decide +kernel) (by simp) ?_
          refine AllReadyH.cons rfl (fun K hK => ?_) (AllReadyH.cons rfl (fun K hK => ?_) AllReadyH.nil)
          · obtain ⟨b0, b1, b2, b3⟩ := HRW.out _ w4B.out
            go_simp
            refine hK.out _ _ (HKS.out _ w4B.out) (fun hHeld => ?_)
            clear hK K b0 b1 b2 b3
            try simp only [List.getElem_toArray, List.getElem_cons_zero, List.getElem_cons_succ, Act.put, List.setIfInBounds_toArray, List.set_cons_zero, List.set_cons_succ]
            refine wpAnyH_ready (rs := [10]) (by decide +kernel) (by simp) ?_
            refine AllReadyH.cons rfl (fun K hK => ?_) AllReadyH.nil
            go_simp
            go_at_call 24
            with_reducible refine (HWt.out _).mono ?_
            rintro e w5 ⟨rfl, hb⟩
            have w5B : Hid (Below wr.heap.size wr w5) := Lib.hid (w4B.out.trans (hb.mono w4B.out.size))
            clear hb
            try go_wp2_with fail
            refine hK.out _ _ (HKS.out _ w5B.out) (fun hHeld => ?_)
            clear hK K
            try simp only [List.getElem_toArray, List.getElem_cons_zero, List.getElem_cons_succ, Act.put, List.setIfInBounds_toArray, List.set_cons_zero, List.set_cons_succ]
            refine wpAnyH_ready (rs := [11]) (by decide +kernel) (by simp) ?_
            refine AllReadyH.cons rfl (fun K hK => ?_) AllReadyH.nil
            go_simp
            go_at_call 19
            with_reducible refine (HAd1.out _ w5B.out).mono ?_
            rintro e w6 ⟨⟨A9, c9, rfl, hu⟩, hb6⟩
            have HB6 : Hid (Below wr.heap.size wr w6) := Lib.hid (w5B.out.trans (hb6.mono w5B.out.size))
            obtain ⟨l9, hl9⟩ : ∃ l9, l9 = cs2.length := ⟨_, rfl⟩
            have HL9 := Lib.hid hl9
            rw [← hl9] at hu ⊢
            have HU6 := Lib.hid hu
            clear hb6 hu hl9
            try go_wp2_with fail
            refine hK.out _ _ (HKS.out _ HB6.out) (fun hHeld => ?_)
            clear hK K
            try simp only [List.getElem_toArray, List.getElem_cons_zero, List.getElem_cons_succ, Act.put, List.setIfInBounds_toArray, List.set_cons_zero, List.set_cons_succ]
            refine wpAnyH_take (i := 12) (v := ?_) rfl (by decide +kernel) (by decide +kernel) (by decide +kernel) (fun _ _ _ h => h) (Or.inl ⟨by rfl, ?_⟩) (by assumption) ?_
            rotate_left 1
            · (intro w' hSw; (try dsimp only at hSw); go_simp; (try (with_reducible rfl)))
            try simp only [List.getElem_toArray, List.getElem_cons_zero, List.getElem_cons_succ, Act.put, List.setIfInBounds_toArray, List.set_cons_zero, List.set_cons_succ]
            refine wpAnyH_take (i := 13) (v := ?_) rfl (by decide +kernel) (by decide +kernel) (by decide +kernel) (fun _ _ _ h => h) (Or.inl ⟨by rfl, ?_⟩) (by assumption) ?_
            rotate_left 1
            · (intro w' hSw; (try dsimp only at hSw); go_simp; (try (with_reducible rfl)))
            try simp only [List.getElem_toArray, List.getElem_cons_zero, List.getElem_cons_succ, Act.put, List.setIfInBounds_toArray, List.set_cons_zero, List.set_cons_succ]
            refine wpAnyH_take (i := 14) (v := ?_) rfl (by decide +kernel) (by decide +kernel) (by decide +kernel) (fun _ _ _ h => h) (Or.inl ⟨by rfl, ?_⟩) (by assumption) ?_
            rotate_left 1
            · (intro w' hSw; (try dsimp only at hSw); go_simp; (try (with_reducible rfl)))
            try simp only [List.getElem_toArray, List.getElem_cons_zero, List.getElem_cons_succ, Act.put, List.setIfInBounds_toArray, List.set_cons_zero, List.set_cons_succ]
            refine wpAnyH_ready (rs := [15]) (by decide +kernel) (by simp) ?_
            refine AllReadyH.cons rfl (fun K hK => ?_) AllReadyH.nil
            rw [if_pos (by rfl)]
            refine wp_store_row 24 _ _ rfl X #[.int .i64 m2, .int .i64 t2, .int .i64 l2, .slice A9 l9 c9] rfl rfl 24 _ (HGW.out _ HB6.out) HSb.out rfl (one_rows rfl _ _ _) ?_
            have HB9 : Hid (Below w.heap.size w (w6.setRow (X) #[.int .i64 m2, .int .i64 t2, .int .i64 l2, .slice A9 l9 c9])) := Lib.hid (below_setRow (HB.out.trans (HB6.out.mono HB.out.size)) HXlo.out)
            have HX9 : Hid (Bv (w6.setRow (X) #[.int .i64 m2, .int .i64 t2, .int .i64 l2, .slice A9 l9 c9]) (X) ⟨m2, t2, l2, cs2⟩) := Lib.hid (by
              have h1 := setRow_heap w6 (X) _ #[.int .i64 m2, .int .i64 t2, .int .i64 l2, .slice A9 l9 c9] _ _ (HGW.out _ HB6.out)
              have h2 := slv_setRow (cs := #[.int .i64 m2, .int .i64 t2, .int .i64 l2, .slice A9 l9 c9]) HU6.out (HGW.out _ HB6.out)
              rw [HL9.out] at h1 h2 ⊢
              exact ⟨A9, c9, h1, h2⟩)
            have hS9 := HS9.out _ (HGW.out _ HB6.out) #[.int .i64 m2, .int .i64 t2, .int .i64 l2, .slice A9 l9 c9] HB6.out
            refine hK.out _ _ hS9 (fun hHeld => ?_)
            clear hK K hS9
            try simp only [List.getElem_toArray, List.getElem_cons_zero, List.getElem_cons_succ, Act.put]
            refine wpAnyH_done (by decide +kernel) ?_ _
            intro K hK
            go_simp
            refine hK.out _ _ ?_
            clear hK K
            try simp only [List.getElem_toArray, List.getElem_cons_zero, List.getElem_cons_succ, Act.put, List.setIfInBounds_toArray, List.set_cons_zero, List.set_cons_succ]
            (refine (by assumption : ∀ _ _, _ → _) _ _ ?_)
            go_wp2_with fail
            go_meet
            exact ⟨rfl, HX9, HB9⟩
          · go_simp
            go_at_call 24
            with_reducible refine (HWt.out _).mono ?_
            rintro e w5 ⟨rfl, hb⟩
            have w5B : Hid (Below wr.heap.size wr w5) := Lib.hid (w4B.out.trans (hb.mono w4B.out.size))
            clear hb
            try go_wp2_with fail
            refine hK.out _ _ (HKS.out _ w5B.out) (fun hHeld => ?_)
            clear hK K
            try simp only [List.getElem_toArray, List.getElem_cons_zero, List.getElem_cons_succ, Act.put, List.setIfInBounds_toArray, List.set_cons_zero, List.set_cons_succ]
            refine wpAnyH_ready (rs := [0]) (by decide +kernel) (by simp) ?_
            refine AllReadyH.cons rfl (fun K hK => ?_) AllReadyH.nil
            obtain ⟨b0, b1, b2, b3⟩ := HRW.out _ w5B.out
            go_simp
            refine hK.out _ _ (HKS.out _ w5B.out) (fun hHeld => ?_)
            clear hK K b0 b1 b2 b3
            try simp only [List.getElem_toArray, List.getElem_cons_zero, List.getElem_cons_succ, Act.put, List.setIfInBounds_toArray, List.set_cons_zero, List.set_cons_succ]
            refine wpAnyH_ready (rs := [11]) (by decide +kernel) (by simp) ?_
            refine AllReadyH.cons rfl (fun K hK => ?_) AllReadyH.nil
            go_simp
            go_at_call 19
            with_reducible refine (HAd1.out _ w5B.out).mono ?_
            rintro e w6 ⟨⟨A9, c9, rfl, hu⟩, hb6⟩
            have HB6 : Hid (Below wr.heap.size wr w6) := Lib.hid (w5B.out.trans (hb6.mono w5B.out.size))
            obtain ⟨l9, hl9⟩ : ∃ l9, l9 = cs2.length := ⟨_, rfl⟩
            have HL9 := Lib.hid hl9
            rw [← hl9] at hu ⊢
            have HU6 := Lib.hid hu
            clear hb6 hu hl9
            try go_wp2_with fail
            refine hK.out _ _ (HKS.out _ HB6.out) (fun hHeld => ?_)
            clear hK K
            try simp only [List.getElem_toArray, List.getElem_cons_zero, List.getElem_cons_succ, Act.put, List.setIfInBounds_toArray, List.set_cons_zero, List.set_cons_succ]
            refine wpAnyH_take (i := 12) (v := ?_) rfl (by decide +kernel) (by decide +kernel) (by decide +kernel) (fun _ _ _ h => h) (Or.inl ⟨by rfl, ?_⟩) (by assumption) ?_
            rotate_left 1
            · (intro w' hSw; (try dsimp only at hSw); go_simp; (try (with_reducible rfl)))
            try simp only [List.getElem_toArray, List.getElem_cons_zero, List.getElem_cons_succ, Act.put, List.setIfInBounds_toArray, List.set_cons_zero, List.set_cons_succ]
            refine wpAnyH_take (i := 13) (v := ?_) rfl (by decide +kernel) (by decide +kernel) (by decide +kernel) (fun _ _ _ h => h) (Or.inl ⟨by rfl, ?_⟩) (by assumption) ?_
            rotate_left 1
            · (intro w' hSw; (try dsimp only at hSw); go_simp; (try (with_reducible rfl)))
            try simp only [List.getElem_toArray, List.getElem_cons_zero, List.getElem_cons_succ, Act.put, List.setIfInBounds_toArray, List.set_cons_zero, List.set_cons_succ]
            refine wpAnyH_take (i := 14) (v := ?_) rfl (by decide +kernel) (by decide +kernel) (by decide +kernel) (fun _ _ _ h => h) (Or.inl ⟨by rfl, ?_⟩) (by assumption) ?_
            rotate_left 1
            · (intro w' hSw; (try dsimp only at hSw); go_simp; (try (with_reducible rfl)))
            try simp only [List.getElem_toArray, List.getElem_cons_zero, List.getElem_cons_succ, Act.put, List.setIfInBounds_toArray, List.set_cons_zero, List.set_cons_succ]
            refine wpAnyH_ready (rs := [15]) (by decide +kernel) (by simp) ?_
            refine AllReadyH.cons rfl (fun K hK => ?_) AllReadyH.nil
            rw [if_pos (by rfl)]
            refine wp_store_row 24 _ _ rfl X #[.int .i64 m2, .int .i64 t2, .int .i64 l2, .slice A9 l9 c9] rfl rfl 24 _ (HGW.out _ HB6.out) HSb.out rfl (one_rows rfl _ _ _) ?_
            have HB9 : Hid (Below w.heap.size w (w6.setRow (X) #[.int .i64 m2, .int .i64 t2, .int .i64 l2, .slice A9 l9 c9])) := Lib.hid (below_setRow (HB.out.trans (HB6.out.mono HB.out.size)) HXlo.out)
            have HX9 : Hid (Bv (w6.setRow (X) #[.int .i64 m2, .int .i64 t2, .int .i64 l2, .slice A9 l9 c9]) (X) ⟨m2, t2, l2, cs2⟩) := Lib.hid (by
              have h1 := setRow_heap w6 (X) _ #[.int .i64 m2, .int .i64 t2, .int .i64 l2, .slice A9 l9 c9] _ _ (HGW.out _ HB6.out)
              have h2 := slv_setRow (cs := #[.int .i64 m2, .int .i64 t2, .int .i64 l2, .slice A9 l9 c9]) HU6.out (HGW.out _ HB6.out)
              rw [HL9.out] at h1 h2 ⊢
              exact ⟨A9, c9, h1, h2⟩)
            have hS9 := HS9.out _ (HGW.out _ HB6.out) #[.int .i64 m2, .int .i64 t2, .int .i64 l2, .slice A9 l9 c9] HB6.out
            refine hK.out _ _ hS9 (fun hHeld => ?_)
            clear hK K hS9
            try simp only [List.getElem_toArray, List.getElem_cons_zero, List.getElem_cons_succ, Act.put]
            refine wpAnyH_done (by decide +kernel) ?_ _
            intro K hK
            go_simp
            refine hK.out _ _ ?_
            clear hK K
            try simp only [List.getElem_toArray, List.getElem_cons_zero, List.getElem_cons_succ, Act.put, List.setIfInBounds_toArray, List.set_cons_zero, List.set_cons_succ]
            (refine (by assumption : ∀ _ _, _ → _) _ _ ?_)
            go_wp2_with fail
            go_meet
            exact ⟨rfl, HX9, HB9⟩
      case rest =>
        obtain ⟨rfl, HX9, HB9⟩ := hcut
        obtain ⟨g0, g1⟩ := HC9.out _ HB9.out
        have hbi9 : bi < wc.heap.size := Nat.lt_of_lt_of_le HBi.out HB9.out.size
        have HX9' : Hid (Bv wc X (stL m (L.take (j + 1)))) := Lib.hid (by rw [HN.out]; exact HX9.out)
        go_wp2_with fail
        refine (HWt.out _).mono ?_
        rintro e w8 ⟨rfl, hb⟩
        have HB8 := Lib.hid (HB9.out.trans (hb.mono HB9.out.size))
        have HX8 := Lib.hid (HX9'.out.below hb)
        clear hb g0 g1
        go_wp2_with fail
        go_roundw
        case rel => exact ⟨j + 1, z2, by omega, by omega, rfl, rfl, by go_num, HZ2, HX8, HB8⟩
        case measure => simp [intOf] <;> omega
    · have HT : Hid (L.take j = L.take 60) := Lib.hid (by
        by_cases e : j = 60
        · rw [e]
        · rw [List.take_of_length_le (by rw [← HLn.out]; omega), List.take_of_length_le (by rw [← HLn.out]; omega)])
      have hgd := HGt.out 60
      have hsm := HSt.out 60
      rw [Nat.min_self] at hsm
      have hto := HTo.out 60
      have hmm := HMm.out 60
      have hzb := HTb.out 60 (Nat.le_refl _)
      have hzz := HZ.out
      rw [HT.out] at HX hzz
      obtain ⟨s, hs⟩ : ∃ s, s = stL m (L.take 60) := ⟨_, rfl⟩
      rw [← hs] at HX hgd hsm hto hmm
      clear hs
      obtain ⟨m1, t1, lo, cs⟩ := s
      dsimp only at hto hmm
      rw [hto, ← hzz] at HX
      rw [hto, ← hzz] at hgd hsm
      have hm1 : m1 = m := hmm
      subst hm1
      rw [← hzz] at hzb
      have hsum := hgd.sum
      have hsm0 := sm_nn hgd.ps.nn
      have hlo := hsm.lo
      dsimp only at hsum hlo hsm0
      obtain ⟨p, hp⟩ : ∃ p, p = lo * (m1 + 1) := ⟨_, rfl⟩
      obtain ⟨n1, hn1⟩ : ∃ n1, n1 = m1 + 1 := ⟨_, rfl⟩
      have hmb := HMb.out
      have hp0 : 0 ≤ p := by rw [hp]; exact Int.mul_nonneg hlo.1 (by omega)
      rw [← hp] at hsum
      have w1 : IntKind.i64.wrap (m1 + 1) = n1 := by rw [hn1]; simp only [IntKind.wrap_i64]; omega
      have w2 : IntKind.i64.wrap (lo * n1) = p := by rw [hn1, ← hp]; simp only [IntKind.wrap_i64]; omega
      have hpz : p ≤ z := by omega
      have dpz : decide (z < p) = false := by simp; omega
      have HPz := Lib.hid hpz
      have HN1 := Lib.hid hn1
      have HPe := Lib.hid hp
      have HGd := Lib.hid hgd
      have HSm := Lib.hid hsm
      have HZb := Lib.hid hzb
      obtain ⟨A1, c1, hg, hsl⟩ := HX.out
      dsimp only at hg hsl
      obtain ⟨l1n, hl1n⟩ : ∃ l1n, l1n = cs.length := ⟨_, rfl⟩
      have HL1 := Lib.hid hl1n
      rw [← hl1n] at hg hsl
      have HG := Lib.hid hg
      have HSl := Lib.hid hsl
      have c9 := cell_of_row _ _ 1 _ _ _ hg
      have c8 := cell_of_row _ _ 2 _ _ _ hg
      simp at c9 c8
      have HCc := Lib.hid (And.intro c9 c8)
      have HBd := Lib.hid (fun key A' c' W (h : SlV W (.slice A' cs.length c') cs) => bounds_any (.agg #[.int .i64 m1, .int .i64 z, .int .i64 lo, .slice A' cs.length c']) ⟨m1, z, lo, cs⟩ key (by have := hsm.size; dsimp only at this ⊢; omega) (by have := hsm.gtb key; dsimp only at this ⊢; omega) W ⟨_, rfl, h⟩)
      rw [← hl1n] at HBd
      clear hgd hsm hto hmm hzz hg hsl hl1n hsum hsm0 hlo hp hn1 hmb hpz hp0 hzb c9 c8 HX
      by_cases h1 : j < ln
      · have hjI : (j : Int) < (ln : Int) := by omega
        have hjI6 : ¬ (j : Int) < 60 := by omega
        clear hlt h1
        go_wp2_with fail
        go_region_held3 (fun W => W.cell? ⟨X, 1, none⟩ = some (.int .i64 z) ∧ W.cell? ⟨X, 2, none⟩ = some (.int .i64 lo))
            (first | exact HCc.out)
          ((first
            | (go_at_call 22; (with_reducible refine (HMo.out _).mono ?_); rintro e w9 ⟨rfl, rfl⟩)
            | fail))
        go_wp2_with fail
        have HBd0 : Hid (Below w.heap.size w wr.drew) := Lib.hid (Below.drew HB.out)
        have HG0 : Hid (wr.drew.heap[X]? = some (.cells #[.int .i64 m1, .int .i64 z, .int .i64 lo, .slice A1 l1n c1] 24 (0, 0))) := Lib.hid HG.out
        have HS0 : Hid (SlV wr.drew (.slice A1 l1n c1) cs) := Lib.hid (HSl.out.below (Below.drew (Below.refl _ _)))
        go_loopw [9, 10, 11, 12, 13] (fun kv _a _b _c _d wq => ∃ k : Nat, k ≤ 26 ∧ kv = .int .i64 (k : Int) ∧ Hid (Below w.heap.size w wq) ∧ Hid (wq.heap[X]? = some (.cells #[.int .i64 m1, .int .i64 z, .int .i64 lo, .slice A1 l1n c1] 24 (0, 0))) ∧ Hid (SlV wq (.slice A1 l1n c1) cs)) (fun kv _ _ _ _ _ => 26 - (intOf kv).toNat)
        case atStart => exact ⟨0, Nat.zero_le _, rfl, HBd0, HG0, HS0⟩
        case round =>
          obtain ⟨k, hk, rfl, HBq, HGq, HSq⟩ := hrel
          have hk0 : (0 : Int) ≤ (k : Int) := by omega
          by_cases hlt : k < 26
          · have hkI : (k : Int) < 26 := by omega
            have hwk : IntKind.u8.wrap (k : Int) = (k : Int) := by simp only [IntKind.wrap_u8]; omega
            have hwk1 : IntKind.i64.wrap ((k : Int) + 1) = (k : Int) + 1 := by simp only [IntKind.wrap_i64]; omega
            have HKk : Hid (∀ W, Calls Try.prog 23 #[.agg #[.int .u8 (k : Int), .int .u8 0]] W fun e w' => e = .returned (.string (kyI k)) ∧ Below W.heap.size W w') := Lib.hid (fun W => key_any (k, 0) (by dsimp only; omega) W)
            have hbd := HGd.out.bd (kyI k)
            have hgb := HSm.out.gtb (kyI k)
            have heb := ex_small L (kyI k) 60 (Nat.le_refl _)
            dsimp only at hbd hgb
            have HExk := Lib.hid (fun W h => HEx.out A (kyI k) W h)
            have HBdk := Lib.hid (fun A' c' W h => HBd.out (kyI k) A' c' W h)
            obtain ⟨key, hkey⟩ : ∃ key, key = kyI k := ⟨_, rfl⟩
            rw [← hkey] at HKk hbd hgb heb HExk HBdk
            obtain ⟨ew, hew⟩ : ∃ ew, ew = exL (L.take 60) key := ⟨_, rfl⟩
            rw [← hew] at hbd heb HExk
            obtain ⟨lw, hlw⟩ : ∃ lw, lw = gt cs key := ⟨_, rfl⟩
            rw [← hlw] at hbd hgb HBdk
            obtain ⟨hw, hhw⟩ : ∃ hw, hw = lw + lo := ⟨_, rfl⟩
            rw [← hhw] at hbd HBdk
            have d1 : decide (ew < lw) = false := by simp; omega
            have d2 : decide (hw < ew) = false := by simp; omega
            obtain ⟨r, hr⟩ : ∃ r, r = ew * n1 := ⟨_, rfl⟩
            have hnb : 2 ≤ n1 ∧ n1 ≤ 9 := by have h1 := HMb.out; have h2 := HN1.out; omega
            have hrb : 0 ≤ r ∧ r ≤ 1920 * 9 := by
              rw [hr]
              refine ⟨Int.mul_nonneg heb.1 (by omega), ?_⟩
              have h1 := Int.mul_le_mul heb.2 hnb.2 (by omega) (by omega)
              exact h1
            have w3 : IntKind.i64.wrap (ew * n1) = r := by rw [← hr]; simp only [IntKind.wrap_i64]; omega
            have HLow : Hid (lw = 0 → r ≤ z) := Lib.hid (fun h0 => by
              have h1 : ew ≤ lo := by omega
              have h2 := Int.mul_le_mul_of_nonneg_right h1 (show 0 ≤ n1 by omega)
              have h3 := HPz.out
              rw [HPe.out, ← HN1.out] at h3
              rw [hr]; omega)
            clear hkey hew hlw hhw hr hrb hnb hbd hgb heb
            go_wp2_with fail
            refine (HKk.out _).mono ?_
            rintro e v1 ⟨rfl, hb⟩
            have HB4 := Lib.hid (HBq.out.trans (hb.mono HBq.out.size))
            have HG4 := Lib.hid (blk_carry HGq.out hb)
            have HS4 := Lib.hid (HSq.out.below hb)
            clear hb
            go_wp2_with fail
            refine (HExk.out _ (HR.out.below HB4.out)).mono ?_
            rintro e v2 ⟨rfl, hb⟩
            have HB5 := Lib.hid (HB4.out.trans (hb.mono HB4.out.size))
            have HG5 := Lib.hid (blk_carry HG4.out hb)
            have HS5 := Lib.hid (HS4.out.below hb)
            clear hb
            have y0 := cell_of_row _ _ 0 _ _ _ HG5.out
            have y1 := cell_of_row _ _ 1 _ _ _ HG5.out
            have y2 := cell_of_row _ _ 2 _ _ _ HG5.out
            have y3 := cell_of_row _ _ 3 _ _ _ HG5.out
            simp at y0 y1 y2 y3
            go_wp2_with fail
            refine (HBdk.out _ _ _ HS5.out).mono ?_
            rintro e v3 ⟨rfl, hb⟩
            have HB6 := Lib.hid (HB5.out.trans (hb.mono HB5.out.size))
            have HG6 := Lib.hid (blk_carry HG5.out hb)
            have HS6 := Lib.hid (HS5.out.below hb)
            clear hb y0 y1 y2 y3
            go_wp2_with fail
            refine (HMo.out _).mono ?_
            rintro e w9 ⟨rfl, rfl⟩
            by_cases hl0 : lw = 0
            · have hrz := HLow.out hl0
              have d3 : decide (z < r) = false := by simp; omega
              clear hl0 hrz
              go_wp2_with fail
              go_roundw
              case rel => exact ⟨k + 1, by omega, by go_num, HB6, HG6, HS6⟩
              case measure => simp [intOf] <;> omega
            · have d4 : (lw == 0) = false := by simpa using hl0
              by_cases hrz : z < r
              · have d3 : decide (z < r) = true := by simpa using hrz
                clear hl0 hrz
                go_wp2_with fail
                go_roundw
                case rel => exact ⟨k + 1, by omega, by go_num, HB6, HG6, HS6⟩
                case measure => simp [intOf] <;> omega
              · have d3 : decide (z < r) = false := by simpa using hrz
                clear hl0 hrz
                go_wp2_with fail
                go_roundw
                case rel => exact ⟨k + 1, by omega, by go_num, HB6, HG6, HS6⟩
                case measure => simp [intOf] <;> omega
          · have hkI : ¬ (k : Int) < 26 := by omega
            go_wp2_with fail
            go_ret
            exact ⟨rfl, HBq.out⟩
      · have hjI : ¬ (j : Int) < (ln : Int) := by omega
        clear hlt h1
        go_wp2_with fail
        go_region_held3 (fun W => W.cell? ⟨X, 1, none⟩ = some (.int .i64 z) ∧ W.cell? ⟨X, 2, none⟩ = some (.int .i64 lo))
            (first | exact HCc.out)
          ((first
            | (go_at_call 22; (with_reducible refine (HMo.out _).mono ?_); rintro e w9 ⟨rfl, rfl⟩)
            | fail))
        go_wp2_with fail
        have HBd0 : Hid (Below w.heap.size w wr.drew) := Lib.hid (Below.drew HB.out)
        have HG0 : Hid (wr.drew.heap[X]? = some (.cells #[.int .i64 m1, .int .i64 z, .int .i64 lo, .slice A1 l1n c1] 24 (0, 0))) := Lib.hid HG.out
        have HS0 : Hid (SlV wr.drew (.slice A1 l1n c1) cs) := Lib.hid (HSl.out.below (Below.drew (Below.refl _ _)))
        go_loopw [9, 10, 11, 12, 13] (fun kv _a _b _c _d wq => ∃ k : Nat, k ≤ 26 ∧ kv = .int .i64 (k : Int) ∧ Hid (Below w.heap.size w wq) ∧ Hid (wq.heap[X]? = some (.cells #[.int .i64 m1, .int .i64 z, .int .i64 lo, .slice A1 l1n c1] 24 (0, 0))) ∧ Hid (SlV wq (.slice A1 l1n c1) cs)) (fun kv _ _ _ _ _ => 26 - (intOf kv).toNat)
        case atStart => exact ⟨0, Nat.zero_le _, rfl, HBd0, HG0, HS0⟩
        case round =>
          obtain ⟨k, hk, rfl, HBq, HGq, HSq⟩ := hrel
          have hk0 : (0 : Int) ≤ (k : Int) := by omega
          by_cases hlt : k < 26
          · have hkI : (k : Int) < 26 := by omega
            have hwk : IntKind.u8.wrap (k : Int) = (k : Int) := by simp only [IntKind.wrap_u8]; omega
            have hwk1 : IntKind.i64.wrap ((k : Int) + 1) = (k : Int) + 1 := by simp only [IntKind.wrap_i64]; omega
            have HKk : Hid (∀ W, Calls Try.prog 23 #[.agg #[.int .u8 (k : Int), .int .u8 0]] W fun e w' => e = .returned (.string (kyI k)) ∧ Below W.heap.size W w') := Lib.hid (fun W => key_any (k, 0) (by dsimp only; omega) W)
            have hbd := HGd.out.bd (kyI k)
            have hgb := HSm.out.gtb (kyI k)
            have heb := ex_small L (kyI k) 60 (Nat.le_refl _)
            dsimp only at hbd hgb
            have HExk := Lib.hid (fun W h => HEx.out A (kyI k) W h)
            have HBdk := Lib.hid (fun A' c' W h => HBd.out (kyI k) A' c' W h)
            obtain ⟨key, hkey⟩ : ∃ key, key = kyI k := ⟨_, rfl⟩
            rw [← hkey] at HKk hbd hgb heb HExk HBdk
            obtain ⟨ew, hew⟩ : ∃ ew, ew = exL (L.take 60) key := ⟨_, rfl⟩
            rw [← hew] at hbd heb HExk
            obtain ⟨lw, hlw⟩ : ∃ lw, lw = gt cs key := ⟨_, rfl⟩
            rw [← hlw] at hbd hgb HBdk
            obtain ⟨hw, hhw⟩ : ∃ hw, hw = lw + lo := ⟨_, rfl⟩
            rw [← hhw] at hbd HBdk
            have d1 : decide (ew < lw) = false := by simp; omega
            have d2 : decide (hw < ew) = false := by simp; omega
            obtain ⟨r, hr⟩ : ∃ r, r = ew * n1 := ⟨_, rfl⟩
            have hnb : 2 ≤ n1 ∧ n1 ≤ 9 := by have h1 := HMb.out; have h2 := HN1.out; omega
            have hrb : 0 ≤ r ∧ r ≤ 1920 * 9 := by
              rw [hr]
              refine ⟨Int.mul_nonneg heb.1 (by omega), ?_⟩
              have h1 := Int.mul_le_mul heb.2 hnb.2 (by omega) (by omega)
              exact h1
            have w3 : IntKind.i64.wrap (ew * n1) = r := by rw [← hr]; simp only [IntKind.wrap_i64]; omega
            have HLow : Hid (lw = 0 → r ≤ z) := Lib.hid (fun h0 => by
              have h1 : ew ≤ lo := by omega
              have h2 := Int.mul_le_mul_of_nonneg_right h1 (show 0 ≤ n1 by omega)
              have h3 := HPz.out
              rw [HPe.out, ← HN1.out] at h3
              rw [hr]; omega)
            clear hkey hew hlw hhw hr hrb hnb hbd hgb heb
            go_wp2_with fail
            refine (HKk.out _).mono ?_
            rintro e v1 ⟨rfl, hb⟩
            have HB4 := Lib.hid (HBq.out.trans (hb.mono HBq.out.size))
            have HG4 := Lib.hid (blk_carry HGq.out hb)
            have HS4 := Lib.hid (HSq.out.below hb)
            clear hb
            go_wp2_with fail
            refine (HExk.out _ (HR.out.below HB4.out)).mono ?_
            rintro e v2 ⟨rfl, hb⟩
            have HB5 := Lib.hid (HB4.out.trans (hb.mono HB4.out.size))
            have HG5 := Lib.hid (blk_carry HG4.out hb)
            have HS5 := Lib.hid (HS4.out.below hb)
            clear hb
            have y0 := cell_of_row _ _ 0 _ _ _ HG5.out
            have y1 := cell_of_row _ _ 1 _ _ _ HG5.out
            have y2 := cell_of_row _ _ 2 _ _ _ HG5.out
            have y3 := cell_of_row _ _ 3 _ _ _ HG5.out
            simp at y0 y1 y2 y3
            go_wp2_with fail
            refine (HBdk.out _ _ _ HS5.out).mono ?_
            rintro e v3 ⟨rfl, hb⟩
            have HB6 := Lib.hid (HB5.out.trans (hb.mono HB5.out.size))
            have HG6 := Lib.hid (blk_carry HG5.out hb)
            have HS6 := Lib.hid (HS5.out.below hb)
            clear hb y0 y1 y2 y3
            go_wp2_with fail
            refine (HMo.out _).mono ?_
            rintro e w9 ⟨rfl, rfl⟩
            by_cases hl0 : lw = 0
            · have hrz := HLow.out hl0
              have d3 : decide (z < r) = false := by simp; omega
              clear hl0 hrz
              go_wp2_with fail
              go_roundw
              case rel => exact ⟨k + 1, by omega, by go_num, HB6, HG6, HS6⟩
              case measure => simp [intOf] <;> omega
            · have d4 : (lw == 0) = false := by simpa using hl0
              by_cases hrz : z < r
              · have d3 : decide (z < r) = true := by simpa using hrz
                clear hl0 hrz
                go_wp2_with fail
                go_roundw
                case rel => exact ⟨k + 1, by omega, by go_num, HB6, HG6, HS6⟩
                case measure => simp [intOf] <;> omega
              · have d3 : decide (z < r) = false := by simpa using hrz
                clear hl0 hrz
                go_wp2_with fail
                go_roundw
                case rel => exact ⟨k + 1, by omega, by go_num, HB6, HG6, HS6⟩
                case measure => simp [intOf] <;> omega
          · have hkI : ¬ (k : Int) < 26 := by omega
            go_wp2_with fail
            go_ret
            exact ⟨rfl, HBq.out⟩
set_option maxRecDepth 100000 in
theorem lifted (os : Os) (started : os.Started) (H : Type) (enc : TypeId × Value → H) :
    ReturnsInHanded {} Try.checked os 5 .any (Rows.heavyhitterStreamsSpec.pre6 enc Try.prog Try.f5 Rows.heavyhitterStreamsRow.domain false) (Rows.heavyhitterStreamsSpec.post enc Try.prog Try.f5 false true false false) := by
  refine returnsInHanded_of_change (C := Try.checked) own started (by kernel_rfl) Try.func5
    (ChangeSpec.witness6 (enc := enc) (C := Try.checked) false ⟨#[], #[.int .u8 0, .slice none 0 0], []⟩ 8 (by kernel_rfl) (by kernel_rfl) (by kernel_rfl) (by kernel_rfl)) ?_
  intro W base args ds gs before hval0 hW _ _
  have hval : ∀ (j : Nat) t v, Try.f5.params[j]? = some t → args[j]? = some v → Value.okWide Try.prog W .any base t v := hval0
  have hW' := hW
  obtain ⟨p, q, hA0, hV, rfl, _, _⟩ := hW
  have hA : DataW.TrodAll enc Try.prog W 0 (fun _ => true) true Try.f5.params.toList args.toList ds p := hA0
  rw [Try.params5] at hA hval
  obtain ⟨v0, vs0, d0, ds0, p0, q0, hargs0, rfl, rfl, h0, r0⟩ := trodAll_cons hA
  obtain ⟨v1, vs1, d1, ds1, p1, q1, hargs1, rfl, rfl, h1, r1⟩ := trodAll_cons r0
  obtain ⟨rfl, rfl, rfl⟩ := trodAll_nil r1
  obtain rfl : args = #[v0, v1] := by cases args; simp_all
  obtain ⟨rfl, rfl⟩ := trodVars_none hV
  obtain ⟨a0, rfl, rfl, rfl, wa0⟩ := open_int Try.underlying5 (hval 0 5 v0 rfl rfl) h0
  have lt1 : ∀ x ∈ p1, x.block < W.heap.size := fun x hx => hW'.lt x (by simp [hx])
  obtain ⟨A1, c1, L1, rfl, hL1, hc1, hn1, hs1, hR1⟩ := open_its (hval 1 34 v1 rfl rfl) h1 lt1
  clear hA0 hval0
  simp only [List.append_nil] at hW'
  refine (walk W a0 wa0 A1 c1 L1 hL1 hc1 hn1 hs1 hR1).mono fun e W' ⟨he, hb⟩ => ?_
  subst he
  exact ⟨_, rfl, post_mem hW' hb (fun _ _ _ => trodAll_mk1 (shut_bool Try.underlying4 _)) (fun sp hsp => by
    have t := trodAll_cons_mk (shut_int Try.underlying5 wa0) (trodAll_cons_mk (carry laidOut (by kernel_rfl) (of_decide_eq_true (by kernel_rfl)) h1 hb lt1 sp (fun x hx => hsp x (by simp [hx]))) trodAll_mk0)
    simp only [List.append_nil] at t
    exact t) (fun _ => rfl) (ok_one (by kernel_rfl) rfl (okWide_bool_mk Try.underlying4 _))⟩

theorem proved : Rows.HeavyhitterStreamsSaid :=
  OpenClaim.holds_of_wide 5 Try.f5 rfl rfl rfl rfl rfl rfl rfl ⟨rfl, rfl, rfl, rfl, rfl⟩ rfl rfl rfl rfl rfl (by kernel_rfl) Try.func5 (by kernel_rfl)
    (of_decide_eq_true (by kernel_rfl)) (by unfold Func.isWrapper; first | (rw [if_pos (by decide +kernel)]; kernel_rfl) | (rw [if_neg (by decide +kernel)]; exact ⟨rfl, rfl⟩))
    (fun os started H enc _ => lifted os started H enc)
end Go.Proofs.Ytdcfhnpnfamdaaa.lawStreams
