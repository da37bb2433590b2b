/- HeavyhitterExact: for any items and number the law returns true (written by wip/bin/gen_lx22.py). No condition. -/
import Derived.Test.YtdcfhnpnfamdaaaHy
import Derived.Test.YtdcfhnpnfamdaaaIl
import Derived.Deep.RegionHeld3
import Derived.Deep.DeepCutAuto
namespace Go.Proofs.Ytdcfhnpnfamdaaa.lawExact
open Go.ChangeShapes Go.WideShapes Go.ChangeAt Go.RowKit Go.Joins

/-- Block g holds a summary. -/
def Bv (w : World) (g : Nat) (s : Su) : Prop := ∃ A c, w.heap[g]? = some (.cells #[.int .i64 s.mo, .int .i64 s.to, .int .i64 s.lo, .slice A s.cs.length c] 24 (0, 0)) ∧ SlV w (.slice A s.cs.length c) s.cs
theorem Bv.below {w w' : World} {g : Nat} {s : Su} (h : Bv w g s) (hb : Below w.heap.size w w') : Bv w' g s := by
  obtain ⟨A, c, hg, hs⟩ := h
  exact ⟨A, c, (hb.block g (Array.getElem?_eq_some_iff.1 hg).1).trans hg, hs.below hb⟩
theorem it_set {w : World} {g b k : Nat} {old cs : Array Value} {v : Value} (_hg : w.heap[g]? = some (.cells old 24 (0, 0))) (h : w.cell? ⟨b, k, none⟩ = some v) (hne : b ≠ g) : (w.setRow g cs).cell? ⟨b, k, none⟩ = some v :=
  (cell_setRow_other _ _ _ _ (by first | exact hne | exact hne.symm)).trans h
set_option maxRecDepth 100000 in
set_option maxHeartbeats 16000000 in
theorem walk (w : World) (A : Option Addr) (c : Nat) (L : List It) (hL : L.length ≤ 9223372036854775807) (_hc : L.length ≤ c) (_hn : A = none → c = 0) (hok : ∀ x ∈ L, ItOk x) (hR : IR w A L) (a0 : Int) (wa0 : (Lit.int .u8 a0).wf = true) :
    Calls Try.prog 8 #[.slice A L.length c, .int .u8 a0] w fun e w' => e = .returned (.bool true) ∧ Below w.heap.size w w' := by
  obtain ⟨by0, rfl⟩ : ∃ n : Nat, a0 = (n : Int) := ⟨a0.toNat, by have := bd8 wa0; omega⟩
  have hby : by0 ≤ 255 := by have := bd8 wa0; omega
  clear wa0
  have HSb : Hid ((Try.prog.info? 24).map (fun i => i.size) = some 4) := Lib.hid (by kernel_rfl)
  have HR := Lib.hid hR
  have HI := Lib.hid hok
  obtain ⟨ln, hln⟩ : ∃ ln, ln = L.length := ⟨_, rfl⟩
  have HLn := Lib.hid hln
  rw [← hln] at hL ⊢
  have HNw := Lib.hid (fun W => new_good 8 (by decide) W)
  go_enter Try.func8, Try.ntmps8
  go_wp2_with fail
  refine (known_any _).mono ?_
  rintro e w1 ⟨rfl, hb⟩
  have HB1 := Lib.hid hb
  clear hb
  by_cases h6 : (60 : Int) < (ln : Int)
  · have d6 : decide ((60 : Int) < (ln : Int)) = true := by simpa using h6
    clear h6 hR hok hln
    go_wp2_with fail
    refine (known_any _).mono ?_
    rintro e w2 ⟨rfl, hb⟩
    have HB2 := Lib.hid (HB1.out.trans (hb.mono HB1.out.size))
    clear hb
    go_wp2_with fail
    go_ret
    exact ⟨rfl, HB2.out⟩
  · have d6 : decide ((60 : Int) < (ln : Int)) = false := by simpa using h6
    have hl6 : ln ≤ 60 := by omega
    obtain ⟨R, hRr⟩ : ∃ R, R = (rot L by0).map k8 := ⟨_, rfl⟩
    have hRl : R.length = ln := by rw [hRr, List.length_map, rot_len, hln]
    have HRl := Lib.hid hRl
    have HRat : Hid (∀ j (h : j < ln), ∃ h1 : (j + by0) % ln < L.length, ∃ h2 : j < R.length, R[j] = k8 (L[(j + by0) % ln])) := Lib.hid (fun j h => by
      subst hln
      have h3 := rot_at L by0 j h
      refine ⟨Nat.mod_lt _ (by omega), by rw [hRl]; exact h, ?_⟩
      subst hRr
      rw [List.getElem_map, h3])
    have HSt : Hid (∀ j, Sl22 (stL 8 (R.take j))) := Lib.hid (fun j => st_small ⟨by decide, by decide⟩ _ (by rw [List.length_take]; omega))
    have HEnd : Hid (∀ k, gt (stL 8 R).cs (kyI k) = exL (L.map k8) (kyI k) ∧ (stL 8 R).lo = 0) := Lib.hid (fun k => by rw [hRr]; exact ex_exact L by0 k)
    have HTo : Hid ((stL 8 R).to = toL R) := Lib.hid (st_to _ _)
    have HTb : Hid (0 ≤ toL R ∧ toL R ≤ 1920) := Lib.hid (by have := toL_bd R; omega)
    have HEb : Hid (∀ k i, 0 ≤ exL ((L.take i).map k8) k ∧ exL ((L.take i).map k8) k ≤ 1920) := Lib.hid (fun k i => by
      have h1 := exL_bd ((L.take i).map k8) k
      have h2 := toL_bd ((L.take i).map k8)
      rw [List.length_map, List.length_take] at h2
      omega)
    clear h6 hR hok hln hRr hRl
    go_wp2_with fail
    refine (HNw.out _).mono ?_
    rintro e w2 ⟨⟨A0, c0, rfl, hv⟩, hb⟩
    have HB2 := Lib.hid (HB1.out.trans (hb.mono HB1.out.size))
    have hlo2 := HB2.out.size
    obtain ⟨W0, hW0⟩ : ∃ W0, W0 = w2.alloc (.cells #[.int .i64 8, .int .i64 0, .int .i64 0, .slice A0 0 c0] 24) := ⟨_, rfl⟩
    have hb3 : Below w2.heap.size w2 W0 := by rw [hW0]; exact (Below.refl _ _).alloc (Nat.le_refl _) _
    have HB3 := Lib.hid (HB2.out.trans (hb3.mono HB2.out.size))
    have HX0 : Hid (Bv W0 w2.heap.size (stL 8 (R.take 0))) := Lib.hid (by rw [List.take_zero]; exact ⟨A0, c0, by rw [hW0]; exact Deep.blk_alloc_new _ _, hv.below hb3⟩)
    have HW0 := Lib.hid hW0
    obtain ⟨X, hX⟩ : ∃ X, X = w2.heap.size := ⟨_, rfl⟩
    have HXlo : Hid (w.heap.size ≤ X) := Lib.hid (by omega)
    clear hb hb3 hv hW0 hlo2
    go_wp2_with fail
    rw [← HW0.out]
    rw [← hX] at HX0 ⊢
    clear hX HW0
    go_loopw [6, 7] (fun ev iv wr => ∃ j : Nat, j ≤ ln ∧ ev = .int .i64 0 ∧ iv = .int .i64 (j : Int) ∧ Hid (Bv wr X (stL 8 (R.take j))) ∧ Hid (Below w.heap.size w wr)) (fun _ iv _ => ln - (intOf iv).toNat)
    case atStart => exact ⟨0, Nat.zero_le _, rfl, rfl, HX0, HB3⟩
    case round =>
      obtain ⟨j, hj, rfl, rfl, HX, HB⟩ := hrel
      have hj0 : (0 : Int) ≤ (j : Int) := by omega
      by_cases hlt : j < ln
      · obtain ⟨hr2, hj2, hat⟩ := HRat.out j hlt
        obtain ⟨r, hr⟩ : ∃ r, r = (j + by0) % ln := ⟨_, rfl⟩
        have hrI : ((j : Int) + (by0 : Int)).tmod (ln : Int) = (r : Int) := by
          rw [Int.tmod_eq_emod_of_nonneg (by omega), hr, Int.natCast_emod, Int.natCast_add]
        have hrln : r < ln := by rw [hr]; exact Nat.mod_lt _ (by omega)
        have hat2 : ∃ h9 : r < L.length, R[j] = k8 (L[r]) := by subst hr; exact ⟨hr2, hat⟩
        obtain ⟨hr9, hat3⟩ := hat2
        obtain ⟨bi, oi, rfl, hbi, h0, h1⟩ := (HR.out.below HB.out) r hr9
        have hok := HI.out _ (List.getElem_mem hr9)
        have hst := st_take 8 hj2
        rw [hat3] at hst
        have HS := HSt.out j
        obtain ⟨x, hx⟩ : ∃ x, x = L[r] := ⟨_, rfl⟩
        rw [← hx] at h0 h1 hok hst
        clear hx hat hat3 hr hr2 hj2 hr9
        obtain ⟨s, hs⟩ : ∃ s, s = stL 8 (R.take j) := ⟨_, rfl⟩
        rw [← hs] at HX hst HS
        clear hs
        obtain ⟨k0, i9⟩ := x
        obtain ⟨hok1, hok2⟩ := hok
        dsimp only at h0 h1 hok1 hok2
        have hk8 : k8 (k0, i9) = (k0 % 8, i9) := rfl
        rw [hk8] at hst
        obtain ⟨k, hkm⟩ : ∃ k, k = k0 % 8 := ⟨_, rfl⟩
        rw [← hkm] at hst
        have hkm8 : k < 8 := by omega
        have q0 : (0 : Int) ≤ (k0 : Int) := by omega
        have q1 : ((k0 : Int)).tmod 8 = (k : Int) := by rw [Int.tmod_eq_emod_of_nonneg q0, hkm]; omega
        have HKy := Lib.hid (fun W => key_any (k, i9) (by dsimp only; omega) W)
        have HWt := Lib.hid (fun W => weight_any (k, i9) hok2 W)
        have hwb := wt_bd (k, i9)
        have HAd := Lib.hid (fun v W h => add_ok s HS (kyI k) (wtI (k, i9)) (nm_ky k) (by omega) v W h)
        obtain ⟨y, hy⟩ : ∃ y, y = kyI k := ⟨_, rfl⟩
        obtain ⟨q, hq⟩ : ∃ q, q = wtI (k, i9) := ⟨_, rfl⟩
        dsimp only at HKy hst
        rw [← hy] at HKy HAd hst
        rw [← hq] at HWt HAd hst hwb
        dsimp only at HWt
        clear hy hq HS hkm hok1 hok2 hk8 hwb
        obtain ⟨s2, hs2⟩ : ∃ s2, s2 = adS s y q := ⟨_, rfl⟩
        rw [← hs2] at HAd hst
        have HN := Lib.hid hst
        clear hs2 hst
        obtain ⟨m1, t1, l1, cs⟩ := s
        obtain ⟨m2, t2, l2, cs2⟩ := s2
        obtain ⟨w8, hw8⟩ : ∃ w8, w8 = wr.alloc (.cells #[.int .u8 (k : Int), .int .u8 (i9 : Int)] 44) := ⟨_, rfl⟩
        have hb8 : Below wr.heap.size wr w8 := by rw [hw8]; exact (Below.refl _ _).alloc (Nat.le_refl _) _
        have HBr := HB
        replace HB := Lib.hid (HB.out.trans (hb8.mono HB.out.size))
        obtain ⟨A1, c1, hg, hsl⟩ := HX.out
        have hXr := (Array.getElem?_eq_some_iff.1 hg).1
        dsimp only at hg hsl
        obtain ⟨l1n, hl1n⟩ : ∃ l1n, l1n = cs.length := ⟨_, rfl⟩
        rw [← hl1n] at hg hsl
        have HG := Lib.hid (blk_carry hg hb8)
        have HSl := Lib.hid (hsl.below hb8)
        have HZ8 : Hid (w8.heap[wr.heap.size]? = some (.cells #[.int .u8 (k : Int), .int .u8 (i9 : Int)] 44 (0, 0))) := Lib.hid (by rw [hw8]; exact Deep.blk_alloc_new _ _)
        have hz8 : wr.heap.size < w8.heap.size := (Array.getElem?_eq_some_iff.1 HZ8.out).1
        obtain ⟨X8, hX8⟩ : ∃ X8, X8 = wr.heap.size := ⟨_, rfl⟩
        have HIt : Hid (X8 ≠ X) := Lib.hid (by omega)
        have HW8 := Lib.hid hw8
        rw [← hX8] at HZ8 hz8
        have HX8 := Lib.hid hX8
        have HAd1 : Hid (∀ W, Below w8.heap.size w8 W → Calls Try.prog 19 #[.agg #[.int .i64 m1, .int .i64 t1, .int .i64 l1, .slice A1 l1n c1], .string y, .int .i64 q] W fun e w' => (∃ A9 c9, e = .returned (.tuple #[.agg #[.int .i64 m2, .int .i64 t2, .int .i64 l2, .slice A9 cs2.length c9], .int .i64 0]) ∧ SlV w' (.slice A9 cs2.length c9) cs2) ∧ Below W.heap.size W w') := Lib.hid (fun W hW => by
          refine (HAd.out _ W ⟨_, rfl, HSl.out.below hW⟩).mono ?_
          rintro e w' ⟨⟨u, rfl, u', rfl, h⟩, hb⟩
          obtain ⟨A', c', rfl, _⟩ := id h
          exact ⟨⟨A', c', rfl, h⟩, hb⟩)
        have hz := (Array.getElem?_eq_some_iff.1 HG.out).1
        have HKS : Hid (∀ W, Below w8.heap.size w8 W → W.cell? ⟨X8, 0, none⟩ = some (.int .u8 (k : Int)) ∧ W.cell? ⟨X8, 1, none⟩ = some (.int .u8 (i9 : Int))) := Lib.hid (fun W hW => by
          have hg := (hW.block _ hz8).trans HZ8.out
          exact ⟨cell_of_row _ _ 0 _ _ _ hg, cell_of_row _ _ 1 _ _ _ hg⟩)
        have HGW : Hid (∀ W, Below w8.heap.size w8 W → W.heap[X]? = some (.cells #[.int .i64 m1, .int .i64 t1, .int .i64 l1, .slice A1 l1n c1] 24 (0, 0))) := Lib.hid (fun W hW => (hW.block _ hz).trans HG.out)
        have HRW : Hid (∀ W, Below w8.heap.size w8 W → W.cell? ⟨X, 0, none⟩ = some (.int .i64 m1) ∧ W.cell? ⟨X, 1, none⟩ = some (.int .i64 t1) ∧ W.cell? ⟨X, 2, none⟩ = some (.int .i64 l1) ∧ W.cell? ⟨X, 3, none⟩ = some (.slice A1 l1n c1)) := Lib.hid (fun W hW => by
          have hg := HGW.out W hW
          exact ⟨cell_of_row _ _ 0 _ _ _ hg, cell_of_row _ _ 1 _ _ _ hg, cell_of_row _ _ 2 _ _ _ hg, cell_of_row _ _ 3 _ _ _ hg⟩)
        have HS9 : Hid (∀ W, W.heap[X]? = some (.cells #[.int .i64 m1, .int .i64 t1, .int .i64 l1, .slice A1 l1n c1] 24 (0, 0)) → ∀ cs9, Below w8.heap.size w8 W → (W.setRow X cs9).cell? ⟨X8, 0, none⟩ = some (.int .u8 (k : Int)) ∧ (W.setRow X cs9).cell? ⟨X8, 1, none⟩ = some (.int .u8 (i9 : Int))) := Lib.hid (fun W hg cs9 hW => ⟨it_set hg (HKS.out W hW).1 HIt.out, it_set hg (HKS.out W hW).2 HIt.out⟩)
        have hjI : (j : Int) < (ln : Int) := by omega
        have hrI0 : (0 : Int) ≤ (r : Int) := by omega
        have hrI1 : (r : Int) < (ln : Int) := by omega
        have hln0 : (ln : Int) ≠ 0 := by omega
        have hw1 : IntKind.i64.wrap ((j : Int) + 1) = (j : Int) + 1 := by simp only [IntKind.wrap_i64]; omega
        have hw2 : IntKind.i64.wrap ((j : Int) + (by0 : Int)) = (j : Int) + (by0 : Int) := by simp only [IntKind.wrap_i64]; omega
        have hw3 : IntKind.i64.wrap (by0 : Int) = (by0 : Int) := by simp only [IntKind.wrap_i64]; omega
        have hw4 : IntKind.i64.wrap (r : Int) = (r : Int) := by simp only [IntKind.wrap_i64]; omega
        have hw5 : IntKind.u8.wrap (k : Int) = (k : Int) := by simp only [IntKind.wrap_u8]; omega
        clear hg hsl hl1n hz HX hX8 hw8 hb8
        go_upto_region 9 with fail
        try rw [← HX8.out]
        try rw [← HW8.out]
        refine wp_region_last 10 (fun W => W.cell? ⟨X8, 0, none⟩ = some (.int .u8 (k : Int)) ∧ W.cell? ⟨X8, 1, none⟩ = some (.int .u8 (i9 : Int))) (by kernel_rfl) (by decide +kernel) (by rfl) (HKS.out _ (Below.drew (Below.refl _ _))) (fun hHeld => ?_)
        simp only [List.take_succ_cons, List.take_zero]
        have HD0 : Hid (Below w8.heap.size w8 w8.drew) := Lib.hid (Below.drew (Below.refl _ _))
        refine wpAnyH_take (i := 1) (v := ?_) rfl (by decide +kernel) (by decide +kernel) (by decide +kernel) (fun _ _ _ h => h) (Or.inl ⟨by rfl, ?_⟩) (by assumption) ?_
        rotate_left 1
        · (intro w' hSw; (try dsimp only at hSw); go_simp; (try (with_reducible rfl)))
        try simp only [List.getElem_toArray, List.getElem_cons_zero, List.getElem_cons_succ, Act.put, List.setIfInBounds_toArray, List.set_cons_zero, List.set_cons_succ]
        refine wpAnyH_take (i := 3) (v := ?_) rfl (by decide +kernel) (by decide +kernel) (by decide +kernel) (fun _ _ _ h => h) (Or.inl ⟨by rfl, ?_⟩) (by assumption) ?_
        rotate_left 1
        · (intro w' hSw; (try dsimp only at hSw); go_simp; (try (with_reducible rfl)))
        try simp only [List.getElem_toArray, List.getElem_cons_zero, List.getElem_cons_succ, Act.put, List.setIfInBounds_toArray, List.set_cons_zero, List.set_cons_succ]
        refine wpAnyH_ready (rs := [0, 2]) (by decide +kernel) (by simp) ?_
        refine AllReadyH.cons rfl (fun K hK => ?_) (AllReadyH.cons rfl (fun K hK => ?_) AllReadyH.nil)
        · obtain ⟨b0, b1, b2, b3⟩ := HRW.out _ HD0.out
          go_simp
          refine hK.out _ _ (HKS.out _ HD0.out) (fun hHeld => ?_)
          clear hK K b0 b1 b2 b3
          try simp only [List.getElem_toArray, List.getElem_cons_zero, List.getElem_cons_succ, Act.put, List.setIfInBounds_toArray, List.set_cons_zero, List.set_cons_succ]
          refine wpAnyH_ready (rs := [2]) (by decide +kernel) (by simp) ?_
          refine AllReadyH.cons rfl (fun K hK => ?_) AllReadyH.nil
          go_simp
          go_at_call 23
          with_reducible refine (HKy.out _).mono ?_
          rintro e w4 ⟨rfl, hb⟩
          have w4B : Hid (Below w8.heap.size w8 w4) := Lib.hid (HD0.out.trans (hb.mono HD0.out.size))
          clear hb
          try go_wp2_with fail
          refine hK.out _ _ (HKS.out _ w4B.out) (fun hHeld => ?_)
          clear hK K
          try simp only [List.getElem_toArray, List.getElem_cons_zero, List.getElem_cons_succ, Act.put, List.setIfInBounds_toArray, List.set_cons_zero, List.set_cons_succ]
          refine wpAnyH_ready (rs := [4]) (by decide +kernel) (by simp) ?_
          refine AllReadyH.cons rfl (fun K hK => ?_) AllReadyH.nil
          go_simp
          go_at_call 24
          with_reducible refine (HWt.out _).mono ?_
          rintro e w5 ⟨rfl, hb⟩
          have w5B : Hid (Below w8.heap.size w8 w5) := Lib.hid (w4B.out.trans (hb.mono w4B.out.size))
          clear hb
          try go_wp2_with fail
          refine hK.out _ _ (HKS.out _ w5B.out) (fun hHeld => ?_)
          clear hK K
          try simp only [List.getElem_toArray, List.getElem_cons_zero, List.getElem_cons_succ, Act.put, List.setIfInBounds_toArray, List.set_cons_zero, List.set_cons_succ]
          refine wpAnyH_ready (rs := [5]) (by decide +kernel) (by simp) ?_
          refine AllReadyH.cons rfl (fun K hK => ?_) AllReadyH.nil
          go_simp
          go_at_call 19
          with_reducible refine (HAd1.out _ w5B.out).mono ?_
          rintro e w6 ⟨⟨A9, c9, rfl, hu⟩, hb6⟩
          have HB6 : Hid (Below w8.heap.size w8 w6) := Lib.hid (w5B.out.trans (hb6.mono w5B.out.size))
          obtain ⟨l9, hl9⟩ : ∃ l9, l9 = cs2.length := ⟨_, rfl⟩
          have HL9 := Lib.hid hl9
          rw [← hl9] at hu ⊢
          have HU6 := Lib.hid hu
          clear hb6 hu hl9
          try go_wp2_with fail
          refine hK.out _ _ (HKS.out _ HB6.out) (fun hHeld => ?_)
          clear hK K
          try simp only [List.getElem_toArray, List.getElem_cons_zero, List.getElem_cons_succ, Act.put, List.setIfInBounds_toArray, List.set_cons_zero, List.set_cons_succ]
          refine wpAnyH_take (i := 6) (v := ?_) rfl (by decide +kernel) (by decide +kernel) (by decide +kernel) (fun _ _ _ h => h) (Or.inl ⟨by rfl, ?_⟩) (by assumption) ?_
          rotate_left 1
          · (intro w' hSw; (try dsimp only at hSw); go_simp; (try (with_reducible rfl)))
          try simp only [List.getElem_toArray, List.getElem_cons_zero, List.getElem_cons_succ, Act.put, List.setIfInBounds_toArray, List.set_cons_zero, List.set_cons_succ]
          refine wpAnyH_take (i := 7) (v := ?_) rfl (by decide +kernel) (by decide +kernel) (by decide +kernel) (fun _ _ _ h => h) (Or.inl ⟨by rfl, ?_⟩) (by assumption) ?_
          rotate_left 1
          · (intro w' hSw; (try dsimp only at hSw); go_simp; (try (with_reducible rfl)))
          try simp only [List.getElem_toArray, List.getElem_cons_zero, List.getElem_cons_succ, Act.put, List.setIfInBounds_toArray, List.set_cons_zero, List.set_cons_succ]
          refine wpAnyH_take (i := 8) (v := ?_) rfl (by decide +kernel) (by decide +kernel) (by decide +kernel) (fun _ _ _ h => h) (Or.inl ⟨by rfl, ?_⟩) (by assumption) ?_
          rotate_left 1
          · (intro w' hSw; (try dsimp only at hSw); go_simp; (try (with_reducible rfl)))
          try simp only [List.getElem_toArray, List.getElem_cons_zero, List.getElem_cons_succ, Act.put, List.setIfInBounds_toArray, List.set_cons_zero, List.set_cons_succ]
          refine wpAnyH_ready (rs := [9]) (by decide +kernel) (by simp) ?_
          refine AllReadyH.cons rfl (fun K hK => ?_) AllReadyH.nil
          rw [if_pos (by rfl)]
          refine wp_store_row 24 _ _ rfl X #[.int .i64 m2, .int .i64 t2, .int .i64 l2, .slice A9 l9 c9] rfl rfl 24 _ (HGW.out _ HB6.out) HSb.out rfl (one_rows rfl _ _ _) ?_
          have HB9 : Hid (Below w.heap.size w (w6.setRow (X) #[.int .i64 m2, .int .i64 t2, .int .i64 l2, .slice A9 l9 c9])) := Lib.hid (below_setRow (HB.out.trans (HB6.out.mono HB.out.size)) HXlo.out)
          have HX9 : Hid (Bv (w6.setRow (X) #[.int .i64 m2, .int .i64 t2, .int .i64 l2, .slice A9 l9 c9]) (X) ⟨m2, t2, l2, cs2⟩) := Lib.hid (by
            have h1 := setRow_heap w6 (X) _ #[.int .i64 m2, .int .i64 t2, .int .i64 l2, .slice A9 l9 c9] _ _ (HGW.out _ HB6.out)
            have h2 := slv_setRow (cs := #[.int .i64 m2, .int .i64 t2, .int .i64 l2, .slice A9 l9 c9]) HU6.out (HGW.out _ HB6.out)
            rw [HL9.out] at h1 h2 ⊢
            exact ⟨A9, c9, h1, h2⟩)
          have hS9 := HS9.out _ (HGW.out _ HB6.out) #[.int .i64 m2, .int .i64 t2, .int .i64 l2, .slice A9 l9 c9] HB6.out
          refine hK.out _ _ hS9 (fun hHeld => ?_)
          clear hK K hS9
          try simp only [List.getElem_toArray, List.getElem_cons_zero, List.getElem_cons_succ, Act.put]
          refine wpAnyH_done (by decide +kernel) ?_ _
          intro K hK
          go_simp
          refine hK.out _ _ ?_
          clear hK K
          try simp only [List.getElem_toArray, List.getElem_cons_zero, List.getElem_cons_succ, Act.put, List.setIfInBounds_toArray, List.set_cons_zero, List.set_cons_succ]
          (refine (by assumption : ∀ _ _, _ → _) _ _ ?_)
          rw [← HN.out] at HX9
          go_wp2_with fail
          go_roundw
          case rel => exact ⟨j + 1, by omega, rfl, by go_num, HX9, HB9⟩
          case measure => simp [intOf] <;> omega
        · go_simp
          go_at_call 23
          with_reducible refine (HKy.out _).mono ?_
          rintro e w4 ⟨rfl, hb⟩
          have w4B : Hid (Below w8.heap.size w8 w4) := Lib.hid (HD0.out.trans (hb.mono HD0.out.size))
          clear hb
          try go_wp2_with fail
          refine hK.out _ _ (HKS.out _ w4B.out) (fun hHeld => ?_)
          clear hK K
          try simp only [List.getElem_toArray, List.getElem_cons_zero, List.getElem_cons_succ, Act.put, List.setIfInBounds_toArray, List.set_cons_zero, List.set_cons_succ]
          refine wpAnyH_ready (rs := [0, 4]) (by decide +kernel) (by simp) ?_
          refine AllReadyH.cons rfl (fun K hK => ?_) (AllReadyH.cons rfl (fun K hK => ?_) AllReadyH.nil)
          · obtain ⟨b0, b1, b2, b3⟩ := HRW.out _ w4B.out
            go_simp
            refine hK.out _ _ (HKS.out _ w4B.out) (fun hHeld => ?_)
            clear hK K b0 b1 b2 b3
            try simp only [List.getElem_toArray, List.getElem_cons_zero, List.getElem_cons_succ, Act.put, List.setIfInBounds_toArray, List.set_cons_zero, List.set_cons_succ]
            refine wpAnyH_ready (rs := [4]) (by decide +kernel) (by simp) ?_
            refine AllReadyH.cons rfl (fun K hK => ?_) AllReadyH.nil
            go_simp
            go_at_call 24
            with_reducible refine (HWt.out _).mono ?_
            rintro e w5 ⟨rfl, hb⟩
            have w5B : Hid (Below w8.heap.size w8 w5) := Lib.hid (w4B.out.trans (hb.mono w4B.out.size))
            clear hb
            try go_wp2_with fail
            refine hK.out _ _ (HKS.out _ w5B.out) (fun hHeld => ?_)
            clear hK K
            try simp only [List.getElem_toArray, List.getElem_cons_zero, List.getElem_cons_succ, Act.put, List.setIfInBounds_toArray, List.set_cons_zero, List.set_cons_succ]
            refine wpAnyH_ready (rs := [5]) (by decide +kernel) (by simp) ?_
            refine AllReadyH.cons rfl (fun K hK => ?_) AllReadyH.nil
            go_simp
            go_at_call 19
            with_reducible refine (HAd1.out _ w5B.out).mono ?_
            rintro e w6 ⟨⟨A9, c9, rfl, hu⟩, hb6⟩
            have HB6 : Hid (Below w8.heap.size w8 w6) := Lib.hid (w5B.out.trans (hb6.mono w5B.out.size))
            obtain ⟨l9, hl9⟩ : ∃ l9, l9 = cs2.length := ⟨_, rfl⟩
            have HL9 := Lib.hid hl9
            rw [← hl9] at hu ⊢
            have HU6 := Lib.hid hu
            clear hb6 hu hl9
            try go_wp2_with fail
            refine hK.out _ _ (HKS.out _ HB6.out) (fun hHeld => ?_)
            clear hK K
            try simp only [List.getElem_toArray, List.getElem_cons_zero, List.getElem_cons_succ, Act.put, List.setIfInBounds_toArray, List.set_cons_zero, List.set_cons_succ]
            refine wpAnyH_take (i := 6) (v := ?_) rfl (by decide +kernel) (by decide +kernel) (by decide +kernel) (fun _ _ _ h => h) (Or.inl ⟨by rfl, ?_⟩) (by assumption) ?_
            rotate_left 1
            · (intro w' hSw; (try dsimp only at hSw); go_simp; (try (with_reducible rfl)))
            try simp only [List.getElem_toArray, List.getElem_cons_zero, List.getElem_cons_succ, Act.put, List.setIfInBounds_toArray, List.set_cons_zero, List.set_cons_succ]
            refine wpAnyH_take (i := 7) (v := ?_) rfl (by decide +kernel) (by decide +kernel) (by decide +kernel) (fun _ _ _ h => h) (Or.inl ⟨by rfl, ?_⟩) (by assumption) ?_
            rotate_left 1
            · (intro w' hSw; (try dsimp only at hSw); go_simp; (try (with_reducible rfl)))
            try simp only [List.getElem_toArray, List.getElem_cons_zero, List.getElem_cons_succ, Act.put, List.setIfInBounds_toArray, List.set_cons_zero, List.set_cons_succ]
            refine wpAnyH_take (i := 8) (v := ?_) rfl (by decide +kernel) (by decide +kernel) (by decide +kernel) (fun _ _ _ h => h) (Or.inl ⟨by rfl, ?_⟩) (by assumption) ?_
            rotate_left 1
            · (intro w' hSw; (try dsimp only at hSw); go_simp; (try (with_reducible rfl)))
            try simp only [List.getElem_toArray, List.getElem_cons_zero, List.getElem_cons_succ, Act.put, List.setIfInBounds_toArray, List.set_cons_zero, List.set_cons_succ]
            refine wpAnyH_ready (rs := [9]) (by decide +kernel) (by simp) ?_
            refine AllReadyH.cons rfl (fun K hK => ?_) AllReadyH.nil
            rw [if_pos (by rfl)]
            refine wp_store_row 24 _ _ rfl X #[.int .i64 m2, .int .i64 t2, .int .i64 l2, .slice A9 l9 c9] rfl rfl 24 _ (HGW.out _ HB6.out) HSb.out rfl (one_rows rfl _ _ _) ?_
            have HB9 : Hid (Below w.heap.size w (w6.setRow (X) #[.int .i64 m2, .int .i64 t2, .int .i64 l2, .slice A9 l9 c9])) := Lib.hid (below_setRow (HB.out.trans (HB6.out.mono HB.out.size)) HXlo.out)
            have HX9 : Hid (Bv (w6.setRow (X) #[.int .i64 m2, .int .i64 t2, .int .i64 l2, .slice A9 l9 c9]) (X) ⟨m2, t2, l2, cs2⟩) := Lib.hid (by
              have h1 := setRow_heap w6 (X) _ #[.int .i64 m2, .int .i64 t2, .int .i64 l2, .slice A9 l9 c9] _ _ (HGW.out _ HB6.out)
              have h2 := slv_setRow (cs := #[.int .i64 m2, .int .i64 t2, .int .i64 l2, .slice A9 l9 c9]) HU6.out (HGW.out _ HB6.out)
              rw [HL9.out] at h1 h2 ⊢
              exact ⟨A9, c9, h1, h2⟩)
            have hS9 := HS9.out _ (HGW.out _ HB6.out) #[.int .i64 m2, .int .i64 t2, .int .i64 l2, .slice A9 l9 c9] HB6.out
            refine hK.out _ _ hS9 (fun hHeld => ?_)
            clear hK K hS9
            try simp only [List.getElem_toArray, List.getElem_cons_zero, List.getElem_cons_succ, Act.put]
            refine wpAnyH_done (by decide +kernel) ?_ _
            intro K hK
            go_simp
            refine hK.out _ _ ?_
            clear hK K
            try simp only [List.getElem_toArray, List.getElem_cons_zero, List.getElem_cons_succ, Act.put, List.setIfInBounds_toArray, List.set_cons_zero, List.set_cons_succ]
            (refine (by assumption : ∀ _ _, _ → _) _ _ ?_)
            rw [← HN.out] at HX9
            go_wp2_with fail
            go_roundw
            case rel => exact ⟨j + 1, by omega, rfl, by go_num, HX9, HB9⟩
            case measure => simp [intOf] <;> omega
          · go_simp
            go_at_call 24
            with_reducible refine (HWt.out _).mono ?_
            rintro e w5 ⟨rfl, hb⟩
            have w5B : Hid (Below w8.heap.size w8 w5) := Lib.hid (w4B.out.trans (hb.mono w4B.out.size))
            clear hb
            try go_wp2_with fail
            refine hK.out _ _ (HKS.out _ w5B.out) (fun hHeld => ?_)
            clear hK K
            try simp only [List.getElem_toArray, List.getElem_cons_zero, List.getElem_cons_succ, Act.put, List.setIfInBounds_toArray, List.set_cons_zero, List.set_cons_succ]
            refine wpAnyH_ready (rs := [0]) (by decide +kernel) (by simp) ?_
            refine AllReadyH.cons rfl (fun K hK => ?_) AllReadyH.nil
            obtain ⟨b0, b1, b2, b3⟩ := HRW.out _ w5B.out
            go_simp
            refine hK.out _ _ (HKS.out _ w5B.out) (fun hHeld => ?_)
            clear hK K b0 b1 b2 b3
            try simp only [List.getElem_toArray, List.getElem_cons_zero, List.getElem_cons_succ, Act.put, List.setIfInBounds_toArray, List.set_cons_zero, List.set_cons_succ]
            refine wpAnyH_ready (rs := [5]) (by decide +kernel) (by simp) ?_
            refine AllReadyH.cons rfl (fun K hK => ?_) AllReadyH.nil
            go_simp
            go_at_call 19
            with_reducible refine (HAd1.out _ w5B.out).mono ?_
            rintro e w6 ⟨⟨A9, c9, rfl, hu⟩, hb6⟩
            have HB6 : Hid (Below w8.heap.size w8 w6) := Lib.hid (w5B.out.trans (hb6.mono w5B.out.size))
            obtain ⟨l9, hl9⟩ : ∃ l9, l9 = cs2.length := ⟨_, rfl⟩
            have HL9 := Lib.hid hl9
            rw [← hl9] at hu ⊢
            have HU6 := Lib.hid hu
            clear hb6 hu hl9
            try go_wp2_with fail
            refine hK.out _ _ (HKS.out _ HB6.out) (fun hHeld => ?_)
            clear hK K
            try simp only [List.getElem_toArray, List.getElem_cons_zero, List.getElem_cons_succ, Act.put, List.setIfInBounds_toArray, List.set_cons_zero, List.set_cons_succ]
            refine wpAnyH_take (i := 6) (v := ?_) rfl (by decide +kernel) (by decide +kernel) (by decide +kernel) (fun _ _ _ h => h) (Or.inl ⟨by rfl, ?_⟩) (by assumption) ?_
            rotate_left 1
            · (intro w' hSw; (try dsimp only at hSw); go_simp; (try (with_reducible rfl)))
            try simp only [List.getElem_toArray, List.getElem_cons_zero, List.getElem_cons_succ, Act.put, List.setIfInBounds_toArray, List.set_cons_zero, List.set_cons_succ]
            refine wpAnyH_take (i := 7) (v := ?_) rfl (by decide +kernel) (by decide +kernel) (by decide +kernel) (fun _ _ _ h => h) (Or.inl ⟨by rfl, ?_⟩) (by assumption) ?_
            rotate_left 1
            · (intro w' hSw; (try dsimp only at hSw); go_simp; (try (with_reducible rfl)))
            try simp only [List.getElem_toArray, List.getElem_cons_zero, List.getElem_cons_succ, Act.put, List.setIfInBounds_toArray, List.set_cons_zero, List.set_cons_succ]
            refine wpAnyH_take (i := 8) (v := ?_) rfl (by decide +kernel) (by decide +kernel) (by decide +kernel) (fun _ _ _ h => h) (Or.inl ⟨by rfl, ?_⟩) (by assumption) ?_
            rotate_left 1
            · (intro w' hSw; (try dsimp only at hSw); go_simp; (try (with_reducible rfl)))
            try simp only [List.getElem_toArray, List.getElem_cons_zero, List.getElem_cons_succ, Act.put, List.setIfInBounds_toArray, List.set_cons_zero, List.set_cons_succ]
            refine wpAnyH_ready (rs := [9]) (by decide +kernel) (by simp) ?_
            refine AllReadyH.cons rfl (fun K hK => ?_) AllReadyH.nil
            rw [if_pos (by rfl)]
            refine wp_store_row 24 _ _ rfl X #[.int .i64 m2, .int .i64 t2, .int .i64 l2, .slice A9 l9 c9] rfl rfl 24 _ (HGW.out _ HB6.out) HSb.out rfl (one_rows rfl _ _ _) ?_
            have HB9 : Hid (Below w.heap.size w (w6.setRow (X) #[.int .i64 m2, .int .i64 t2, .int .i64 l2, .slice A9 l9 c9])) := Lib.hid (below_setRow (HB.out.trans (HB6.out.mono HB.out.size)) HXlo.out)
            have HX9 : Hid (Bv (w6.setRow (X) #[.int .i64 m2, .int .i64 t2, .int .i64 l2, .slice A9 l9 c9]) (X) ⟨m2, t2, l2, cs2⟩) := Lib.hid (by
              have h1 := setRow_heap w6 (X) _ #[.int .i64 m2, .int .i64 t2, .int .i64 l2, .slice A9 l9 c9] _ _ (HGW.out _ HB6.out)
              have h2 := slv_setRow (cs := #[.int .i64 m2, .int .i64 t2, .int .i64 l2, .slice A9 l9 c9]) HU6.out (HGW.out _ HB6.out)
              rw [HL9.out] at h1 h2 ⊢
              exact ⟨A9, c9, h1, h2⟩)
            have hS9 := HS9.out _ (HGW.out _ HB6.out) #[.int .i64 m2, .int .i64 t2, .int .i64 l2, .slice A9 l9 c9] HB6.out
            refine hK.out _ _ hS9 (fun hHeld => ?_)
            clear hK K hS9
            try simp only [List.getElem_toArray, List.getElem_cons_zero, List.getElem_cons_succ, Act.put]
            refine wpAnyH_done (by decide +kernel) ?_ _
            intro K hK
            go_simp
            refine hK.out _ _ ?_
            clear hK K
            try simp only [List.getElem_toArray, List.getElem_cons_zero, List.getElem_cons_succ, Act.put, List.setIfInBounds_toArray, List.set_cons_zero, List.set_cons_succ]
            (refine (by assumption : ∀ _ _, _ → _) _ _ ?_)
            rw [← HN.out] at HX9
            go_wp2_with fail
            go_roundw
            case rel => exact ⟨j + 1, by omega, rfl, by go_num, HX9, HB9⟩
            case measure => simp [intOf] <;> omega
      · have hT : R.take j = R := List.take_of_length_le (by rw [HRl.out]; omega)
        rw [hT] at HX
        have hsm := HSt.out j
        rw [hT] at hsm
        have hen := HEnd.out
        have hto := HTo.out
        have htb := HTb.out
        rw [← hto] at htb
        obtain ⟨s, hs⟩ : ∃ s, s = stL 8 R := ⟨_, rfl⟩
        rw [← hs] at HX hsm hen htb
        clear hs hto hT
        obtain ⟨m1, z, lo, cs⟩ := s
        have hlo : lo = 0 := (hen 0).2
        subst hlo
        dsimp only at hen htb
        obtain ⟨A1, c1, hg, hsl⟩ := HX.out
        dsimp only at hg hsl
        obtain ⟨l1n, hl1n⟩ : ∃ l1n, l1n = cs.length := ⟨_, rfl⟩
        rw [← hl1n] at hg hsl
        have HG := Lib.hid hg
        have HSl := Lib.hid hsl
        have HGk := Lib.hid (fun k => (hen k).1)
        have HBd := Lib.hid (fun key A' c' W (h : SlV W (.slice A' cs.length c') cs) => bounds_any (.agg #[.int .i64 m1, .int .i64 z, .int .i64 0, .slice A' cs.length c']) ⟨m1, z, 0, cs⟩ key (by have := hsm.size; dsimp only at this ⊢; omega) (by have := hsm.gtb key; dsimp only at this ⊢; omega) W ⟨_, rfl, h⟩)
        rw [← hl1n] at HBd
        have c8 := cell_of_row _ _ 2 _ _ _ hg
        simp at c8
        have hjI : ¬ (j : Int) < (ln : Int) := by omega
        clear hg hsl hl1n hsm hen htb HX hlt
        go_wp2_with fail
        clear c8
        go_loopw [9, 10, 11, 12, 13] (fun kv _a _b _c _d wq => ∃ k : Nat, k ≤ 8 ∧ kv = .int .i64 (k : Int) ∧ Hid (Below w.heap.size w wq) ∧ Hid (wq.heap[X]? = some (.cells #[.int .i64 m1, .int .i64 z, .int .i64 0, .slice A1 l1n c1] 24 (0, 0))) ∧ Hid (SlV wq (.slice A1 l1n c1) cs)) (fun kv _ _ _ _ _ => 8 - (intOf kv).toNat)
        case atStart => exact ⟨0, Nat.zero_le _, rfl, HB, HG, HSl⟩
        case round =>
          obtain ⟨k, hk, rfl, HBq, HGq, HSq⟩ := hrel
          have hk0 : (0 : Int) ≤ (k : Int) := by omega
          by_cases hlt : k < 8
          · have hkI : (k : Int) < 8 := by omega
            have hwk : IntKind.u8.wrap (k : Int) = (k : Int) := by simp only [IntKind.wrap_u8]; omega
            have hwk1 : IntKind.i64.wrap ((k : Int) + 1) = (k : Int) + 1 := by simp only [IntKind.wrap_i64]; omega
            have HKk : Hid (∀ W, Calls Try.prog 23 #[.agg #[.int .u8 (k : Int), .int .u8 0]] W fun e w' => e = .returned (.string (kyI k)) ∧ Below W.heap.size W w') := Lib.hid (fun W => key_any (k, 0) (by dsimp only; omega) W)
            have HIn := Lib.hid (fun i (hi : i < L.length) => in_step L k hlt hi)
            have HEk := Lib.hid (fun i => HEb.out (kyI k) i)
            have hgk := HGk.out k
            have HBdk := Lib.hid (fun A' c' W h => HBd.out (kyI k) A' c' W h)
            have HE0 : Hid (exL ((L.take 0).map k8) (kyI k) = 0) := Lib.hid (by rw [List.take_zero]; rfl)
            obtain ⟨key, hkey⟩ : ∃ key, key = kyI k := ⟨_, rfl⟩
            rw [← hkey] at HKk HIn HEk hgk HBdk HE0
            obtain ⟨lw, hlw⟩ : ∃ lw, lw = gt cs key := ⟨_, rfl⟩
            rw [← hlw] at hgk
            have HLw := Lib.hid hgk
            simp only [Int.add_zero] at HBdk
            rw [← hlw] at HBdk
            clear hkey hlw hgk
            go_wp2_with fail
            go_loopw [10, 11] (fun zv iv wv => ∃ (i : Nat) (u : Int), i ≤ ln ∧ iv = .int .i64 (i : Int) ∧ zv = .int .i64 u ∧ Hid (u = exL ((L.take i).map k8) key) ∧ Hid (Below w.heap.size w wv) ∧ Hid (wv.heap[X]? = some (.cells #[.int .i64 m1, .int .i64 z, .int .i64 0, .slice A1 l1n c1] 24 (0, 0))) ∧ Hid (SlV wv (.slice A1 l1n c1) cs)) (fun _ iv _ => ln - (intOf iv).toNat)
            case atStart => exact ⟨0, 0, Nat.zero_le _, rfl, rfl, Lib.hid HE0.out.symm, HBq, HGq, HSq⟩
            case round =>
              obtain ⟨i, u, hi, rfl, rfl, HU, HBv, HGv, HSv⟩ := hrel
              have hi0 : (0 : Int) ≤ (i : Int) := by omega
              by_cases hlt2 : i < ln
              · have hi2 : i < L.length := by rw [← HLn.out]; exact hlt2
                obtain ⟨bi, oi, rfl, hbi, h0, h1⟩ := (HR.out.below HBv.out) i hi2
                have hok := HI.out _ (List.getElem_mem hi2)
                have HIs := Lib.hid (HIn.out i hi2)
                have hub := HEk.out i
                rw [← HU.out] at hub
                obtain ⟨x, hx⟩ : ∃ x, x = L[i] := ⟨_, rfl⟩
                rw [← hx] at h0 h1 hok HIs
                clear hx hi2
                have HWt := Lib.hid (fun W => weight_any x hok.2 W)
                have hwb := wt_bd x
                obtain ⟨q, hq⟩ : ∃ q, q = wtI x := ⟨_, rfl⟩
                rw [← hq] at HWt HIs hwb
                clear hq
                obtain ⟨k0, i9⟩ := x
                obtain ⟨hok1, hok2⟩ := hok
                dsimp only at h0 h1 HIs hok1
                obtain ⟨k1, hk1⟩ : ∃ k1, k1 = k0 % 8 := ⟨_, rfl⟩
                rw [← hk1] at HIs
                have q0 : (0 : Int) ≤ (k0 : Int) := by omega
                have q1 : ((k0 : Int)).tmod 8 = (k1 : Int) := by rw [Int.tmod_eq_emod_of_nonneg q0, hk1]; omega
                have q2 : IntKind.i64.wrap (k1 : Int) = (k1 : Int) := by simp only [IntKind.wrap_i64]; omega
                have hiI : (i : Int) < (ln : Int) := by omega
                have hw1 : IntKind.i64.wrap ((i : Int) + 1) = (i : Int) + 1 := by simp only [IntKind.wrap_i64]; omega
                obtain ⟨u2, hu2⟩ : ∃ u2, u2 = u + q := ⟨_, rfl⟩
                have hw2 : IntKind.i64.wrap (u + q) = u2 := by rw [hu2]; simp only [IntKind.wrap_i64]; omega
                have HU2 := Lib.hid hu2
                clear hk1 hu2 hub hwb hok1 hok2 hbi
                by_cases hkk : k1 = k
                · have e1 : ((k1 : Int) == (k : Int)) = true := by simp; omega
                  have HUn : Hid (u2 = exL ((L.take (i + 1)).map k8) key) := Lib.hid (by rw [HIs.out, if_pos hkk, ← HU.out, HU2.out])
                  clear hkk
                  go_wp2_with fail
                  refine (HWt.out _).mono ?_
                  rintro e v1 ⟨rfl, hb⟩
                  have HB4 := Lib.hid (HBv.out.trans (hb.mono HBv.out.size))
                  have HG4 := Lib.hid (blk_carry HGv.out hb)
                  have HS4 := Lib.hid (HSv.out.below hb)
                  clear hb
                  go_wp2_with fail
                  go_roundw
                  case rel => exact ⟨i + 1, u2, by omega, by go_num, rfl, HUn, HB4, HG4, HS4⟩
                  case measure => simp [intOf] <;> omega
                · have e1 : ((k1 : Int) == (k : Int)) = false := by simp; omega
                  have HUn : Hid (u = exL ((L.take (i + 1)).map k8) key) := Lib.hid (by rw [HIs.out, if_neg hkk, ← HU.out, Int.add_zero])
                  have hkk2 : ¬ (k1 : Int) = (k : Int) := by omega
                  clear hkk
                  go_wp2_with fail
                  go_roundw
                  case rel => exact ⟨i + 1, u, by omega, by go_num, rfl, HUn, HBv, HGv, HSv⟩
                  case measure => simp [intOf] <;> omega
              · have hT2 : L.take i = L := List.take_of_length_le (by rw [← HLn.out]; omega)
                have hul : u = lw := by rw [HU.out, hT2, HLw.out]
                subst hul
                have hiI : ¬ (i : Int) < (ln : Int) := by omega
                have HCx : Hid (∀ W, Below wr.heap.size wr W → W.cell? ⟨X, 0, none⟩ = some (.int .i64 m1) ∧ W.cell? ⟨X, 1, none⟩ = some (.int .i64 z) ∧ W.cell? ⟨X, 2, none⟩ = some (.int .i64 0) ∧ W.cell? ⟨X, 3, none⟩ = some (.slice A1 l1n c1)) := Lib.hid (fun W hW => by
                  have hg := (hW.block _ (Array.getElem?_eq_some_iff.1 HGv.out).1).trans HGv.out
                  exact ⟨cell_of_row _ _ 0 _ _ _ hg, cell_of_row _ _ 1 _ _ _ hg, cell_of_row _ _ 2 _ _ _ hg, cell_of_row _ _ 3 _ _ _ hg⟩)
                have HD0 : Hid (Below wr.heap.size wr wr.drew) := Lib.hid (Below.drew (Below.refl _ _))
                clear hT2 hlt2
                go_wp2_with fail
                go_region_held3 (fun W => W.cell? ⟨X, 0, none⟩ = some (.int .i64 m1) ∧ W.cell? ⟨X, 1, none⟩ = some (.int .i64 z) ∧ W.cell? ⟨X, 2, none⟩ = some (.int .i64 0) ∧ W.cell? ⟨X, 3, none⟩ = some (.slice A1 l1n c1))
                    (first | exact HCx.out _ HD2.out | exact HCx.out _ HD1.out | exact HCx.out _ HD0.out)
                  ((first
                    | (go_at_call 23; (with_reducible refine (HKk.out _).mono ?_); rintro e v1 ⟨rfl, hb⟩; have HD1 : Hid (Below wr.heap.size wr v1) := Lib.hid (HD0.out.trans (hb.mono HD0.out.size)); clear hb)
                    | (go_at_call 26; (with_reducible refine (HBdk.out _ _ _ (HSv.out.below HD1.out)).mono ?_); rintro e v2 ⟨rfl, hb⟩; have HD2 : Hid (Below wr.heap.size wr v2) := Lib.hid (HD1.out.trans (hb.mono HD1.out.size)); clear hb)
                    | fail))
                all_goals
                  have HB6 := Lib.hid (HBv.out.trans (HD2.out.mono HBv.out.size))
                  have HG6 := Lib.hid (blk_carry HGv.out HD2.out)
                  have HS6 := Lib.hid (HSv.out.below HD2.out)
                  go_wp2_with fail
                  go_roundw
                  case rel => exact ⟨k + 1, by omega, by go_num, HB6, HG6, HS6⟩
                  case measure => simp [intOf] <;> omega
          · have hkI : ¬ (k : Int) < 8 := by omega
            go_wp2_with fail
            go_ret
            exact ⟨rfl, HBq.out⟩
set_option maxRecDepth 100000 in
theorem lifted (os : Os) (started : os.Started) (H : Type) (enc : TypeId × Value → H) :
    ReturnsInHanded {} Try.checked os 8 .any (Rows.heavyhitterExactSpec.pre6 enc Try.prog Try.f8 Rows.heavyhitterExactRow.domain false) (Rows.heavyhitterExactSpec.post enc Try.prog Try.f8 false true false false) := by
  refine returnsInHanded_of_change (C := Try.checked) own started (by kernel_rfl) Try.func8
    (ChangeSpec.witness6 (enc := enc) (C := Try.checked) false ⟨#[], #[.slice none 0 0, .int .u8 0], []⟩ 8 (by kernel_rfl) (by kernel_rfl) (by kernel_rfl) (by kernel_rfl)) ?_
  intro W base args ds gs before hval0 hW _ _
  have hval : ∀ (j : Nat) t v, Try.f8.params[j]? = some t → args[j]? = some v → Value.okWide Try.prog W .any base t v := hval0
  have hW' := hW
  obtain ⟨p, q, hA0, hV, rfl, _, _⟩ := hW
  have hA : DataW.TrodAll enc Try.prog W 0 (fun _ => true) true Try.f8.params.toList args.toList ds p := hA0
  rw [Try.params8] at hA hval
  obtain ⟨v0, vs0, d0, ds0, p0, q0, hargs0, rfl, rfl, h0, r0⟩ := trodAll_cons hA
  obtain ⟨v1, vs1, d1, ds1, p1, q1, hargs1, rfl, rfl, h1, r1⟩ := trodAll_cons r0
  obtain ⟨rfl, rfl, rfl⟩ := trodAll_nil r1
  obtain rfl : args = #[v0, v1] := by cases args; simp_all
  obtain ⟨rfl, rfl⟩ := trodVars_none hV
  have lt0 : ∀ x ∈ p0, x.block < W.heap.size := fun x hx => hW'.lt x (by simp [hx])
  obtain ⟨A0, c0, L0, rfl, hL0, hc0, hn0, hs0, hR0⟩ := open_its (hval 0 34 v0 rfl rfl) h0 lt0
  obtain ⟨a1, rfl, rfl, rfl, wa1⟩ := open_int Try.underlying5 (hval 1 5 v1 rfl rfl) h1
  clear hA0 hval0
  simp only [List.append_nil] at hW'
  refine (walk W A0 c0 L0 hL0 hc0 hn0 hs0 hR0 a1 wa1).mono fun e W' ⟨he, hb⟩ => ?_
  subst he
  exact ⟨_, rfl, post_mem hW' hb (fun _ _ _ => trodAll_mk1 (shut_bool Try.underlying4 _)) (fun sp hsp => by
    have t := trodAll_cons_mk (carry laidOut (by kernel_rfl) (of_decide_eq_true (by kernel_rfl)) h0 hb lt0 sp (fun x hx => hsp x (by simp [hx]))) (trodAll_cons_mk (shut_int Try.underlying5 wa1) trodAll_mk0)
    simp only [List.append_nil] at t
    exact t) (fun _ => rfl) (ok_one (by kernel_rfl) rfl (okWide_bool_mk Try.underlying4 _))⟩

theorem proved : Rows.HeavyhitterExactSaid :=
  OpenClaim.holds_of_wide 8 Try.f8 rfl rfl rfl rfl rfl rfl rfl ⟨rfl, rfl, rfl, rfl, rfl⟩ rfl rfl rfl rfl rfl (by kernel_rfl) Try.func8 (by kernel_rfl)
    (of_decide_eq_true (by kernel_rfl)) (by unfold Func.isWrapper; first | (rw [if_pos (by decide +kernel)]; kernel_rfl) | (rw [if_neg (by decide +kernel)]; exact ⟨rfl, rfl⟩))
    (fun os started H enc _ => lifted os started H enc)
end Go.Proofs.Ytdcfhnpnfamdaaa.lawExact
