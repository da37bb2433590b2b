/- The statement BitmapLaws: for any three sets, the law returns true and changes nothing (written by wip/bin/gen_laws.py). -/
import Derived.Test.YtacgomhegjilgaaHe
import Derived.Test.YtacgomhegjilgaaGh
import Derived.Test.YtacgomhegjilgaaJh
namespace Go.Proofs.Ytacgomhegjilgaa.lawLaws
open Go.Proofs.Ytacgomhegjilgaa Go.ChangeShapes Go.WideShapes Go.ChangeAt Go.RowKit Go.Joins Ts

attribute [local go_sem ↓] Go.wp_at_zero Go.wp_at_succ
theorem set_any (b : Int) (L : List Iv) (hs : ∀ x ∈ L, PrOk x) : Bs 84 (setL (rowS b L)) := by
  obtain ⟨i1, i2, i3⟩ := rowS_spec b hs
  have h := set_bs (l := rowS b L) (by omega) i2
  refine ⟨h.nrm, ?_, h.row⟩
  rw [← jf_all]
  have := jf_len (srI (rowS b L)) (srI (rowS b L)).length
  rw [srI_len] at this ⊢
  omega
set_option maxRecDepth 100000 in
set_option maxHeartbeats 64000000 in
theorem walk (w : World) (b0 : Int) (hb0 : 0 ≤ b0 ∧ b0 ≤ 65535) (A0 : Option Addr) (c0 : Nat) (L0 : List Iv) (hL0 : L0.length ≤ 9223372036854775807) (hs0 : ∀ x ∈ L0, PrOk x) (hR0 : Rs w w.heap.size A0 (prCells L0)) (b1 : Int) (hb1 : 0 ≤ b1 ∧ b1 ≤ 65535) (A1 : Option Addr) (c1 : Nat) (L1 : List Iv) (hL1 : L1.length ≤ 9223372036854775807) (hs1 : ∀ x ∈ L1, PrOk x) (hR1 : Rs w w.heap.size A1 (prCells L1)) (b2 : Int) (hb2 : 0 ≤ b2 ∧ b2 ≤ 65535) (A2 : Option Addr) (c2 : Nat) (L2 : List Iv) (hL2 : L2.length ≤ 9223372036854775807) (hs2 : ∀ x ∈ L2, PrOk x) (hR2 : Rs w w.heap.size A2 (prCells L2)) :
    Calls Try.prog 9 #[.agg #[.int .u16 b0, .slice A0 L0.length c0], .agg #[.int .u16 b1, .slice A1 L1.length c1], .agg #[.int .u16 b2, .slice A2 L2.length c2]] w fun e w' => e = .returned (.bool true) ∧ Below w.heap.size w w' := by
  have hB0 := set_any b0 L0 hs0
  have CM0 := Lib.hid (fun W (g : Gb w W) => made_any b0 hb0 A0 c0 L0 hL0 hs0 W ((hR0.below g.out).more g.out.size))
  obtain ⟨M0, hM0⟩ : ∃ M, M = setL (rowS b0 L0) := ⟨_, rfl⟩
  rw [← hM0] at hB0 CM0
  obtain ⟨R0, hRn0⟩ : ∃ R, R = rn M0 := ⟨_, rfl⟩
  rw [← hRn0] at CM0
  have HRn0 := Lib.hid hRn0
  have HB0 := Lib.hid hB0
  clear hR0 hM0 hRn0 hs0 hL0 hB0 hb0
  have hB1 := set_any b1 L1 hs1
  have CM1 := Lib.hid (fun W (g : Gb w W) => made_any b1 hb1 A1 c1 L1 hL1 hs1 W ((hR1.below g.out).more g.out.size))
  obtain ⟨M1, hM1⟩ : ∃ M, M = setL (rowS b1 L1) := ⟨_, rfl⟩
  rw [← hM1] at hB1 CM1
  obtain ⟨R1, hRn1⟩ : ∃ R, R = rn M1 := ⟨_, rfl⟩
  rw [← hRn1] at CM1
  have HRn1 := Lib.hid hRn1
  have HB1 := Lib.hid hB1
  clear hR1 hM1 hRn1 hs1 hL1 hB1 hb1
  have hB2 := set_any b2 L2 hs2
  have CM2 := Lib.hid (fun W (g : Gb w W) => made_any b2 hb2 A2 c2 L2 hL2 hs2 W ((hR2.below g.out).more g.out.size))
  obtain ⟨M2, hM2⟩ : ∃ M, M = setL (rowS b2 L2) := ⟨_, rfl⟩
  rw [← hM2] at hB2 CM2
  obtain ⟨R2, hRn2⟩ : ∃ R, R = rn M2 := ⟨_, rfl⟩
  rw [← hRn2] at CM2
  have HRn2 := Lib.hid hRn2
  have HB2 := Lib.hid hB2
  clear hR2 hM2 hRn2 hs2 hL2 hB2 hb2
  go_enter Try.func9, Try.ntmps9
  go_wp2_with fail
  refine (known_any _).mono ?_
  rintro e w1 ⟨rfl, hb⟩
  have F1 : Fr (((w.alloc (.cells #[.int .u16 b0, .slice A0 L0.length c0] 36)).alloc (.cells #[.int .u16 b1, .slice A1 L1.length c1] 36)).alloc (.cells #[.int .u16 b2, .slice A2 L2.length c2] 36)) w1 := ⟨hb⟩
  have G1 : Gb w w1 := Gb.call (Gb.alloc (Gb.alloc (Gb.alloc (Gb.refl w) _) _) _) F1
  have K0 : Bk1 (w.heap.size) (.cells #[.int .u16 b0, .slice A0 L0.length c0] 36 (0, 0)) w1 := Bk1.call (Bk1.old (Bk1.old ((Bk1.new (W := w) (by rfl) (fun v => Deep.blk_alloc_new v _) : Bk1 (w.heap.size) (.cells #[.int .u16 b0, .slice A0 L0.length c0] 36 (0, 0)) _)) _) _) F1
  have hk00 : w1.cell? ⟨w.heap.size, 0, none⟩ = some (.int .u16 b0) := cell_of_row w1 _ 0 _ _ _ K0.out
  have hk01 : w1.cell? ⟨w.heap.size, 1, none⟩ = some (.slice A0 L0.length c0) := cell_of_row w1 _ 1 _ _ _ K0.out
  have K1 : Bk1 (w.heap.size + 1) (.cells #[.int .u16 b1, .slice A1 L1.length c1] 36 (0, 0)) w1 := Bk1.call (Bk1.old ((Bk1.new (W := (w.alloc (.cells #[.int .u16 b0, .slice A0 L0.length c0] 36))) (by simp) (fun v => Deep.blk_alloc_new v _) : Bk1 (w.heap.size + 1) (.cells #[.int .u16 b1, .slice A1 L1.length c1] 36 (0, 0)) _)) _) F1
  have hk10 : w1.cell? ⟨w.heap.size + 1, 0, none⟩ = some (.int .u16 b1) := cell_of_row w1 _ 0 _ _ _ K1.out
  have hk11 : w1.cell? ⟨w.heap.size + 1, 1, none⟩ = some (.slice A1 L1.length c1) := cell_of_row w1 _ 1 _ _ _ K1.out
  have K2 : Bk1 (w.heap.size + 2) (.cells #[.int .u16 b2, .slice A2 L2.length c2] 36 (0, 0)) w1 := Bk1.call ((Bk1.new (W := ((w.alloc (.cells #[.int .u16 b0, .slice A0 L0.length c0] 36)).alloc (.cells #[.int .u16 b1, .slice A1 L1.length c1] 36))) (by simp) (fun v => Deep.blk_alloc_new v _) : Bk1 (w.heap.size + 2) (.cells #[.int .u16 b2, .slice A2 L2.length c2] 36 (0, 0)) _)) F1
  have hk20 : w1.cell? ⟨w.heap.size + 2, 0, none⟩ = some (.int .u16 b2) := cell_of_row w1 _ 0 _ _ _ K2.out
  have hk21 : w1.cell? ⟨w.heap.size + 2, 1, none⟩ = some (.slice A2 L2.length c2) := cell_of_row w1 _ 1 _ _ _ K2.out
  have hz1 := F1.size1
  simp at hz1
  clear hb
  have HW1 := Lib.hid G1.out
  have HS : Hid (∀ W, Gb w1 W → W.cell? ⟨w.heap.size, 0, none⟩ = some (.int .u16 b0) ∧ W.cell? ⟨w.heap.size, 1, none⟩ = some (.slice A0 L0.length c0) ∧ W.cell? ⟨w.heap.size + 1, 0, none⟩ = some (.int .u16 b1) ∧ W.cell? ⟨w.heap.size + 1, 1, none⟩ = some (.slice A1 L1.length c1) ∧ W.cell? ⟨w.heap.size + 2, 0, none⟩ = some (.int .u16 b2) ∧ W.cell? ⟨w.heap.size + 2, 1, none⟩ = some (.slice A2 L2.length c2)) := Lib.hid (fun W g => by
    have f0 : W.heap[w.heap.size]? = some (.cells #[.int .u16 b0, .slice A0 L0.length c0] 36 (0, 0)) := (g.out.block _ (Array.getElem?_eq_some_iff.1 K0.out).1).trans K0.out
    have f1 : W.heap[w.heap.size + 1]? = some (.cells #[.int .u16 b1, .slice A1 L1.length c1] 36 (0, 0)) := (g.out.block _ (Array.getElem?_eq_some_iff.1 K1.out).1).trans K1.out
    have f2 : W.heap[w.heap.size + 2]? = some (.cells #[.int .u16 b2, .slice A2 L2.length c2] 36 (0, 0)) := (g.out.block _ (Array.getElem?_eq_some_iff.1 K2.out).1).trans K2.out
    exact ⟨cell_of_row W _ 0 _ _ _ f0, cell_of_row W _ 1 _ _ _ f0, cell_of_row W _ 0 _ _ _ f1, cell_of_row W _ 1 _ _ _ f1, cell_of_row W _ 0 _ _ _ f2, cell_of_row W _ 1 _ _ _ f2⟩)
  go_upto_region 3 with fail
  go_cut [7, 8, 9] (fun s7 s8 s9 wx => ∃ (X0 : Nat) (P0 : Option Addr) (p0 : Nat) (X1 : Nat) (P1 : Option Addr) (p1 : Nat) (X2 : Nat) (P2 : Option Addr) (p2 : Nat), s7 = .pointer (some ⟨X0, 0, none⟩) ∧ s8 = .pointer (some ⟨X1, 0, none⟩) ∧ s9 = .pointer (some ⟨X2, 0, none⟩) ∧ Hid (Hold w [(X0, Obj.cells #[.slice P0 R0.length p0] 26 (0, 0)), (X1, Obj.cells #[.slice P1 R1.length p1] 26 (0, 0)), (X2, Obj.cells #[.slice P2 R2.length p2] 26 (0, 0))] [(.slice P0 R0.length p0, R0), (.slice P1 R1.length p1, R1), (.slice P2 R2.length p2, R2)] [] wx))
  case first =>
    refine wp_region_inv (fun a0 w0 d a' w' => ∃ (x7 x8 x9 l16 l18 l20 y17 y19 y21 : Value) (X0 X1 X2 : Nat), a' = (((((((((a0.put (some 7) x7).put (some 8) x8).put (some 9) x9).put (some 16) l16).put (some 18) l18).put (some 20) l20).put (some 17) y17).put (some 19) y19).put (some 21) y21) ∧ Hid (Gb w0 w') ∧ Hid (d 0 = true → l16 = .agg #[.int .u16 b0, .slice A0 L0.length c0]) ∧ Hid (d 2 = true → l18 = .agg #[.int .u16 b1, .slice A1 L1.length c1]) ∧ Hid (d 4 = true → l20 = .agg #[.int .u16 b2, .slice A2 L2.length c2]) ∧ Hid (Jk w0.heap.size R0 (d 1) (d 6) (d 9) x7 y17 X0 w') ∧ Hid (Jk w0.heap.size R1 (d 3) (d 7) (d 10) x8 y19 X1 w') ∧ Hid (Jk w0.heap.size R2 (d 5) (d 8) (d 11) x9 y21 X2 w') ∧ Hid (Dj (d 6) (d 7) X0 X1) ∧ Hid (Dj (d 6) (d 8) X0 X2) ∧ Hid (Dj (d 7) (d 8) X1 X2)) (by kernel_rfl) (by kernel_rfl) ?_ ?_ ?_
    · exact ⟨undef, undef, undef, undef, undef, undef, undef, undef, undef, 0, 0, 0, (by simp only [Act.put, List.setIfInBounds_toArray, List.set_cons_zero, List.set_cons_succ]), Lib.hid (Gb.drew (Gb.refl _)), Lib.hid (fun h => nomatch h), Lib.hid (fun h => nomatch h), Lib.hid (fun h => nomatch h), Lib.hid Jk.start, Lib.hid Jk.start, Lib.hid Jk.start, Lib.hid (fun h => nomatch h), Lib.hid (fun h => nomatch h), Lib.hid (fun h => nomatch h)⟩
    · refine ⟨?_, ?_, ?_, ?_, ?_, ?_, ?_, ?_, ?_, ?_, ?_, ?_, trivial⟩
      · intro d _ w' h0 hd hJ K hK
        obtain ⟨x7, x8, x9, l16, l18, l20, y17, y19, y21, X0, X1, X2, hx, G, E0, E1, E2, J0, J1, J2, D01, D02, D12⟩ := hJ
        have G1 : Gb w1 w' := G.out
        have G2 : Gb w w' := ⟨HW1.out.trans (G1.out.mono HW1.out.size)⟩
        simp only [Act.put, List.setIfInBounds_toArray, List.set_cons_zero, List.set_cons_succ] at hx
        refine step_at hx ?_
        clear hx
        obtain ⟨c00, c01, _, _, _, _⟩ := HS.out w' G1
        have G := Lib.hid G.out
        clear hd h0 G1 G2
        go_simp
        refine hK.out _ _ ⟨x7, x8, x9, .agg #[.int .u16 b0, .slice A0 L0.length c0], l18, l20, y17, y19, y21, X0, X1, X2, (by simp only [Act.put, List.setIfInBounds_toArray, List.set_cons_zero, List.set_cons_succ]), G, Lib.hid (fun _ => rfl), E1, E2, J0, J1, J2, D01, D02, D12⟩
      · intro d _ w' h0 hd hJ K hK
        obtain ⟨x7, x8, x9, l16, l18, l20, y17, y19, y21, X0, X1, X2, hx, G, E0, E1, E2, J0, J1, J2, D01, D02, D12⟩ := hJ
        have G1 : Gb w1 w' := G.out
        have G2 : Gb w w' := ⟨HW1.out.trans (G1.out.mono HW1.out.size)⟩
        simp only [Act.put, List.setIfInBounds_toArray, List.set_cons_zero, List.set_cons_succ] at hx
        refine step_at hx ?_
        clear hx
        have d0 : d 0 = true := hd { on := 0, ground := Ground.data } (by simp) rfl
        obtain rfl := E0.out d0
        clear hd
        go_simp
        refine (CM0.out _ G2).mono ?_
        rintro e v ⟨⟨r, rfl, hr⟩, hb⟩
        have hr2 := hr
        obtain ⟨P, p, rfl, _, _, _, _⟩ := hr2
        refine hK.out _ _ ⟨x7, x8, x9, .agg #[.int .u16 b0, .slice A0 L0.length c0], l18, l20, .agg #[.slice P R0.length p], y19, y21, X0, X1, X2, (by simp only [Act.put, List.setIfInBounds_toArray, List.set_cons_zero, List.set_cons_succ]), Lib.hid (Gb.call G.out ⟨hb⟩), Lib.hid (fun _ => rfl), E1, E2, Lib.hid (J0.out.call h0 hb hr), Lib.hid (J1.out.next hb), Lib.hid (J2.out.next hb), D01, D02, D12⟩
      · intro d _ w' h0 hd hJ K hK
        obtain ⟨x7, x8, x9, l16, l18, l20, y17, y19, y21, X0, X1, X2, hx, G, E0, E1, E2, J0, J1, J2, D01, D02, D12⟩ := hJ
        have G1 : Gb w1 w' := G.out
        have G2 : Gb w w' := ⟨HW1.out.trans (G1.out.mono HW1.out.size)⟩
        simp only [Act.put, List.setIfInBounds_toArray, List.set_cons_zero, List.set_cons_succ] at hx
        refine step_at hx ?_
        clear hx
        obtain ⟨_, _, c10, c11, _, _⟩ := HS.out w' G1
        have G := Lib.hid G.out
        clear hd h0 G1 G2
        go_simp
        refine hK.out _ _ ⟨x7, x8, x9, l16, .agg #[.int .u16 b1, .slice A1 L1.length c1], l20, y17, y19, y21, X0, X1, X2, (by simp only [Act.put, List.setIfInBounds_toArray, List.set_cons_zero, List.set_cons_succ]), G, E0, Lib.hid (fun _ => rfl), E2, J0, J1, J2, D01, D02, D12⟩
      · intro d _ w' h0 hd hJ K hK
        obtain ⟨x7, x8, x9, l16, l18, l20, y17, y19, y21, X0, X1, X2, hx, G, E0, E1, E2, J0, J1, J2, D01, D02, D12⟩ := hJ
        have G1 : Gb w1 w' := G.out
        have G2 : Gb w w' := ⟨HW1.out.trans (G1.out.mono HW1.out.size)⟩
        simp only [Act.put, List.setIfInBounds_toArray, List.set_cons_zero, List.set_cons_succ] at hx
        refine step_at hx ?_
        clear hx
        have d2 : d 2 = true := hd { on := 2, ground := Ground.data } (by simp) rfl
        obtain rfl := E1.out d2
        clear hd
        go_simp
        refine (CM1.out _ G2).mono ?_
        rintro e v ⟨⟨r, rfl, hr⟩, hb⟩
        have hr2 := hr
        obtain ⟨P, p, rfl, _, _, _, _⟩ := hr2
        refine hK.out _ _ ⟨x7, x8, x9, l16, .agg #[.int .u16 b1, .slice A1 L1.length c1], l20, y17, .agg #[.slice P R1.length p], y21, X0, X1, X2, (by simp only [Act.put, List.setIfInBounds_toArray, List.set_cons_zero, List.set_cons_succ]), Lib.hid (Gb.call G.out ⟨hb⟩), E0, Lib.hid (fun _ => rfl), E2, Lib.hid (J0.out.next hb), Lib.hid (J1.out.call h0 hb hr), Lib.hid (J2.out.next hb), D01, D02, D12⟩
      · intro d _ w' h0 hd hJ K hK
        obtain ⟨x7, x8, x9, l16, l18, l20, y17, y19, y21, X0, X1, X2, hx, G, E0, E1, E2, J0, J1, J2, D01, D02, D12⟩ := hJ
        have G1 : Gb w1 w' := G.out
        have G2 : Gb w w' := ⟨HW1.out.trans (G1.out.mono HW1.out.size)⟩
        simp only [Act.put, List.setIfInBounds_toArray, List.set_cons_zero, List.set_cons_succ] at hx
        refine step_at hx ?_
        clear hx
        obtain ⟨_, _, _, _, c20, c21⟩ := HS.out w' G1
        have G := Lib.hid G.out
        clear hd h0 G1 G2
        go_simp
        refine hK.out _ _ ⟨x7, x8, x9, l16, l18, .agg #[.int .u16 b2, .slice A2 L2.length c2], y17, y19, y21, X0, X1, X2, (by simp only [Act.put, List.setIfInBounds_toArray, List.set_cons_zero, List.set_cons_succ]), G, E0, E1, Lib.hid (fun _ => rfl), J0, J1, J2, D01, D02, D12⟩
      · intro d _ w' h0 hd hJ K hK
        obtain ⟨x7, x8, x9, l16, l18, l20, y17, y19, y21, X0, X1, X2, hx, G, E0, E1, E2, J0, J1, J2, D01, D02, D12⟩ := hJ
        have G1 : Gb w1 w' := G.out
        have G2 : Gb w w' := ⟨HW1.out.trans (G1.out.mono HW1.out.size)⟩
        simp only [Act.put, List.setIfInBounds_toArray, List.set_cons_zero, List.set_cons_succ] at hx
        refine step_at hx ?_
        clear hx
        have d4 : d 4 = true := hd { on := 4, ground := Ground.data } (by simp) rfl
        obtain rfl := E2.out d4
        clear hd
        go_simp
        refine (CM2.out _ G2).mono ?_
        rintro e v ⟨⟨r, rfl, hr⟩, hb⟩
        have hr2 := hr
        obtain ⟨P, p, rfl, _, _, _, _⟩ := hr2
        refine hK.out _ _ ⟨x7, x8, x9, l16, l18, .agg #[.int .u16 b2, .slice A2 L2.length c2], y17, y19, .agg #[.slice P R2.length p], X0, X1, X2, (by simp only [Act.put, List.setIfInBounds_toArray, List.set_cons_zero, List.set_cons_succ]), Lib.hid (Gb.call G.out ⟨hb⟩), E0, E1, Lib.hid (fun _ => rfl), Lib.hid (J0.out.next hb), Lib.hid (J1.out.next hb), Lib.hid (J2.out.call h0 hb hr), D01, D02, D12⟩
      · intro d _ w' h0 hd hJ K hK
        obtain ⟨x7, x8, x9, l16, l18, l20, y17, y19, y21, X0, X1, X2, hx, G, E0, E1, E2, J0, J1, J2, D01, D02, D12⟩ := hJ
        have G1 : Gb w1 w' := G.out
        have G2 : Gb w w' := ⟨HW1.out.trans (G1.out.mono HW1.out.size)⟩
        simp only [Act.put, List.setIfInBounds_toArray, List.set_cons_zero, List.set_cons_succ] at hx
        refine step_at hx ?_
        clear hx
        clear hd
        go_simp
        refine hK.out _ _ ⟨.pointer (some ⟨w'.heap.size, 0, none⟩), x8, x9, l16, l18, l20, y17, y19, y21, w'.heap.size, X1, X2, (by simp only [Act.put, List.setIfInBounds_toArray, List.set_cons_zero, List.set_cons_succ]), Lib.hid (Gb.alloc G.out _), E0, E1, E2, Lib.hid (J0.out.alloc h0 G1.out.size), Lib.hid (J1.out.next ((Below.refl _ _).alloc (Nat.le_refl _) _)), Lib.hid (J2.out.next ((Below.refl _ _).alloc (Nat.le_refl _) _)), Lib.hid (fun _ h => Nat.ne_of_gt (J1.out.lt h)), Lib.hid (fun _ h => Nat.ne_of_gt (J2.out.lt h)), D12⟩
      · intro d _ w' h0 hd hJ K hK
        obtain ⟨x7, x8, x9, l16, l18, l20, y17, y19, y21, X0, X1, X2, hx, G, E0, E1, E2, J0, J1, J2, D01, D02, D12⟩ := hJ
        have G1 : Gb w1 w' := G.out
        have G2 : Gb w w' := ⟨HW1.out.trans (G1.out.mono HW1.out.size)⟩
        simp only [Act.put, List.setIfInBounds_toArray, List.set_cons_zero, List.set_cons_succ] at hx
        refine step_at hx ?_
        clear hx
        clear hd
        go_simp
        refine hK.out _ _ ⟨x7, .pointer (some ⟨w'.heap.size, 0, none⟩), x9, l16, l18, l20, y17, y19, y21, X0, w'.heap.size, X2, (by simp only [Act.put, List.setIfInBounds_toArray, List.set_cons_zero, List.set_cons_succ]), Lib.hid (Gb.alloc G.out _), E0, E1, E2, Lib.hid (J0.out.next ((Below.refl _ _).alloc (Nat.le_refl _) _)), Lib.hid (J1.out.alloc h0 G1.out.size), Lib.hid (J2.out.next ((Below.refl _ _).alloc (Nat.le_refl _) _)), Lib.hid (fun h _ => Nat.ne_of_lt (J0.out.lt h)), D02, Lib.hid (fun _ h => Nat.ne_of_gt (J2.out.lt h))⟩
      · intro d _ w' h0 hd hJ K hK
        obtain ⟨x7, x8, x9, l16, l18, l20, y17, y19, y21, X0, X1, X2, hx, G, E0, E1, E2, J0, J1, J2, D01, D02, D12⟩ := hJ
        have G1 : Gb w1 w' := G.out
        have G2 : Gb w w' := ⟨HW1.out.trans (G1.out.mono HW1.out.size)⟩
        simp only [Act.put, List.setIfInBounds_toArray, List.set_cons_zero, List.set_cons_succ] at hx
        refine step_at hx ?_
        clear hx
        clear hd
        go_simp
        refine hK.out _ _ ⟨x7, x8, .pointer (some ⟨w'.heap.size, 0, none⟩), l16, l18, l20, y17, y19, y21, X0, X1, w'.heap.size, (by simp only [Act.put, List.setIfInBounds_toArray, List.set_cons_zero, List.set_cons_succ]), Lib.hid (Gb.alloc G.out _), E0, E1, E2, Lib.hid (J0.out.next ((Below.refl _ _).alloc (Nat.le_refl _) _)), Lib.hid (J1.out.next ((Below.refl _ _).alloc (Nat.le_refl _) _)), Lib.hid (J2.out.alloc h0 G1.out.size), D01, Lib.hid (fun h _ => Nat.ne_of_lt (J0.out.lt h)), Lib.hid (fun h _ => Nat.ne_of_lt (J1.out.lt h))⟩
      · intro d _ w' h0 hd hJ K hK
        obtain ⟨x7, x8, x9, l16, l18, l20, y17, y19, y21, X0, X1, X2, hx, G, E0, E1, E2, J0, J1, J2, D01, D02, D12⟩ := hJ
        have G1 : Gb w1 w' := G.out
        have G2 : Gb w w' := ⟨HW1.out.trans (G1.out.mono HW1.out.size)⟩
        simp only [Act.put, List.setIfInBounds_toArray, List.set_cons_zero, List.set_cons_succ] at hx
        refine step_at hx ?_
        clear hx
        have d1 : d 1 = true := hd { on := 1, ground := Ground.data } (by simp) rfl
        have d6 : d 6 = true := hd { on := 6, ground := Ground.data } (by simp) rfl
        obtain ⟨P, p, rfl, rfl, hblk, hst⟩ := J0.out.store d1 d6 h0
        have hc := cell_of_row w' X0 0 _ _ _ hblk
        have hf := frozen_of_row w' X0 0 _ _ hblk
        have hXw := J0.out.lo d6
        clear hd
        go_simp
        refine hK.out _ _ ⟨.pointer (some ⟨X0, 0, none⟩), x8, x9, l16, l18, l20, .agg #[.slice P R0.length p], y19, y21, X0, X1, X2, (by simp only [Act.put, List.setIfInBounds_toArray, List.set_cons_zero, List.set_cons_succ]), Lib.hid (Gb.setCell G.out hXw _), E0, E1, E2, Lib.hid hst, Lib.hid (J1.out.other hblk (fun h => (D01.out d6 h).symm) _), Lib.hid (J2.out.other hblk (fun h => (D02.out d6 h).symm) _), D01, D02, D12⟩
      · intro d _ w' h0 hd hJ K hK
        obtain ⟨x7, x8, x9, l16, l18, l20, y17, y19, y21, X0, X1, X2, hx, G, E0, E1, E2, J0, J1, J2, D01, D02, D12⟩ := hJ
        have G1 : Gb w1 w' := G.out
        have G2 : Gb w w' := ⟨HW1.out.trans (G1.out.mono HW1.out.size)⟩
        simp only [Act.put, List.setIfInBounds_toArray, List.set_cons_zero, List.set_cons_succ] at hx
        refine step_at hx ?_
        clear hx
        have d3 : d 3 = true := hd { on := 3, ground := Ground.data } (by simp) rfl
        have d7 : d 7 = true := hd { on := 7, ground := Ground.data } (by simp) rfl
        obtain ⟨P, p, rfl, rfl, hblk, hst⟩ := J1.out.store d3 d7 h0
        have hc := cell_of_row w' X1 0 _ _ _ hblk
        have hf := frozen_of_row w' X1 0 _ _ hblk
        have hXw := J1.out.lo d7
        clear hd
        go_simp
        refine hK.out _ _ ⟨x7, .pointer (some ⟨X1, 0, none⟩), x9, l16, l18, l20, y17, .agg #[.slice P R1.length p], y21, X0, X1, X2, (by simp only [Act.put, List.setIfInBounds_toArray, List.set_cons_zero, List.set_cons_succ]), Lib.hid (Gb.setCell G.out hXw _), E0, E1, E2, Lib.hid (J0.out.other hblk (fun h => (D01.out h d7)) _), Lib.hid hst, Lib.hid (J2.out.other hblk (fun h => (D12.out d7 h).symm) _), D01, D02, D12⟩
      · intro d _ w' h0 hd hJ K hK
        obtain ⟨x7, x8, x9, l16, l18, l20, y17, y19, y21, X0, X1, X2, hx, G, E0, E1, E2, J0, J1, J2, D01, D02, D12⟩ := hJ
        have G1 : Gb w1 w' := G.out
        have G2 : Gb w w' := ⟨HW1.out.trans (G1.out.mono HW1.out.size)⟩
        simp only [Act.put, List.setIfInBounds_toArray, List.set_cons_zero, List.set_cons_succ] at hx
        refine step_at hx ?_
        clear hx
        have d5 : d 5 = true := hd { on := 5, ground := Ground.data } (by simp) rfl
        have d8 : d 8 = true := hd { on := 8, ground := Ground.data } (by simp) rfl
        obtain ⟨P, p, rfl, rfl, hblk, hst⟩ := J2.out.store d5 d8 h0
        have hc := cell_of_row w' X2 0 _ _ _ hblk
        have hf := frozen_of_row w' X2 0 _ _ hblk
        have hXw := J2.out.lo d8
        clear hd
        go_simp
        refine hK.out _ _ ⟨x7, x8, .pointer (some ⟨X2, 0, none⟩), l16, l18, l20, y17, y19, .agg #[.slice P R2.length p], X0, X1, X2, (by simp only [Act.put, List.setIfInBounds_toArray, List.set_cons_zero, List.set_cons_succ]), Lib.hid (Gb.setCell G.out hXw _), E0, E1, E2, Lib.hid (J0.out.other hblk (fun h => (D02.out h d8)) _), Lib.hid (J1.out.other hblk (fun h => (D12.out h d8)) _), Lib.hid hst, D01, D02, D12⟩
    · intro d a2 w' hall hJ
      obtain ⟨x7, x8, x9, l16, l18, l20, y17, y19, y21, X0, X1, X2, hx, G, E0, E1, E2, J0, J1, J2, D01, D02, D12⟩ := hJ
      obtain ⟨P0, p0, rfl, rfl, hk0, hv0⟩ := J0.out.done (hall 9 (by decide))
      obtain ⟨P1, p1, rfl, rfl, hk1, hv1⟩ := J1.out.done (hall 10 (by decide))
      obtain ⟨P2, p2, rfl, rfl, hk2, hv2⟩ := J2.out.done (hall 11 (by decide))
      simp only [Act.put, List.setIfInBounds_toArray, List.set_cons_zero, List.set_cons_succ] at hx
      subst hx
      have G1 : Gb w1 w' := G.out
      skip
      go_wp2_with fail
      go_meet
      refine ⟨_, P0, p0, _, P1, p1, _, P2, p2, rfl, rfl, rfl, Lib.hid ⟨HW1.out.trans (G1.out.mono HW1.out.size), ?_, ?_, (fun _ h => nomatch h)⟩⟩
      · intro p hp
        simp only [List.mem_cons, List.not_mem_nil, or_false] at hp
        rcases hp with rfl | rfl | rfl
        · exact hk0
        · exact hk1
        · exact hk2
      · intro p hp
        simp only [List.mem_cons, List.not_mem_nil, or_false] at hp
        rcases hp with rfl | rfl | rfl
        · exact hv0
        · exact hv1
        · exact hv2
  case rest =>
    obtain ⟨X0, P0, p0, X1, P1, p1, X2, P2, p2, rfl, rfl, rfl, H2⟩ := hcut
    clear HS K0 K1 K2 hk00 hk01 hk10 hk11 hk20 hk21 F1 G1 CM0 CM1 CM2 hz1
    have e0 := HRn0.out
    have e1 := HRn1.out
    have e2 := HRn2.out
    subst e0 e1 e2
    clear HRn0 HRn1 HRn2
    have hA := HB0.out
    have hB := HB1.out
    have hC := HB2.out
    have hU := all_one 1048576 (by decide)
    obtain ⟨N1, c1, b1⟩ := ex_cmb fOr rfl hB hC
    obtain ⟨N2, c2, b2⟩ := ex_cmb fAnd rfl hA b1
    obtain ⟨N3, c3, b3⟩ := ex_cmb fAnd rfl hA hB
    obtain ⟨N4, c4, b4⟩ := ex_cmb fAnd rfl hA hC
    have c5 : Cmb fOr N3 N4 N2 := by
      refine ⟨c2.1, fun n => ?_⟩
      rw [← has_in, c2.has, c1.has, c3.has, c4.has]
      show (has n M0 && (has n M1 || has n M2)) = true ↔ (has n M0 && has n M1 || has n M0 && has n M2) = true
      cases has n M0 <;> cases has n M1 <;> cases has n M2 <;> simp
    obtain ⟨N6, c6, b6⟩ := ex_cmb fBut rfl hA hB
    have c7 : Cmb fBut M0 N6 N3 := by
      refine ⟨c3.1, fun n => ?_⟩
      rw [← has_in, c3.has, c6.has]
      show (has n M0 && has n M1) = true ↔ (has n M0 && !(has n M0 && !has n M1)) = true
      cases has n M0 <;> cases has n M1 <;> simp
    obtain ⟨Nn, cn, bn⟩ := ex_cmb fBut rfl hU hA
    have cm : Cmb fBut (allL 1048576) Nn M0 := by
      refine ⟨hA.nrm, fun n => ?_⟩
      rw [← has_in, cn.has]
      show has n M0 = true ↔ (has n (allL 1048576) && !(has n (allL 1048576) && !has n M0)) = true
      cases h : has n M0 with
      | true =>
        have := (has_in n _).2 ((all_in 1048576 n).2 ((isR_iff n).1 (hA.row n ((has_in n M0).1 h))))
        rw [this]; simp
      | false => cases has n (allL 1048576) <;> simp
    obtain ⟨N9, c9, b9⟩ := ex_cmb fBut rfl hB hA
    have c8 : Cmb fAnd M1 Nn N9 := by
      refine ⟨c9.1, fun n => ?_⟩
      rw [← has_in, c9.has, cn.has]
      show (has n M1 && !has n M0) = true ↔ (has n M1 && (has n (allL 1048576) && !has n M0)) = true
      cases h : has n M1 with
      | true =>
        have := (has_in n _).2 ((all_in 1048576 n).2 ((isR_iff n).1 (hB.row n ((has_in n M1).1 h))))
        rw [this]; simp
      | false => simp
    obtain ⟨N10, c10, b10⟩ := ex_cmb fOr rfl hA hB
    have hsub : ∀ n, has n N3 = true → has n M0 = true := fun n h => by
      rw [c3.has] at h
      have h2 : (has n M0 && has n M1) = true := h
      simp only [Bool.and_eq_true] at h2
      exact h2.1
    have q1 := cnt_not hA cn bn
    have q2 := cnt_sum hA hB c10 c3 b10 b3
    have BA := Lib.hid (hA.more (show _ ≤ 90000 by omega))
    have BB := Lib.hid (hB.more (show _ ≤ 90000 by omega))
    have BC := Lib.hid (hC.more (show _ ≤ 90000 by omega))
    have BN1 := Lib.hid (b1.more (show _ ≤ 90000 by omega))
    have BN2 := Lib.hid (b2.more (show _ ≤ 90000 by omega))
    have BN3 := Lib.hid (b3.more (show _ ≤ 90000 by omega))
    have BN4 := Lib.hid (b4.more (show _ ≤ 90000 by omega))
    have BN6 := Lib.hid (b6.more (show _ ≤ 90000 by omega))
    have BNn := Lib.hid (bn.more (show _ ≤ 90000 by omega))
    have BN9 := Lib.hid (b9.more (show _ ≤ 90000 by omega))
    have BN10 := Lib.hid (b10.more (show _ ≤ 90000 by omega))
    have Hc1 := Lib.hid c1
    have Hc2 := Lib.hid c2
    have Hc3 := Lib.hid c3
    have Hc4 := Lib.hid c4
    have Hc5 := Lib.hid c5
    have Hc6 := Lib.hid c6
    have Hc7 := Lib.hid c7
    have Hcn := Lib.hid cn
    have Hcm := Lib.hid cm
    have Hc8 := Lib.hid c8
    have Hc9 := Lib.hid c9
    have Hc10 := Lib.hid c10
    have HSub := Lib.hid hsub
    have CLA := Lib.hid (fun v W h => len_any (v := v) (L := rn M0) (by rw [rn_len]; exact BA.out.len) (rc_rb (bs_rc BA.out)) W h)
    obtain ⟨zA, hzA⟩ : ∃ z, z = cnt (rn M0) := ⟨_, rfl⟩
    rw [← hzA] at CLA
    have CLB := Lib.hid (fun v W h => len_any (v := v) (L := rn M1) (by rw [rn_len]; exact BB.out.len) (rc_rb (bs_rc BB.out)) W h)
    obtain ⟨zB, hzB⟩ : ∃ z, z = cnt (rn M1) := ⟨_, rfl⟩
    rw [← hzB] at CLB
    have CLNn := Lib.hid (fun v W h => len_any (v := v) (L := rn Nn) (by rw [rn_len]; exact BNn.out.len) (rc_rb (bs_rc BNn.out)) W h)
    obtain ⟨zNn, hzNn⟩ : ∃ z, z = cnt (rn Nn) := ⟨_, rfl⟩
    rw [← hzNn] at CLNn
    have CLN10 := Lib.hid (fun v W h => len_any (v := v) (L := rn N10) (by rw [rn_len]; exact BN10.out.len) (rc_rb (bs_rc BN10.out)) W h)
    obtain ⟨zN10, hzN10⟩ : ∃ z, z = cnt (rn N10) := ⟨_, rfl⟩
    rw [← hzN10] at CLN10
    have CLN3 := Lib.hid (fun v W h => len_any (v := v) (L := rn N3) (by rw [rn_len]; exact BN3.out.len) (rc_rb (bs_rc BN3.out)) W h)
    obtain ⟨zN3, hzN3⟩ : ∃ z, z = cnt (rn N3) := ⟨_, rfl⟩
    rw [← hzN3] at CLN3
    rw [← hzNn, ← hzA] at q1
    rw [← hzN10, ← hzN3, ← hzA, ← hzB] at q2
    have k1 := cnt_rc (bs_rc hA)
    have k2 := cnt_rc (bs_rc hB)
    have k3 := cnt_rc (bs_rc b3)
    have k4 := cnt_rc (bs_rc b10)
    rw [← hzA] at k1
    rw [← hzB] at k2
    rw [← hzN3] at k3
    rw [← hzN10] at k4
    rw [rn_len] at k1 k2 k3 k4
    have l1 := hA.len
    have l2 := hB.len
    have l3 := b3.len
    have l4 := b10.len
    have w1 : IntKind.i64.wrap (1048576 - zA) = 1048576 - zA := by simp only [IntKind.wrap_i64]; omega
    have w2 : IntKind.i64.wrap (zN10 + zN3) = zA + zB := by simp only [IntKind.wrap_i64]; omega
    have w3 : IntKind.i64.wrap (zA + zB) = zA + zB := by simp only [IntKind.wrap_i64]; omega
    clear k1 k2 k3 k4 l1 l2 l3 l4 q2 hzA hzB hzNn hzN10 hzN3 hsub
    clear hA hB hC hU b1 b2 b3 b4 b6 bn b9 b10 c1 c2 c3 c4 c5 c6 c7 cn cm c8 c9 c10 HB0 HB1 HB2
    go_wp2_with fail
    go_region_held3 (fun W => W.cell? ⟨X0, 0, none⟩ = some (.slice P0 (rn M0).length p0) ∧ W.cell? ⟨X1, 0, none⟩ = some (.slice P1 (rn M1).length p1) ∧ W.cell? ⟨X2, 0, none⟩ = some (.slice P2 (rn M2).length p2))
      (first | exact ⟨HH10.out.cell (.head _) 0, HH10.out.cell (.tail _ (.head _)) 0, HH10.out.cell (.tail _ (.tail _ (.head _))) 0⟩ | exact ⟨HH9.out.cell (.head _) 0, HH9.out.cell (.tail _ (.head _)) 0, HH9.out.cell (.tail _ (.tail _ (.head _))) 0⟩ | exact ⟨HH8.out.cell (.head _) 0, HH8.out.cell (.tail _ (.head _)) 0, HH8.out.cell (.tail _ (.tail _ (.head _))) 0⟩ | exact ⟨HH7.out.cell (.head _) 0, HH7.out.cell (.tail _ (.head _)) 0, HH7.out.cell (.tail _ (.tail _ (.head _))) 0⟩ | exact ⟨HH6.out.cell (.head _) 0, HH6.out.cell (.tail _ (.head _)) 0, HH6.out.cell (.tail _ (.tail _ (.head _))) 0⟩ | exact ⟨HH5.out.cell (.head _) 0, HH5.out.cell (.tail _ (.head _)) 0, HH5.out.cell (.tail _ (.tail _ (.head _))) 0⟩ | exact ⟨HH4.out.cell (.head _) 0, HH4.out.cell (.tail _ (.head _)) 0, HH4.out.cell (.tail _ (.tail _ (.head _))) 0⟩ | exact ⟨HH3.out.cell (.head _) 0, HH3.out.cell (.tail _ (.head _)) 0, HH3.out.cell (.tail _ (.tail _ (.head _))) 0⟩ | exact ⟨HH2.out.cell (.head _) 0, HH2.out.cell (.tail _ (.head _)) 0, HH2.out.cell (.tail _ (.tail _ (.head _))) 0⟩ | exact ⟨HH1.out.cell (.head _) 0, HH1.out.cell (.tail _ (.head _)) 0, HH1.out.cell (.tail _ (.tail _ (.head _))) 0⟩ | exact ⟨H2.out.drew.cell (.head _) 0, H2.out.drew.cell (.tail _ (.head _)) 0, H2.out.drew.cell (.tail _ (.tail _ (.head _))) 0⟩ | assumption)
      ((first
        | (go_at_call 39; have := HH9; refine (eq_true (rn N3) (by rw [rn_len]; have := BN3.out.len; omega) _ (HH9.out.set _ (.tail _ (.head _))) (HH9.out.set _ (.head _))).mono ?_; rintro e v10 ⟨rfl, hb⟩; have HH10 := Lib.hid (HH9.out.next hb); clear hb)
        | (go_at_call 33; have := HH8; refine (and_set BA.out BB.out Hc3.out _ (HH8.out.set _ (.tail _ (.tail _ (.tail _ (.tail _ (.tail _ (.tail _ (.tail _ (.head _))))))))) (HH8.out.set _ (.tail _ (.tail _ (.tail _ (.tail _ (.tail _ (.tail _ (.tail _ (.tail _ (.head _))))))))))).mono ?_; rintro e v9 ⟨⟨r, rfl, hr⟩, hb⟩; have HH9 := Lib.hid ((HH8.out.next hb).addV hr); obtain ⟨D9, d9, rfl, _, _, _, _⟩ := hr; clear hb)
        | (go_at_call 37; have := HH7; refine (but_set BA.out BN6.out Hc7.out _ (HH7.out.set _ (.tail _ (.tail _ (.tail _ (.tail _ (.tail _ (.tail _ (.head _)))))))) (HH7.out.set _ (.head _))).mono ?_; rintro e v8 ⟨⟨r, rfl, hr⟩, hb⟩; have HH8 := Lib.hid ((HH7.out.next hb).addV hr); obtain ⟨D8, d8, rfl, _, _, _, _⟩ := hr; clear hb)
        | (go_at_call 37; have := HH6; refine (but_set BA.out BB.out Hc6.out _ (HH6.out.set _ (.tail _ (.tail _ (.tail _ (.tail _ (.tail _ (.head _))))))) (HH6.out.set _ (.tail _ (.tail _ (.tail _ (.tail _ (.tail _ (.tail _ (.head _))))))))).mono ?_; rintro e v7 ⟨⟨r, rfl, hr⟩, hb⟩; have HH7 := Lib.hid ((HH6.out.next hb).addV hr); obtain ⟨D7, d7, rfl, _, _, _, _⟩ := hr; clear hb)
        | (go_at_call 39; have := HH5; refine (eq_true (rn N2) (by rw [rn_len]; have := BN2.out.len; omega) _ (HH5.out.set _ (.tail _ (.tail _ (.tail _ (.head _))))) (HH5.out.set _ (.head _))).mono ?_; rintro e v6 ⟨rfl, hb⟩; have HH6 := Lib.hid (HH5.out.next hb); clear hb)
        | (go_at_call 35; have := HH4; refine (or_set BN3.out BN4.out Hc5.out _ (HH4.out.set _ (.tail _ (.head _))) (HH4.out.set _ (.head _))).mono ?_; rintro e v5 ⟨⟨r, rfl, hr⟩, hb⟩; have HH5 := Lib.hid ((HH4.out.next hb).addV hr); obtain ⟨D5, d5, rfl, _, _, _, _⟩ := hr; clear hb)
        | (go_at_call 33; have := HH3; refine (and_set BA.out BC.out Hc4.out _ (HH3.out.set _ (.tail _ (.tail _ (.tail _ (.head _))))) (HH3.out.set _ (.tail _ (.tail _ (.tail _ (.tail _ (.tail _ (.head _)))))))).mono ?_; rintro e v4 ⟨⟨r, rfl, hr⟩, hb⟩; have HH4 := Lib.hid ((HH3.out.next hb).addV hr); obtain ⟨D4, d4, rfl, _, _, _, _⟩ := hr; clear hb)
        | (go_at_call 33; have := HH2; refine (and_set BA.out BB.out Hc3.out _ (HH2.out.set _ (.tail _ (.tail _ (.head _)))) (HH2.out.set _ (.tail _ (.tail _ (.tail _ (.head _)))))).mono ?_; rintro e v3 ⟨⟨r, rfl, hr⟩, hb⟩; have HH3 := Lib.hid ((HH2.out.next hb).addV hr); obtain ⟨D3, d3, rfl, _, _, _, _⟩ := hr; clear hb)
        | (go_at_call 33; have := HH1; refine (and_set BA.out BN1.out Hc2.out _ (HH1.out.set _ (.tail _ (.head _))) (HH1.out.set _ (.head _))).mono ?_; rintro e v2 ⟨⟨r, rfl, hr⟩, hb⟩; have HH2 := Lib.hid ((HH1.out.next hb).addV hr); obtain ⟨D2, d2, rfl, _, _, _, _⟩ := hr; clear hb)
        | (go_at_call 35; refine (or_set BB.out BC.out Hc1.out _ (H2.out.drew.set _ (.tail _ (.head _))) (H2.out.drew.set _ (.tail _ (.tail _ (.head _))))).mono ?_; rintro e v1 ⟨⟨r, rfl, hr⟩, hb⟩; have HH1 := Lib.hid ((H2.out.drew.next hb).addV hr); obtain ⟨D1, d1, rfl, _, _, _, _⟩ := hr; clear hb)
        | fail))
    have hc0 := HH10.out.cell (.head _) 0
    have hc1 := HH10.out.cell (.tail _ (.head _)) 0
    have hc2 := HH10.out.cell (.tail _ (.tail _ (.head _))) 0
    go_wp2_with fail
    refine (not_set BA.out 1048576 (by decide) Hcn.out _ (HH10.out.set _ (.tail _ (.tail _ (.tail _ (.tail _ (.tail _ (.tail _ (.tail _ (.tail _ (.head _))))))))))).mono ?_
    rintro e v11 ⟨⟨r, rfl, hr⟩, hb⟩
    have HH11 := Lib.hid ((HH10.out.next hb).addV hr)
    obtain ⟨D11, d11, rfl, _, _, _, _⟩ := hr
    clear hb
    clear hc0 hc1 hc2
    have HA11 := Lib.hid (HH11.out.alloc (.cells #[.slice D11 (rn Nn).length d11] 26) (Deep.blk_alloc_new v11 _))
    have ha11_0 := HH11.out.cell (.head _) 0
    have hl11_0 := HH11.out.lt (.head _)
    have ha11_1 := HH11.out.cell (.tail _ (.head _)) 0
    have hl11_1 := HH11.out.lt (.tail _ (.head _))
    have ha11_2 := HH11.out.cell (.tail _ (.tail _ (.head _))) 0
    have hl11_2 := HH11.out.lt (.tail _ (.tail _ (.head _)))
    go_wp2_with fail
    refine (not_set BNn.out 1048576 (by decide) Hcm.out _ (HA11.out.set _ (.head _))).mono ?_
    rintro e v12 ⟨⟨r, rfl, hr⟩, hb⟩
    have HH12 := Lib.hid ((HA11.out.next hb).addV hr)
    obtain ⟨D12, d12, rfl, _, _, _, _⟩ := hr
    clear hb
    clear ha11_0 hl11_0 ha11_1 hl11_1 ha11_2 hl11_2
    have HA12 := Lib.hid (HH12.out.alloc (.cells #[.slice D12 (rn M0).length d12] 26) (Deep.blk_alloc_new v12 _))
    have ha12_0 := HH12.out.cell (.head _) 0
    have hl12_0 := HH12.out.lt (.head _)
    have ha12_1 := HH12.out.cell (.tail _ (.head _)) 0
    have hl12_1 := HH12.out.lt (.tail _ (.head _))
    have ha12_2 := HH12.out.cell (.tail _ (.tail _ (.head _))) 0
    have hl12_2 := HH12.out.lt (.tail _ (.tail _ (.head _)))
    have ha12_3 := HH12.out.cell (.tail _ (.tail _ (.tail _ (.head _)))) 0
    have hl12_3 := HH12.out.lt (.tail _ (.tail _ (.tail _ (.head _))))
    go_wp2_with fail
    go_region_held3 (fun W => W.cell? ⟨v12.heap.size, 0, none⟩ = some (.slice D12 (rn M0).length d12) ∧ W.cell? ⟨v11.heap.size, 0, none⟩ = some (.slice D11 (rn Nn).length d11) ∧ W.cell? ⟨X0, 0, none⟩ = some (.slice P0 (rn M0).length p0) ∧ W.cell? ⟨X1, 0, none⟩ = some (.slice P1 (rn M1).length p1) ∧ W.cell? ⟨X2, 0, none⟩ = some (.slice P2 (rn M2).length p2))
      (first | exact ⟨HH26.out.cell (.head _) 0, HH26.out.cell (.tail _ (.head _)) 0, HH26.out.cell (.tail _ (.tail _ (.head _))) 0, HH26.out.cell (.tail _ (.tail _ (.tail _ (.head _)))) 0, HH26.out.cell (.tail _ (.tail _ (.tail _ (.tail _ (.head _))))) 0⟩ | exact ⟨HH25.out.cell (.head _) 0, HH25.out.cell (.tail _ (.head _)) 0, HH25.out.cell (.tail _ (.tail _ (.head _))) 0, HH25.out.cell (.tail _ (.tail _ (.tail _ (.head _)))) 0, HH25.out.cell (.tail _ (.tail _ (.tail _ (.tail _ (.head _))))) 0⟩ | exact ⟨HH24.out.cell (.head _) 0, HH24.out.cell (.tail _ (.head _)) 0, HH24.out.cell (.tail _ (.tail _ (.head _))) 0, HH24.out.cell (.tail _ (.tail _ (.tail _ (.head _)))) 0, HH24.out.cell (.tail _ (.tail _ (.tail _ (.tail _ (.head _))))) 0⟩ | exact ⟨HH23.out.cell (.head _) 0, HH23.out.cell (.tail _ (.head _)) 0, HH23.out.cell (.tail _ (.tail _ (.head _))) 0, HH23.out.cell (.tail _ (.tail _ (.tail _ (.head _)))) 0, HH23.out.cell (.tail _ (.tail _ (.tail _ (.tail _ (.head _))))) 0⟩ | exact ⟨HH22.out.cell (.head _) 0, HH22.out.cell (.tail _ (.head _)) 0, HH22.out.cell (.tail _ (.tail _ (.head _))) 0, HH22.out.cell (.tail _ (.tail _ (.tail _ (.head _)))) 0, HH22.out.cell (.tail _ (.tail _ (.tail _ (.tail _ (.head _))))) 0⟩ | exact ⟨HH21.out.cell (.head _) 0, HH21.out.cell (.tail _ (.head _)) 0, HH21.out.cell (.tail _ (.tail _ (.head _))) 0, HH21.out.cell (.tail _ (.tail _ (.tail _ (.head _)))) 0, HH21.out.cell (.tail _ (.tail _ (.tail _ (.tail _ (.head _))))) 0⟩ | exact ⟨HH20.out.cell (.head _) 0, HH20.out.cell (.tail _ (.head _)) 0, HH20.out.cell (.tail _ (.tail _ (.head _))) 0, HH20.out.cell (.tail _ (.tail _ (.tail _ (.head _)))) 0, HH20.out.cell (.tail _ (.tail _ (.tail _ (.tail _ (.head _))))) 0⟩ | exact ⟨HH19.out.cell (.head _) 0, HH19.out.cell (.tail _ (.head _)) 0, HH19.out.cell (.tail _ (.tail _ (.head _))) 0, HH19.out.cell (.tail _ (.tail _ (.tail _ (.head _)))) 0, HH19.out.cell (.tail _ (.tail _ (.tail _ (.tail _ (.head _))))) 0⟩ | exact ⟨HH18.out.cell (.head _) 0, HH18.out.cell (.tail _ (.head _)) 0, HH18.out.cell (.tail _ (.tail _ (.head _))) 0, HH18.out.cell (.tail _ (.tail _ (.tail _ (.head _)))) 0, HH18.out.cell (.tail _ (.tail _ (.tail _ (.tail _ (.head _))))) 0⟩ | exact ⟨HH17.out.cell (.head _) 0, HH17.out.cell (.tail _ (.head _)) 0, HH17.out.cell (.tail _ (.tail _ (.head _))) 0, HH17.out.cell (.tail _ (.tail _ (.tail _ (.head _)))) 0, HH17.out.cell (.tail _ (.tail _ (.tail _ (.tail _ (.head _))))) 0⟩ | exact ⟨HH16.out.cell (.head _) 0, HH16.out.cell (.tail _ (.head _)) 0, HH16.out.cell (.tail _ (.tail _ (.head _))) 0, HH16.out.cell (.tail _ (.tail _ (.tail _ (.head _)))) 0, HH16.out.cell (.tail _ (.tail _ (.tail _ (.tail _ (.head _))))) 0⟩ | exact ⟨HH15.out.cell (.head _) 0, HH15.out.cell (.tail _ (.head _)) 0, HH15.out.cell (.tail _ (.tail _ (.head _))) 0, HH15.out.cell (.tail _ (.tail _ (.tail _ (.head _)))) 0, HH15.out.cell (.tail _ (.tail _ (.tail _ (.tail _ (.head _))))) 0⟩ | exact ⟨HH14.out.cell (.head _) 0, HH14.out.cell (.tail _ (.head _)) 0, HH14.out.cell (.tail _ (.tail _ (.head _))) 0, HH14.out.cell (.tail _ (.tail _ (.tail _ (.head _)))) 0, HH14.out.cell (.tail _ (.tail _ (.tail _ (.tail _ (.head _))))) 0⟩ | exact ⟨HH13.out.cell (.head _) 0, HH13.out.cell (.tail _ (.head _)) 0, HH13.out.cell (.tail _ (.tail _ (.head _))) 0, HH13.out.cell (.tail _ (.tail _ (.tail _ (.head _)))) 0, HH13.out.cell (.tail _ (.tail _ (.tail _ (.tail _ (.head _))))) 0⟩ | exact ⟨HA12.out.drew.cell (.head _) 0, HA12.out.drew.cell (.tail _ (.head _)) 0, HA12.out.drew.cell (.tail _ (.tail _ (.head _))) 0, HA12.out.drew.cell (.tail _ (.tail _ (.tail _ (.head _)))) 0, HA12.out.drew.cell (.tail _ (.tail _ (.tail _ (.tail _ (.head _))))) 0⟩ | assumption)
      ((first
        | (go_at_call 21; have := HH25; refine (CLB.out _ _ (HH25.out.set _ (.tail _ (.tail _ (.tail _ (.tail _ (.tail _ (.tail _ (.tail _ (.tail _ (.tail _ (.tail _ (.tail _ (.tail _ (.tail _ (.tail _ (.tail _ (.tail _ (.head _))))))))))))))))))).mono ?_; rintro e v26 ⟨rfl, hb⟩; have HH26 := Lib.hid (HH25.out.next hb); clear hb)
        | (go_at_call 21; have := HH24; refine (CLA.out _ _ (HH24.out.set _ (.tail _ (.tail _ (.tail _ (.tail _ (.tail _ (.tail _ (.tail _ (.tail _ (.tail _ (.tail _ (.tail _ (.tail _ (.tail _ (.tail _ (.tail _ (.head _)))))))))))))))))).mono ?_; rintro e v25 ⟨rfl, hb⟩; have HH25 := Lib.hid (HH24.out.next hb); clear hb)
        | (go_at_call 21; have := HH23; refine (CLN3.out _ _ (HH23.out.set _ (.head _))).mono ?_; rintro e v24 ⟨rfl, hb⟩; have HH24 := Lib.hid (HH23.out.next hb); clear hb)
        | (go_at_call 33; have := HH22; refine (and_set BA.out BB.out Hc3.out _ (HH22.out.set _ (.tail _ (.tail _ (.tail _ (.tail _ (.tail _ (.tail _ (.tail _ (.tail _ (.tail _ (.tail _ (.tail _ (.tail _ (.tail _ (.tail _ (.head _)))))))))))))))) (HH22.out.set _ (.tail _ (.tail _ (.tail _ (.tail _ (.tail _ (.tail _ (.tail _ (.tail _ (.tail _ (.tail _ (.tail _ (.tail _ (.tail _ (.tail _ (.tail _ (.head _)))))))))))))))))).mono ?_; rintro e v23 ⟨⟨r, rfl, hr⟩, hb⟩; have HH23 := Lib.hid ((HH22.out.next hb).addV hr); obtain ⟨D23, d23, rfl, _, _, _, _⟩ := hr; clear hb)
        | (go_at_call 21; have := HH21; refine (CLN10.out _ _ (HH21.out.set _ (.head _))).mono ?_; rintro e v22 ⟨rfl, hb⟩; have HH22 := Lib.hid (HH21.out.next hb); clear hb)
        | (go_at_call 35; have := HH20; refine (or_set BA.out BB.out Hc10.out _ (HH20.out.set _ (.tail _ (.tail _ (.tail _ (.tail _ (.tail _ (.tail _ (.tail _ (.tail _ (.tail _ (.tail _ (.tail _ (.tail _ (.tail _ (.head _))))))))))))))) (HH20.out.set _ (.tail _ (.tail _ (.tail _ (.tail _ (.tail _ (.tail _ (.tail _ (.tail _ (.tail _ (.tail _ (.tail _ (.tail _ (.tail _ (.tail _ (.head _))))))))))))))))).mono ?_; rintro e v21 ⟨⟨r, rfl, hr⟩, hb⟩; have HH21 := Lib.hid ((HH20.out.next hb).addV hr); obtain ⟨D21, d21, rfl, _, _, _, _⟩ := hr; clear hb)
        | (go_at_call 41; have := HH19; refine (sub_true BN3.out BA.out HSub.out _ (HH19.out.set _ (.head _)) (HH19.out.set _ (.tail _ (.tail _ (.tail _ (.tail _ (.tail _ (.tail _ (.tail _ (.tail _ (.tail _ (.tail _ (.tail _ (.tail _ (.tail _ (.head _)))))))))))))))).mono ?_; rintro e v20 ⟨rfl, hb⟩; have HH20 := Lib.hid (HH19.out.next hb); clear hb)
        | (go_at_call 33; have := HH18; refine (and_set BA.out BB.out Hc3.out _ (HH18.out.set _ (.tail _ (.tail _ (.tail _ (.tail _ (.tail _ (.tail _ (.tail _ (.tail _ (.tail _ (.tail _ (.tail _ (.tail _ (.head _)))))))))))))) (HH18.out.set _ (.tail _ (.tail _ (.tail _ (.tail _ (.tail _ (.tail _ (.tail _ (.tail _ (.tail _ (.tail _ (.tail _ (.tail _ (.tail _ (.head _)))))))))))))))).mono ?_; rintro e v19 ⟨⟨r, rfl, hr⟩, hb⟩; have HH19 := Lib.hid ((HH18.out.next hb).addV hr); obtain ⟨D19, d19, rfl, _, _, _, _⟩ := hr; clear hb)
        | (go_at_call 39; have := HH17; refine (eq_true (rn N9) (by rw [rn_len]; have := BN9.out.len; omega) _ (HH17.out.set _ (.tail _ (.head _))) (HH17.out.set _ (.head _))).mono ?_; rintro e v18 ⟨rfl, hb⟩; have HH18 := Lib.hid (HH17.out.next hb); clear hb)
        | (go_at_call 37; have := HH16; refine (but_set BB.out BA.out Hc9.out _ (HH16.out.set _ (.tail _ (.tail _ (.tail _ (.tail _ (.tail _ (.tail _ (.tail _ (.tail _ (.tail _ (.tail _ (.tail _ (.tail _ (.head _)))))))))))))) (HH16.out.set _ (.tail _ (.tail _ (.tail _ (.tail _ (.tail _ (.tail _ (.tail _ (.tail _ (.tail _ (.tail _ (.tail _ (.head _)))))))))))))).mono ?_; rintro e v17 ⟨⟨r, rfl, hr⟩, hb⟩; have HH17 := Lib.hid ((HH16.out.next hb).addV hr); obtain ⟨D17, d17, rfl, _, _, _, _⟩ := hr; clear hb)
        | (go_at_call 33; have := HH15; refine (and_set BB.out BNn.out Hc8.out _ (HH15.out.set _ (.tail _ (.tail _ (.tail _ (.tail _ (.tail _ (.tail _ (.tail _ (.tail _ (.tail _ (.tail _ (.tail _ (.head _))))))))))))) (HH15.out.set _ (.tail _ (.head _)))).mono ?_; rintro e v16 ⟨⟨r, rfl, hr⟩, hb⟩; have HH16 := Lib.hid ((HH15.out.next hb).addV hr); obtain ⟨D16, d16, rfl, _, _, _, _⟩ := hr; clear hb)
        | (go_at_call 21; have := HH14; refine (CLA.out _ _ (HH14.out.set _ (.tail _ (.tail _ (.tail _ (.tail _ (.tail _ (.tail _ (.tail _ (.tail _ (.tail _ (.tail _ (.head _))))))))))))).mono ?_; rintro e v15 ⟨rfl, hb⟩; have HH15 := Lib.hid (HH14.out.next hb); clear hb)
        | (go_at_call 21; have := HH13; refine (CLNn.out _ _ (HH13.out.set _ (.tail _ (.head _)))).mono ?_; rintro e v14 ⟨rfl, hb⟩; have HH14 := Lib.hid (HH13.out.next hb); clear hb)
        | (go_at_call 39; refine (eq_true (rn M0) (by rw [rn_len]; have := BA.out.len; omega) _ (HA12.out.drew.set _ (.head _)) (HA12.out.drew.set _ (.tail _ (.tail _ (.tail _ (.tail _ (.tail _ (.tail _ (.tail _ (.tail _ (.tail _ (.tail _ (.head _))))))))))))).mono ?_; rintro e v13 ⟨rfl, hb⟩; have HH13 := Lib.hid (HA12.out.drew.next hb); clear hb)
        | fail))
    go_wp2_with fail
    go_ret
    exact ⟨by simp, HH26.out.out⟩
set_option maxRecDepth 100000 in
theorem lifted (os : Os) (started : os.Started) (H : Type) (enc : TypeId × Value → H) :
    ReturnsInHanded {} Try.checked os 9 .any (Rows.bitmapLawsSpec.pre6 enc Try.prog Try.f9 Rows.bitmapLawsRow.domain false) (Rows.bitmapLawsSpec.post enc Try.prog Try.f9 false true false false) := by
  refine returnsInHanded_of_change (C := Try.checked) own started (by kernel_rfl) Try.func9
    (ChangeSpec.witness6 (enc := enc) (C := Try.checked) false ⟨#[], #[.agg #[.int .u16 0, .slice none 0 0], .agg #[.int .u16 0, .slice none 0 0], .agg #[.int .u16 0, .slice none 0 0]], []⟩ 8 (by kernel_rfl) (by kernel_rfl) (by kernel_rfl) (by kernel_rfl)) ?_
  intro W base args ds gs before hval0 hW _ _
  have hval : ∀ (j : Nat) t v, Try.f9.params[j]? = some t → args[j]? = some v → Value.okWide Try.prog W .any base t v := hval0
  have hW' := hW
  obtain ⟨p, q, hA0, hV, rfl, _, _⟩ := hW
  have hA : DataW.TrodAll enc Try.prog W 0 (fun _ => true) true Try.f9.params.toList args.toList ds p := hA0
  rw [Try.params9] at hA hval
  obtain ⟨v0, vs0, d0, ds0, p0, q0, hargs0, rfl, rfl, h0, r0⟩ := trodAll_cons hA
  obtain ⟨v1, vs1, d1, ds1, p1, q1, hargs1, rfl, rfl, h1, r1⟩ := trodAll_cons r0
  obtain ⟨v2, vs2, d2, ds2, p2, q2, hargs2, rfl, rfl, h2, r2⟩ := trodAll_cons r1
  obtain ⟨rfl, rfl, rfl⟩ := trodAll_nil r2
  obtain rfl : args = #[v0, v1, v2] := by cases args; simp_all
  obtain ⟨rfl, rfl⟩ := trodVars_none hV
  have lt0 : ∀ x ∈ p0, x.block < W.heap.size := fun x hx => hW'.lt x (by simp [hx])
  obtain ⟨b0, A0, c0, L0, rfl, hb0, hL0, hs0, hR0⟩ := open_set (hval 0 36 v0 rfl rfl) h0 lt0
  have lt1 : ∀ x ∈ p1, x.block < W.heap.size := fun x hx => hW'.lt x (by simp [hx])
  obtain ⟨b1, A1, c1, L1, rfl, hb1, hL1, hs1, hR1⟩ := open_set (hval 1 36 v1 rfl rfl) h1 lt1
  have lt2 : ∀ x ∈ p2, x.block < W.heap.size := fun x hx => hW'.lt x (by simp [hx])
  obtain ⟨b2, A2, c2, L2, rfl, hb2, hL2, hs2, hR2⟩ := open_set (hval 2 36 v2 rfl rfl) h2 lt2
  clear hA0 hval0
  simp only [List.append_nil] at hW'
  refine (walk W b0 hb0 A0 c0 L0 hL0 hs0 hR0 b1 hb1 A1 c1 L1 hL1 hs1 hR1 b2 hb2 A2 c2 L2 hL2 hs2 hR2).mono fun e W' ⟨he, hb⟩ => ?_
  subst he
  exact ⟨_, rfl, post_mem hW' hb (fun _ _ _ => trodAll_mk1 (shut_bool Try.underlying4 _)) (fun sp hsp => by
    have t := trodAll_cons_mk (carry laidOut (by kernel_rfl) (of_decide_eq_true (by kernel_rfl)) h0 hb lt0 sp (fun x hx => hsp x (by simp [hx]))) (trodAll_cons_mk (carry laidOut (by kernel_rfl) (of_decide_eq_true (by kernel_rfl)) h1 hb lt1 sp (fun x hx => hsp x (by simp [hx]))) (trodAll_cons_mk (carry laidOut (by kernel_rfl) (of_decide_eq_true (by kernel_rfl)) h2 hb lt2 sp (fun x hx => hsp x (by simp [hx]))) trodAll_mk0))
    simp only [List.append_nil] at t
    exact t) (fun _ => rfl) (ok_one (by kernel_rfl) rfl (okWide_bool_mk Try.underlying4 _))⟩

theorem proved : Rows.BitmapLawsSaid :=
  OpenClaim.holds_of_wide 9 Try.f9 rfl rfl rfl rfl rfl rfl rfl ⟨rfl, rfl, rfl, rfl, rfl⟩ rfl rfl rfl rfl rfl (by kernel_rfl) Try.func9 (by kernel_rfl)
    (of_decide_eq_true (by kernel_rfl)) (by unfold Func.isWrapper; first | (rw [if_pos (by decide +kernel)]; kernel_rfl) | (rw [if_neg (by decide +kernel)]; exact ⟨rfl, rfl⟩))
    (fun os started H enc _ => lifted os started H enc)

end Go.Proofs.Ytacgomhegjilgaa.lawLaws
