/- HeavyhitterEquals: for any two numbers and two lists of items the law returns true (written by wip/bin/gen_le22.py). No condition. -/
import Derived.Test.YtdcfhnpnfamdaaaHw
import Derived.Deep.RegionHeld3
import Derived.Deep.DeepCutAuto
namespace Go.Proofs.Ytdcfhnpnfamdaaa.lawEquals
open Go.ChangeShapes Go.WideShapes Go.ChangeAt Go.RowKit Go.Joins

set_option maxRecDepth 100000 in
set_option maxHeartbeats 8000000 in
theorem walk (w : World) (a0 : Int) (wa0 : (Lit.int .u8 a0).wf = true) (a1 : Int) (wa1 : (Lit.int .u8 a1).wf = true) (A : Option Addr) (c : Nat) (L : List It) (hL : L.length ≤ 9223372036854775807) (_hc : L.length ≤ c) (_hn : A = none → c = 0) (hok : ∀ x ∈ L, ItOk x) (hR : IR w A L) (B : Option Addr) (e : Nat) (M : List It) (hM : M.length ≤ 9223372036854775807) (_he : M.length ≤ e) (_hm : B = none → e = 0) (hok2 : ∀ x ∈ M, ItOk x) (hR2 : IR w B M) :
    Calls Try.prog 12 #[.agg #[.int .u8 a0, .int .u8 a1], .slice A L.length c, .slice B M.length e] w fun e w' => e = .returned (.bool true) ∧ Below w.heap.size w w' := by
  obtain ⟨n0, rfl⟩ : ∃ n : Nat, a0 = (n : Int) := ⟨a0.toNat, by have := bd8 wa0; omega⟩
  have hn0 : n0 ≤ 255 := by have := bd8 wa0; omega
  obtain ⟨n1, rfl⟩ : ∃ n : Nat, a1 = (n : Int) := ⟨a1.toNat, by have := bd8 wa1; omega⟩
  have hn1 : n1 ≤ 255 := by have := bd8 wa1; omega
  clear wa0 wa1
  have HSb : Hid ((Try.prog.info? 24).map (fun i => i.size) = some 4) := Lib.hid (by kernel_rfl)
  have HM0 := Lib.hid (fun W => most_any n0 hn0 W)
  have HM1 := Lib.hid (fun W => most_any n1 hn1 W)
  have hmo0 := mo_bd n0
  have hmo1 := mo_bd n1
  obtain ⟨m0, hm0⟩ : ∃ m, m = moN n0 := ⟨_, rfl⟩
  obtain ⟨m1, hm1⟩ : ∃ m, m = moN n1 := ⟨_, rfl⟩
  rw [← hm0] at HM0 hmo0
  rw [← hm1] at HM1 hmo1
  have HI0 := Lib.hid hR
  have HI1 := Lib.hid hR2
  have HC0 := Lib.hid (fun W h => stream_let m0 ⟨by omega, by omega⟩ A c L hL hok W h)
  have HC1 := Lib.hid (fun W h => stream_let m1 ⟨by omega, by omega⟩ B e M hM hok2 W h)
  obtain ⟨mo0, to0, lo0, cs0, q00, hs0, hg0, q01, q02, q03, _⟩ := HC0.out w hR
  obtain ⟨mo1, to1, lo1, cs1, q10, hs1, hg1, q11, q12, q13, _⟩ := HC1.out w hR2
  have HC0' : Hid (∀ W, IR W A L → Calls Try.prog 18 #[.int .i64 m0, .slice A L.length c] W fun e w' => (∃ A' c', e = .returned (.agg #[.int .i64 mo0, .int .i64 to0, .int .i64 lo0, .slice A' cs0.length c']) ∧ SlV w' (.slice A' cs0.length c') cs0 ∧ Flat A') ∧ Below W.heap.size W w') := Lib.hid (fun W h => by
    obtain ⟨x0, x1, x2, x3, y0, _, _, _, _, _, hc⟩ := HC0.out W h
    have e := y0.trans q00.symm
    injection e with e0 e1 e2 e3
    subst e0 e1 e2 e3
    exact hc)
  have HC1' : Hid (∀ W, IR W B M → Calls Try.prog 18 #[.int .i64 m1, .slice B M.length e] W fun e w' => (∃ A' c', e = .returned (.agg #[.int .i64 mo1, .int .i64 to1, .int .i64 lo1, .slice A' cs1.length c']) ∧ SlV w' (.slice A' cs1.length c') cs1 ∧ Flat A') ∧ Below W.heap.size W w') := Lib.hid (fun W h => by
    obtain ⟨x0, x1, x2, x3, y0, _, _, _, _, _, hc⟩ := HC1.out W h
    have e := y0.trans q10.symm
    injection e with e0 e1 e2 e3
    subst e0 e1 e2 e3
    exact hc)
  have HS0 := Lib.hid hs0
  have HS1 := Lib.hid hs1
  obtain ⟨ln, hln⟩ : ∃ ln, ln = L.length := ⟨_, rfl⟩
  obtain ⟨lm, hlm⟩ : ∃ lm, lm = M.length := ⟨_, rfl⟩
  rw [← hln] at HC0' ⊢
  rw [← hlm] at HC1' ⊢
  clear hR hR2 hok hok2 hm0 hm1 hL hM hln hlm q00 q01 q02 q03 q10 q11 q12 q13 hs0 hs1 hg0 hg1 hmo0 hmo1 HC0 HC1
  go_enter Try.func12, Try.ntmps12
  obtain ⟨W0, hW0⟩ : ∃ W0, W0 = w.alloc (.cells #[.int .u8 (n0 : Int), .int .u8 (n1 : Int)] 50) := ⟨_, rfl⟩
  have HB0 : Hid (Below w.heap.size w W0) := Lib.hid (by rw [hW0]; exact (Below.refl _ _).alloc (Nat.le_refl _) _)
  have HP0 : Hid (W0.heap[w.heap.size]? = some (.cells #[.int .u8 (n0 : Int), .int .u8 (n1 : Int)] 50 (0, 0))) := Lib.hid (by rw [hW0]; exact Deep.blk_alloc_new _ _)
  have HW0 := Lib.hid hW0
  clear hW0
  go_wp2_with fail
  rw [← HW0.out]
  refine (known_any _).mono ?_
  rintro e9 w1 ⟨rfl, hb⟩
  have HB := Lib.hid (HB0.out.trans (hb.mono HB0.out.size))
  have HP := Lib.hid ((hb.block _ (Array.getElem?_eq_some_iff.1 HP0.out).1).trans HP0.out)
  replace HI0 := Lib.hid (HI0.out.below HB.out)
  replace HI1 := Lib.hid (HI1.out.below HB.out)
  clear hb HB0 HP0 HW0
  have HS : Hid (∀ W, Below w1.heap.size w1 W → W.cell? ⟨w.heap.size, 0, none⟩ = some (.int .u8 (n0 : Int)) ∧ W.cell? ⟨w.heap.size, 1, none⟩ = some (.int .u8 (n1 : Int))) := Lib.hid (fun W h => by
    have hg := (h.block _ (Array.getElem?_eq_some_iff.1 HP.out).1).trans HP.out
    exact ⟨cell_of_row _ _ 0 _ _ _ hg, cell_of_row _ _ 1 _ _ _ hg⟩)
  have HK0 := Lib.hid (fun W (h : Below w1.heap.size w1 W) => HC0'.out W (HI0.out.below h))
  have HK1 := Lib.hid (fun W (h : Below w1.heap.size w1 W) => HC1'.out W (HI1.out.below h))
  go_upto_region 3 with fail
  go_cut [7, 8] (fun s7 s8 wx => ∃ (Y0 : Nat) (P0 : Option Addr) (p0 : Nat) (Y1 : Nat) (P1 : Option Addr) (p1 : Nat), s7 = .pointer (some ⟨Y0, 0, none⟩) ∧ s8 = .pointer (some ⟨Y1, 0, none⟩) ∧ Hid (Below w1.heap.size w1 wx) ∧ Hid (wx.heap[Y0]? = some (.cells #[.int .i64 mo0, .int .i64 to0, .int .i64 lo0, .slice P0 cs0.length p0] 24 (0, 0))) ∧ Hid (SlV wx (.slice P0 cs0.length p0) cs0) ∧ Hid (Flat P0) ∧ Hid (wx.heap[Y1]? = some (.cells #[.int .i64 mo1, .int .i64 to1, .int .i64 lo1, .slice P1 cs1.length p1] 24 (0, 0))) ∧ Hid (SlV wx (.slice P1 cs1.length p1) cs1) ∧ Hid (Flat P1))
  case first =>
    refine wp_region_inv (fun a0 w0 d a' w' => ∃ (e12 e13 e14 e15 y16 e17 e18 e19 e20 y21 x7 x8 : Value) (X0 X1 : Nat), a' = ((((((((((((a0.put (some 12) e12).put (some 13) e13).put (some 14) e14).put (some 15) e15).put (some 16) y16).put (some 17) e17).put (some 18) e18).put (some 19) e19).put (some 20) e20).put (some 21) y21).put (some 7) x7).put (some 8) x8) ∧ Hid (Below w0.heap.size w0 w') ∧ Hid (d 0 = true → e12 = .pointer (some ⟨w.heap.size, 0, none⟩)) ∧ Hid (d 1 = true → e13 = .int .u8 (n0 : Int)) ∧ Hid (d 2 = true → e14 = .int .i64 m0) ∧ Hid (d 3 = true → e15 = .slice A ln c) ∧ Hid (d 5 = true → e17 = .pointer (some ⟨w.heap.size, 1, none⟩)) ∧ Hid (d 6 = true → e18 = .int .u8 (n1 : Int)) ∧ Hid (d 7 = true → e19 = .int .i64 m1) ∧ Hid (d 8 = true → e20 = .slice B lm e) ∧ Hid (Js w0.heap.size ⟨mo0, to0, lo0, cs0⟩ (d 4) (d 10) (d 12) x7 y16 X0 w') ∧ Hid (Js w0.heap.size ⟨mo1, to1, lo1, cs1⟩ (d 9) (d 11) (d 13) x8 y21 X1 w') ∧ Hid (Dj (d 10) (d 11) X0 X1)) (by kernel_rfl) (by kernel_rfl) ?_ ?_ ?_
    · exact ⟨undef, undef, undef, undef, undef, undef, undef, undef, undef, undef, undef, undef, 0, 0, (by simp only [Act.put, List.setIfInBounds_toArray, List.set_cons_zero, List.set_cons_succ]), Lib.hid (Below.drew (Below.refl _ _)), Lib.hid (fun h => nomatch h), Lib.hid (fun h => nomatch h), Lib.hid (fun h => nomatch h), Lib.hid (fun h => nomatch h), Lib.hid (fun h => nomatch h), Lib.hid (fun h => nomatch h), Lib.hid (fun h => nomatch h), Lib.hid (fun h => nomatch h), Lib.hid Js.start, Lib.hid Js.start, Lib.hid (fun h => nomatch h)⟩
    · refine ⟨?_, ?_, ?_, ?_, ?_, ?_, ?_, ?_, ?_, ?_, ?_, ?_, ?_, ?_, trivial⟩
      · intro d _ w' h0 hd hJ K hK
        obtain ⟨e12, e13, e14, e15, y16, e17, e18, e19, e20, y21, x7, x8, X0, X1, hx, G, E0, E1, E2, E3, E5, E6, E7, E8, J0, J1, D01⟩ := hJ
        have G1 : Below w1.heap.size w1 w' := G.out
        simp only [Act.put, List.setIfInBounds_toArray, List.set_cons_zero, List.set_cons_succ] at hx
        refine step_at hx ?_
        clear hx
        clear hd h0 G1
        go_simp
        refine hK.out _ _ ⟨.pointer (some ⟨w.heap.size, 0, none⟩), e13, e14, e15, y16, e17, e18, e19, e20, y21, x7, x8, X0, X1, (by simp only [Act.put, List.setIfInBounds_toArray, List.set_cons_zero, List.set_cons_succ]), G, Lib.hid (fun _ => rfl), E1, E2, E3, E5, E6, E7, E8, J0, J1, D01⟩
      · intro d _ w' h0 hd hJ K hK
        obtain ⟨e12, e13, e14, e15, y16, e17, e18, e19, e20, y21, x7, x8, X0, X1, hx, G, E0, E1, E2, E3, E5, E6, E7, E8, J0, J1, D01⟩ := hJ
        have G1 : Below w1.heap.size w1 w' := G.out
        simp only [Act.put, List.setIfInBounds_toArray, List.set_cons_zero, List.set_cons_succ] at hx
        refine step_at hx ?_
        clear hx
        have d0 : d 0 = true := hd { on := 0, ground := Ground.data } (by simp) rfl
        obtain rfl := E0.out d0
        have G9 := HS.out w' G1
        have G := Lib.hid G.out
        obtain ⟨c0, c1⟩ := G9
        clear hd h0 G1
        go_simp
        refine hK.out _ _ ⟨.pointer (some ⟨w.heap.size, 0, none⟩), .int .u8 (n0 : Int), e14, e15, y16, e17, e18, e19, e20, y21, x7, x8, X0, X1, (by simp only [Act.put, List.setIfInBounds_toArray, List.set_cons_zero, List.set_cons_succ]), G, Lib.hid (fun _ => rfl), Lib.hid (fun _ => rfl), E2, E3, E5, E6, E7, E8, J0, J1, D01⟩
      · intro d _ w' h0 hd hJ K hK
        obtain ⟨e12, e13, e14, e15, y16, e17, e18, e19, e20, y21, x7, x8, X0, X1, hx, G, E0, E1, E2, E3, E5, E6, E7, E8, J0, J1, D01⟩ := hJ
        have G1 : Below w1.heap.size w1 w' := G.out
        simp only [Act.put, List.setIfInBounds_toArray, List.set_cons_zero, List.set_cons_succ] at hx
        refine step_at hx ?_
        clear hx
        have d1 : d 1 = true := hd { on := 1, ground := Ground.data } (by simp) rfl
        obtain rfl := E1.out d1
        clear hd
        go_simp
        refine (HM0.out _).mono ?_
        rintro e w9 ⟨rfl, rfl⟩
        refine hK.out _ _ ⟨e12, .int .u8 (n0 : Int), .int .i64 m0, e15, y16, e17, e18, e19, e20, y21, x7, x8, X0, X1, (by simp only [Act.put, List.setIfInBounds_toArray, List.set_cons_zero, List.set_cons_succ]), G, E0, Lib.hid (fun _ => rfl), Lib.hid (fun _ => rfl), E3, E5, E6, E7, E8, J0, J1, D01⟩
      · intro d _ w' h0 hd hJ K hK
        obtain ⟨e12, e13, e14, e15, y16, e17, e18, e19, e20, y21, x7, x8, X0, X1, hx, G, E0, E1, E2, E3, E5, E6, E7, E8, J0, J1, D01⟩ := hJ
        have G1 : Below w1.heap.size w1 w' := G.out
        simp only [Act.put, List.setIfInBounds_toArray, List.set_cons_zero, List.set_cons_succ] at hx
        refine step_at hx ?_
        clear hx
        clear hd h0 G1
        go_simp
        refine hK.out _ _ ⟨e12, e13, e14, .slice A ln c, y16, e17, e18, e19, e20, y21, x7, x8, X0, X1, (by simp only [Act.put, List.setIfInBounds_toArray, List.set_cons_zero, List.set_cons_succ]), G, E0, E1, E2, Lib.hid (fun _ => rfl), E5, E6, E7, E8, J0, J1, D01⟩
      · intro d _ w' h0 hd hJ K hK
        obtain ⟨e12, e13, e14, e15, y16, e17, e18, e19, e20, y21, x7, x8, X0, X1, hx, G, E0, E1, E2, E3, E5, E6, E7, E8, J0, J1, D01⟩ := hJ
        have G1 : Below w1.heap.size w1 w' := G.out
        simp only [Act.put, List.setIfInBounds_toArray, List.set_cons_zero, List.set_cons_succ] at hx
        refine step_at hx ?_
        clear hx
        have d2 : d 2 = true := hd { on := 2, ground := Ground.data } (by simp) rfl
        obtain rfl := E2.out d2
        have d3 : d 3 = true := hd { on := 3, ground := Ground.data } (by simp) rfl
        obtain rfl := E3.out d3
        clear hd
        go_simp
        refine (HK0.out _ G1).mono ?_
        rintro e v ⟨⟨P, p, rfl, hr, hf⟩, hb⟩
        refine hK.out _ _ ⟨e12, e13, .int .i64 m0, .slice A ln c, .agg #[.int .i64 mo0, .int .i64 to0, .int .i64 lo0, .slice P cs0.length p], e17, e18, e19, e20, y21, x7, x8, X0, X1, (by simp only [Act.put, List.setIfInBounds_toArray, List.set_cons_zero, List.set_cons_succ]), Lib.hid (G.out.trans (hb.mono G.out.size)), E0, E1, Lib.hid (fun _ => rfl), Lib.hid (fun _ => rfl), E5, E6, E7, E8, Lib.hid (J0.out.call h0 hb hr hf), Lib.hid (J1.out.next hb), D01⟩
      · intro d _ w' h0 hd hJ K hK
        obtain ⟨e12, e13, e14, e15, y16, e17, e18, e19, e20, y21, x7, x8, X0, X1, hx, G, E0, E1, E2, E3, E5, E6, E7, E8, J0, J1, D01⟩ := hJ
        have G1 : Below w1.heap.size w1 w' := G.out
        simp only [Act.put, List.setIfInBounds_toArray, List.set_cons_zero, List.set_cons_succ] at hx
        refine step_at hx ?_
        clear hx
        clear hd h0 G1
        go_simp
        refine hK.out _ _ ⟨e12, e13, e14, e15, y16, .pointer (some ⟨w.heap.size, 1, none⟩), e18, e19, e20, y21, x7, x8, X0, X1, (by simp only [Act.put, List.setIfInBounds_toArray, List.set_cons_zero, List.set_cons_succ]), G, E0, E1, E2, E3, Lib.hid (fun _ => rfl), E6, E7, E8, J0, J1, D01⟩
      · intro d _ w' h0 hd hJ K hK
        obtain ⟨e12, e13, e14, e15, y16, e17, e18, e19, e20, y21, x7, x8, X0, X1, hx, G, E0, E1, E2, E3, E5, E6, E7, E8, J0, J1, D01⟩ := hJ
        have G1 : Below w1.heap.size w1 w' := G.out
        simp only [Act.put, List.setIfInBounds_toArray, List.set_cons_zero, List.set_cons_succ] at hx
        refine step_at hx ?_
        clear hx
        have d5 : d 5 = true := hd { on := 5, ground := Ground.data } (by simp) rfl
        obtain rfl := E5.out d5
        have G9 := HS.out w' G1
        have G := Lib.hid G.out
        obtain ⟨c0, c1⟩ := G9
        clear hd h0 G1
        go_simp
        refine hK.out _ _ ⟨e12, e13, e14, e15, y16, .pointer (some ⟨w.heap.size, 1, none⟩), .int .u8 (n1 : Int), e19, e20, y21, x7, x8, X0, X1, (by simp only [Act.put, List.setIfInBounds_toArray, List.set_cons_zero, List.set_cons_succ]), G, E0, E1, E2, E3, Lib.hid (fun _ => rfl), Lib.hid (fun _ => rfl), E7, E8, J0, J1, D01⟩
      · intro d _ w' h0 hd hJ K hK
        obtain ⟨e12, e13, e14, e15, y16, e17, e18, e19, e20, y21, x7, x8, X0, X1, hx, G, E0, E1, E2, E3, E5, E6, E7, E8, J0, J1, D01⟩ := hJ
        have G1 : Below w1.heap.size w1 w' := G.out
        simp only [Act.put, List.setIfInBounds_toArray, List.set_cons_zero, List.set_cons_succ] at hx
        refine step_at hx ?_
        clear hx
        have d6 : d 6 = true := hd { on := 6, ground := Ground.data } (by simp) rfl
        obtain rfl := E6.out d6
        clear hd
        go_simp
        refine (HM1.out _).mono ?_
        rintro e w9 ⟨rfl, rfl⟩
        refine hK.out _ _ ⟨e12, e13, e14, e15, y16, e17, .int .u8 (n1 : Int), .int .i64 m1, e20, y21, x7, x8, X0, X1, (by simp only [Act.put, List.setIfInBounds_toArray, List.set_cons_zero, List.set_cons_succ]), G, E0, E1, E2, E3, E5, Lib.hid (fun _ => rfl), Lib.hid (fun _ => rfl), E8, J0, J1, D01⟩
      · intro d _ w' h0 hd hJ K hK
        obtain ⟨e12, e13, e14, e15, y16, e17, e18, e19, e20, y21, x7, x8, X0, X1, hx, G, E0, E1, E2, E3, E5, E6, E7, E8, J0, J1, D01⟩ := hJ
        have G1 : Below w1.heap.size w1 w' := G.out
        simp only [Act.put, List.setIfInBounds_toArray, List.set_cons_zero, List.set_cons_succ] at hx
        refine step_at hx ?_
        clear hx
        clear hd h0 G1
        go_simp
        refine hK.out _ _ ⟨e12, e13, e14, e15, y16, e17, e18, e19, .slice B lm e, y21, x7, x8, X0, X1, (by simp only [Act.put, List.setIfInBounds_toArray, List.set_cons_zero, List.set_cons_succ]), G, E0, E1, E2, E3, E5, E6, E7, Lib.hid (fun _ => rfl), J0, J1, D01⟩
      · intro d _ w' h0 hd hJ K hK
        obtain ⟨e12, e13, e14, e15, y16, e17, e18, e19, e20, y21, x7, x8, X0, X1, hx, G, E0, E1, E2, E3, E5, E6, E7, E8, J0, J1, D01⟩ := hJ
        have G1 : Below w1.heap.size w1 w' := G.out
        simp only [Act.put, List.setIfInBounds_toArray, List.set_cons_zero, List.set_cons_succ] at hx
        refine step_at hx ?_
        clear hx
        have d7 : d 7 = true := hd { on := 7, ground := Ground.data } (by simp) rfl
        obtain rfl := E7.out d7
        have d8 : d 8 = true := hd { on := 8, ground := Ground.data } (by simp) rfl
        obtain rfl := E8.out d8
        clear hd
        go_simp
        refine (HK1.out _ G1).mono ?_
        rintro e v ⟨⟨P, p, rfl, hr, hf⟩, hb⟩
        refine hK.out _ _ ⟨e12, e13, e14, e15, y16, e17, e18, .int .i64 m1, .slice B lm e, .agg #[.int .i64 mo1, .int .i64 to1, .int .i64 lo1, .slice P cs1.length p], x7, x8, X0, X1, (by simp only [Act.put, List.setIfInBounds_toArray, List.set_cons_zero, List.set_cons_succ]), Lib.hid (G.out.trans (hb.mono G.out.size)), E0, E1, E2, E3, E5, E6, Lib.hid (fun _ => rfl), Lib.hid (fun _ => rfl), Lib.hid (J0.out.next hb), Lib.hid (J1.out.call h0 hb hr hf), D01⟩
      · intro d _ w' h0 hd hJ K hK
        obtain ⟨e12, e13, e14, e15, y16, e17, e18, e19, e20, y21, x7, x8, X0, X1, hx, G, E0, E1, E2, E3, E5, E6, E7, E8, J0, J1, D01⟩ := hJ
        have G1 : Below w1.heap.size w1 w' := G.out
        simp only [Act.put, List.setIfInBounds_toArray, List.set_cons_zero, List.set_cons_succ] at hx
        refine step_at hx ?_
        clear hx
        clear hd
        go_simp
        refine hK.out _ _ ⟨e12, e13, e14, e15, y16, e17, e18, e19, e20, y21, .pointer (some ⟨w'.heap.size, 0, none⟩), x8, w'.heap.size, X1, (by simp only [Act.put, List.setIfInBounds_toArray, List.set_cons_zero, List.set_cons_succ]), Lib.hid (G.out.alloc G.out.size _), E0, E1, E2, E3, E5, E6, E7, E8, Lib.hid (J0.out.alloc h0 G1.size), Lib.hid (J1.out.next ((Below.refl _ _).alloc (Nat.le_refl _) _)), Lib.hid (fun _ h => Nat.ne_of_gt (J1.out.lt h))⟩
      · intro d _ w' h0 hd hJ K hK
        obtain ⟨e12, e13, e14, e15, y16, e17, e18, e19, e20, y21, x7, x8, X0, X1, hx, G, E0, E1, E2, E3, E5, E6, E7, E8, J0, J1, D01⟩ := hJ
        have G1 : Below w1.heap.size w1 w' := G.out
        simp only [Act.put, List.setIfInBounds_toArray, List.set_cons_zero, List.set_cons_succ] at hx
        refine step_at hx ?_
        clear hx
        clear hd
        go_simp
        refine hK.out _ _ ⟨e12, e13, e14, e15, y16, e17, e18, e19, e20, y21, x7, .pointer (some ⟨w'.heap.size, 0, none⟩), X0, w'.heap.size, (by simp only [Act.put, List.setIfInBounds_toArray, List.set_cons_zero, List.set_cons_succ]), Lib.hid (G.out.alloc G.out.size _), E0, E1, E2, E3, E5, E6, E7, E8, Lib.hid (J0.out.next ((Below.refl _ _).alloc (Nat.le_refl _) _)), Lib.hid (J1.out.alloc h0 G1.size), Lib.hid (fun h _ => Nat.ne_of_lt (J0.out.lt h))⟩
      · intro d _ w' h0 hd hJ K hK
        obtain ⟨e12, e13, e14, e15, y16, e17, e18, e19, e20, y21, x7, x8, X0, X1, hx, G, E0, E1, E2, E3, E5, E6, E7, E8, J0, J1, D01⟩ := hJ
        have G1 : Below w1.heap.size w1 w' := G.out
        simp only [Act.put, List.setIfInBounds_toArray, List.set_cons_zero, List.set_cons_succ] at hx
        refine step_at hx ?_
        clear hx
        have d10 : d 10 = true := hd { on := 10, ground := Ground.data } (by simp) rfl
        have d4 : d 4 = true := hd { on := 4, ground := Ground.data } (by simp) rfl
        obtain ⟨P, p, rfl, rfl, hblk, hst⟩ := J0.out.store d4 d10 h0
        have hXw := J0.out.lo d10
        clear hd
        rw [if_pos (by rfl)]
        refine wp_store_row 24 _ _ rfl X0 (rowS ⟨mo0, to0, lo0, cs0⟩ P p) rfl rfl 24 _ hblk HSb.out rfl (one_rows rfl _ _ _) ?_
        refine hK.out _ _ ⟨e12, e13, e14, e15, .agg (rowS ⟨mo0, to0, lo0, cs0⟩ P p), e17, e18, e19, e20, y21, .pointer (some ⟨X0, 0, none⟩), x8, X0, X1, (by simp only [Act.put, List.setIfInBounds_toArray, List.set_cons_zero, List.set_cons_succ]), Lib.hid (below_setRow G.out hXw), E0, E1, E2, E3, E5, E6, E7, E8, Lib.hid hst, Lib.hid (J1.out.other hblk (fun h => (D01.out d10 h).symm) _), D01⟩
      · intro d _ w' h0 hd hJ K hK
        obtain ⟨e12, e13, e14, e15, y16, e17, e18, e19, e20, y21, x7, x8, X0, X1, hx, G, E0, E1, E2, E3, E5, E6, E7, E8, J0, J1, D01⟩ := hJ
        have G1 : Below w1.heap.size w1 w' := G.out
        simp only [Act.put, List.setIfInBounds_toArray, List.set_cons_zero, List.set_cons_succ] at hx
        refine step_at hx ?_
        clear hx
        have d11 : d 11 = true := hd { on := 11, ground := Ground.data } (by simp) rfl
        have d9 : d 9 = true := hd { on := 9, ground := Ground.data } (by simp) rfl
        obtain ⟨P, p, rfl, rfl, hblk, hst⟩ := J1.out.store d9 d11 h0
        have hXw := J1.out.lo d11
        clear hd
        rw [if_pos (by rfl)]
        refine wp_store_row 24 _ _ rfl X1 (rowS ⟨mo1, to1, lo1, cs1⟩ P p) rfl rfl 24 _ hblk HSb.out rfl (one_rows rfl _ _ _) ?_
        refine hK.out _ _ ⟨e12, e13, e14, e15, y16, e17, e18, e19, e20, .agg (rowS ⟨mo1, to1, lo1, cs1⟩ P p), x7, .pointer (some ⟨X1, 0, none⟩), X0, X1, (by simp only [Act.put, List.setIfInBounds_toArray, List.set_cons_zero, List.set_cons_succ]), Lib.hid (below_setRow G.out hXw), E0, E1, E2, E3, E5, E6, E7, E8, Lib.hid (J0.out.other hblk (fun h => (D01.out h d11)) _), Lib.hid hst, D01⟩
    · intro d a2 w' hall hJ
      obtain ⟨e12, e13, e14, e15, y16, e17, e18, e19, e20, y21, x7, x8, X0, X1, hx, G, E0, E1, E2, E3, E5, E6, E7, E8, J0, J1, D01⟩ := hJ
      obtain ⟨P0, p0, rfl, rfl, hk0, hv0, hf0⟩ := J0.out.done (hall 12 (by decide))
      obtain ⟨P1, p1, rfl, rfl, hk1, hv1, hf1⟩ := J1.out.done (hall 13 (by decide))
      simp only [Act.put, List.setIfInBounds_toArray, List.set_cons_zero, List.set_cons_succ] at hx
      subst hx
      go_wp2_with fail
      go_meet
      exact ⟨_, P0, p0, _, P1, p1, rfl, rfl, G, Lib.hid hk0, Lib.hid hv0, Lib.hid hf0, Lib.hid hk1, Lib.hid hv1, Lib.hid hf1⟩
  case rest =>
    obtain ⟨Y0, P0, p0, Y1, P1, p1, rfl, rfl, HBx, HZ0, HV0, HF0, HZ1, HV1, HF1⟩ := hcut
    have HBw := Lib.hid (HB.out.trans (HBx.out.mono HB.out.size))
    obtain ⟨r, hr⟩ : ∃ r, r = eqS ⟨mo0, to0, lo0, cs0⟩ ⟨mo1, to1, lo1, cs1⟩ := ⟨_, rfl⟩
    have hsz0 := HS0.out.size
    have hlo0 := HS0.out.lo
    dsimp only at hsz0 hlo0
    have hq1 := fun v u W h1 h2 => peq_any v u ⟨mo0, to0, lo0, cs0⟩ ⟨mo1, to1, lo1, cs1⟩ (by dsimp only; omega) W h1 h2
    have hq2 := fun v u W h1 h2 => equal_any v u ⟨mo0, to0, lo0, cs0⟩ ⟨mo1, to1, lo1, cs1⟩ (by dsimp only; omega) W h1 h2
    have hq3 := fun v u W h1 h2 => peq_any v u ⟨mo0, to0, lo0, cs0⟩ ⟨mo0, to0, lo0, cs0⟩ (by dsimp only; omega) W h1 h2
    have hq4 := fun v u W h1 h2 => peq_any v u ⟨mo0, to0, lo0, cs0⟩ ⟨mo0, to0, lo0 + 1, cs0⟩ (by dsimp only; omega) W h1 h2
    rw [← hr] at hq1 hq2
    rw [show eqS ⟨mo0, to0, lo0, cs0⟩ ⟨mo0, to0, lo0, cs0⟩ = true by simp [eqS]] at hq3
    rw [show eqS ⟨mo0, to0, lo0, cs0⟩ ⟨mo0, to0, lo0 + 1, cs0⟩ = false by simp [eqS]; omega] at hq4
    have hwl : IntKind.i64.wrap (lo0 + 1) = lo0 + 1 := by simp only [IntKind.wrap_i64]; omega
    obtain ⟨lz, hlz⟩ : ∃ lz, lz = lo0 + 1 := ⟨_, rfl⟩
    rw [← hlz] at hq4
    have hwl2 : IntKind.i64.wrap (lo0 + 1) = lz := by rw [hlz]; exact hwl
    obtain ⟨l0, hl0⟩ : ∃ l0, l0 = cs0.length := ⟨_, rfl⟩
    obtain ⟨l1, hl1⟩ : ∃ l1, l1 = cs1.length := ⟨_, rfl⟩
    rw [← hl0] at HZ0 HV0
    rw [← hl1] at HZ1 HV1
    have HU0 : Hid (∀ W, SlV W (.slice P0 l0 p0) cs0 → SuV W (.agg #[.int .i64 mo0, .int .i64 to0, .int .i64 lo0, .slice P0 l0 p0]) ⟨mo0, to0, lo0, cs0⟩) := Lib.hid (fun W h => ⟨_, rfl, h⟩)
    have HU1 : Hid (∀ W, SlV W (.slice P1 l1 p1) cs1 → SuV W (.agg #[.int .i64 mo1, .int .i64 to1, .int .i64 lo1, .slice P1 l1 p1]) ⟨mo1, to1, lo1, cs1⟩) := Lib.hid (fun W h => ⟨_, rfl, h⟩)
    have HU2 : Hid (∀ W, SlV W (.slice P0 l0 p0) cs0 → SuV W (.agg #[.int .i64 mo0, .int .i64 to0, .int .i64 lz, .slice P0 l0 p0]) ⟨mo0, to0, lz, cs0⟩) := Lib.hid (fun W h => ⟨_, rfl, h⟩)
    have HQ1 := Lib.hid hq1
    have HQ2 := Lib.hid hq2
    have HQ3 := Lib.hid hq3
    have HQ4 := Lib.hid hq4
    clear hr hq1 hq2 hq3 hq4 hwl hlz hl0 hl1 hsz0 hlo0
    obtain ⟨w3, hw3⟩ : ∃ w3, w3 = wc.alloc (.cells #[.int .i64 mo0, .int .i64 to0, .int .i64 lz, .slice P0 l0 p0] 24) := ⟨_, rfl⟩
    have hb3 : Below wc.heap.size wc w3 := by rw [hw3]; exact (Below.refl _ _).alloc (Nat.le_refl _) _
    have HB3 := Lib.hid (HBw.out.trans (hb3.mono HBw.out.size))
    have HZ2 : Hid (w3.heap[wc.heap.size]? = some (.cells #[.int .i64 mo0, .int .i64 to0, .int .i64 lz, .slice P0 l0 p0] 24 (0, 0))) := Lib.hid (by rw [hw3]; exact Deep.blk_alloc_new _ _)
    have HY0 := Lib.hid (blk_carry HZ0.out hb3)
    have HY1 := Lib.hid (blk_carry HZ1.out hb3)
    replace HV0 := Lib.hid (HV0.out.below hb3)
    replace HV1 := Lib.hid (HV1.out.below hb3)
    have HW3 := Lib.hid hw3
    have x0 := cell_of_row _ _ 0 _ _ _ HZ0.out
    have x1 := cell_of_row _ _ 1 _ _ _ HZ0.out
    have x2 := cell_of_row _ _ 2 _ _ _ HZ0.out
    have x3 := cell_of_row _ _ 3 _ _ _ HZ0.out
    simp at x0 x1 x2 x3
    clear hb3 hw3
    have HKc : Hid (∀ W, Below w3.heap.size w3 W → W.cell? ⟨Y0, 0, none⟩ = some (.int .i64 mo0) ∧ W.cell? ⟨Y0, 1, none⟩ = some (.int .i64 to0) ∧ W.cell? ⟨Y0, 2, none⟩ = some (.int .i64 lo0) ∧ W.cell? ⟨Y0, 3, none⟩ = some (.slice P0 l0 p0) ∧ W.cell? ⟨Y1, 0, none⟩ = some (.int .i64 mo1) ∧ W.cell? ⟨Y1, 1, none⟩ = some (.int .i64 to1) ∧ W.cell? ⟨Y1, 2, none⟩ = some (.int .i64 lo1) ∧ W.cell? ⟨Y1, 3, none⟩ = some (.slice P1 l1 p1) ∧ W.cell? ⟨wc.heap.size, 0, none⟩ = some (.int .i64 mo0) ∧ W.cell? ⟨wc.heap.size, 1, none⟩ = some (.int .i64 to0) ∧ W.cell? ⟨wc.heap.size, 2, none⟩ = some (.int .i64 lz) ∧ W.cell? ⟨wc.heap.size, 3, none⟩ = some (.slice P0 l0 p0)) := Lib.hid (fun W h => by
      have ga := (h.block _ (Array.getElem?_eq_some_iff.1 HY0.out).1).trans HY0.out
      have gb := (h.block _ (Array.getElem?_eq_some_iff.1 HY1.out).1).trans HY1.out
      have gc := (h.block _ (Array.getElem?_eq_some_iff.1 HZ2.out).1).trans HZ2.out
      exact ⟨cell_of_row _ _ 0 _ _ _ ga, cell_of_row _ _ 1 _ _ _ ga, cell_of_row _ _ 2 _ _ _ ga, cell_of_row _ _ 3 _ _ _ ga, cell_of_row _ _ 0 _ _ _ gb, cell_of_row _ _ 1 _ _ _ gb, cell_of_row _ _ 2 _ _ _ gb, cell_of_row _ _ 3 _ _ _ gb, cell_of_row _ _ 0 _ _ _ gc, cell_of_row _ _ 1 _ _ _ gc, cell_of_row _ _ 2 _ _ _ gc, cell_of_row _ _ 3 _ _ _ gc⟩)
    have HD0 : Hid (Below w3.heap.size w3 w3.drew) := Lib.hid (Below.refl _ _).drew
    have sent1 : True := trivial
    have sent2 : True := trivial
    have sent3 : True := trivial
    have sent4 : True := trivial
    go_wp2_with fail
    rw [← HW3.out]
    clear x0 x1 x2 x3
    go_region_held3 (fun W => W.cell? ⟨Y0, 0, none⟩ = some (.int .i64 mo0) ∧ W.cell? ⟨Y0, 1, none⟩ = some (.int .i64 to0) ∧ W.cell? ⟨Y0, 2, none⟩ = some (.int .i64 lo0) ∧ W.cell? ⟨Y0, 3, none⟩ = some (.slice P0 l0 p0) ∧ W.cell? ⟨Y1, 0, none⟩ = some (.int .i64 mo1) ∧ W.cell? ⟨Y1, 1, none⟩ = some (.int .i64 to1) ∧ W.cell? ⟨Y1, 2, none⟩ = some (.int .i64 lo1) ∧ W.cell? ⟨Y1, 3, none⟩ = some (.slice P1 l1 p1) ∧ W.cell? ⟨wc.heap.size, 0, none⟩ = some (.int .i64 mo0) ∧ W.cell? ⟨wc.heap.size, 1, none⟩ = some (.int .i64 to0) ∧ W.cell? ⟨wc.heap.size, 2, none⟩ = some (.int .i64 lz) ∧ W.cell? ⟨wc.heap.size, 3, none⟩ = some (.slice P0 l0 p0))
        (first | exact HKc.out _ HD4.out | exact HKc.out _ HD3.out | exact HKc.out _ HD2.out | exact HKc.out _ HD1.out | exact HKc.out _ HD0.out)
      ((first
        | (clear sent1; go_at_call 36; (with_reducible refine (HQ1.out _ _ _ (HU0.out _ (HV0.out.below HD0.out)) (HU1.out _ (HV1.out.below HD0.out))).mono ?_); rintro e9 u1 ⟨rfl, hb⟩; have HD1 : Hid (Below w3.heap.size w3 u1) := Lib.hid (HD0.out.trans (hb.mono HD0.out.size)); clear hb)
        | (clear sent2; go_at_call 15; (with_reducible refine (HQ2.out _ _ _ (HU0.out _ (HV0.out.below HD1.out)) (HU1.out _ (HV1.out.below HD1.out))).mono ?_); rintro e9 u2 ⟨rfl, hb⟩; have HD2 : Hid (Below w3.heap.size w3 u2) := Lib.hid (HD1.out.trans (hb.mono HD1.out.size)); clear hb)
        | (clear sent3; go_at_call 36; (with_reducible refine (HQ3.out _ _ _ (HU0.out _ (HV0.out.below HD2.out)) (HU0.out _ (HV0.out.below HD2.out))).mono ?_); rintro e9 u3 ⟨rfl, hb⟩; have HD3 : Hid (Below w3.heap.size w3 u3) := Lib.hid (HD2.out.trans (hb.mono HD2.out.size)); clear hb)
        | (clear sent4; go_at_call 36; (with_reducible refine (HQ4.out _ _ _ (HU0.out _ (HV0.out.below HD3.out)) (HU2.out _ (HV0.out.below HD3.out))).mono ?_); rintro e9 u4 ⟨rfl, hb⟩; have HD4 : Hid (Below w3.heap.size w3 u4) := Lib.hid (HD3.out.trans (hb.mono HD3.out.size)); clear hb)
        | fail))
    go_wp2_with fail
    go_ret
    exact ⟨by first | rfl | simp, HB3.out.trans (HD4.out.mono HB3.out.size)⟩
set_option maxRecDepth 100000 in
theorem lifted (os : Os) (started : os.Started) (H : Type) (enc : TypeId × Value → H) :
    ReturnsInHanded {} Try.checked os 12 .any (Rows.heavyhitterEqualsSpec.pre6 enc Try.prog Try.f12 Rows.heavyhitterEqualsRow.domain false) (Rows.heavyhitterEqualsSpec.post enc Try.prog Try.f12 false true false false) := by
  refine returnsInHanded_of_change (C := Try.checked) own started (by kernel_rfl) Try.func12
    (ChangeSpec.witness6 (enc := enc) (C := Try.checked) false ⟨#[], #[.agg #[.int .u8 0, .int .u8 0], .slice none 0 0, .slice none 0 0], []⟩ 8 (by kernel_rfl) (by kernel_rfl) (by kernel_rfl) (by kernel_rfl)) ?_
  intro W base args ds gs before hval0 hW _ _
  have hval : ∀ (j : Nat) t v, Try.f12.params[j]? = some t → args[j]? = some v → Value.okWide Try.prog W .any base t v := hval0
  have hW' := hW
  obtain ⟨p, q, hA0, hV, rfl, _, _⟩ := hW
  have hA : DataW.TrodAll enc Try.prog W 0 (fun _ => true) true Try.f12.params.toList args.toList ds p := hA0
  rw [Try.params12] at hA hval
  obtain ⟨v0, vs0, d0, ds0, p0, q0, hargs0, rfl, rfl, h0, r0⟩ := trodAll_cons hA
  obtain ⟨v1, vs1, d1, ds1, p1, q1, hargs1, rfl, rfl, h1, r1⟩ := trodAll_cons r0
  obtain ⟨v2, vs2, d2, ds2, p2, q2, hargs2, rfl, rfl, h2, r2⟩ := trodAll_cons r1
  obtain ⟨rfl, rfl, rfl⟩ := trodAll_nil r2
  obtain rfl : args = #[v0, v1, v2] := by cases args; simp_all
  obtain ⟨rfl, rfl⟩ := trodVars_none hV
  obtain ⟨m00, m01, rfl, rfl, rfl, wm00, wm01⟩ := open_row2 Try.underlying50 Try.underlying5 (by kernel_rfl) (by kernel_rfl) (hval 0 50 v0 rfl rfl) h0
  have lt1 : ∀ x ∈ p1, x.block < W.heap.size := fun x hx => hW'.lt x (by simp [hx])
  obtain ⟨A1, c1, L1, rfl, hL1, hc1, hn1, hs1, hR1⟩ := open_its (hval 1 34 v1 rfl rfl) h1 lt1
  have lt2 : ∀ x ∈ p2, x.block < W.heap.size := fun x hx => hW'.lt x (by simp [hx])
  obtain ⟨A2, c2, L2, rfl, hL2, hc2, hn2, hs2, hR2⟩ := open_its (hval 2 34 v2 rfl rfl) h2 lt2
  clear hA0 hval0
  simp only [List.append_nil] at hW'
  refine (walk W m00 wm00 m01 wm01 A1 c1 L1 hL1 hc1 hn1 hs1 hR1 A2 c2 L2 hL2 hc2 hn2 hs2 hR2).mono fun e W' ⟨he, hb⟩ => ?_
  subst he
  exact ⟨_, rfl, post_mem hW' hb (fun _ _ _ => trodAll_mk1 (shut_bool Try.underlying4 _)) (fun sp hsp => by
    have t := trodAll_cons_mk (shut_row2 Try.underlying50 Try.underlying5 (by kernel_rfl) (by kernel_rfl) wm00 wm01) (trodAll_cons_mk (carry laidOut (by kernel_rfl) (of_decide_eq_true (by kernel_rfl)) h1 hb lt1 sp (fun x hx => hsp x (by simp [hx]))) (trodAll_cons_mk (carry laidOut (by kernel_rfl) (of_decide_eq_true (by kernel_rfl)) h2 hb lt2 sp (fun x hx => hsp x (by simp [hx]))) trodAll_mk0))
    simp only [List.append_nil] at t
    exact t) (fun _ => rfl) (ok_one (by kernel_rfl) rfl (okWide_bool_mk Try.underlying4 _))⟩

theorem proved : Rows.HeavyhitterEqualsSaid :=
  OpenClaim.holds_of_wide 12 Try.f12 rfl rfl rfl rfl rfl rfl rfl ⟨rfl, rfl, rfl, rfl, rfl⟩ rfl rfl rfl rfl rfl (by kernel_rfl) Try.func12 (by kernel_rfl)
    (of_decide_eq_true (by kernel_rfl)) (by unfold Func.isWrapper; first | (rw [if_pos (by decide +kernel)]; kernel_rfl) | (rw [if_neg (by decide +kernel)]; exact ⟨rfl, rfl⟩))
    (fun os started H enc _ => lifted os started H enc)
end Go.Proofs.Ytdcfhnpnfamdaaa.lawEquals
