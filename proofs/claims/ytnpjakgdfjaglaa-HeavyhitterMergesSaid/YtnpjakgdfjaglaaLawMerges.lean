/- HeavyhitterMerges: for any two numbers and two lists of items the law returns true (written by wip/bin/gen_lm22.py). No condition. -/
import Derived.Test.YtnpjakgdfjaglaaHw
import Derived.Test.YtnpjakgdfjaglaaHz
import Derived.Test.YtnpjakgdfjaglaaIm
import Derived.Test.YtnpjakgdfjaglaaHx
import Derived.Test.YtnpjakgdfjaglaaHu
import Derived.Deep.RegionHeld3
import Derived.Deep.DeepCutAuto
namespace Go.Proofs.Ytnpjakgdfjaglaa.lawMerges
open Go.ChangeShapes Go.WideShapes Go.ChangeAt Go.RowKit Go.Joins

/-- Merge of two summaries with different numbers of counters. -/
theorem mrg_no (a b : Su) (sa : Sl22 a) (sb : Sl22 b) (hm : a.mo ≠ b.mo) (v v' : Value) (w : World) (hv : SuV w v a) (hv' : SuV w v' b) :
    Calls Try.prog 27 #[v, v'] w fun e w' => (∃ A c, e = .returned (.tuple #[.agg #[.int .i64 0, .int .i64 0, .int .i64 0, .slice A 0 c], .int .i64 3]) ∧ SlV w' (.slice A 0 c) []) ∧ Below w.heap.size w w' := by
  have fa := sa.fit
  have fb := sb.fit
  have za := sa.size
  have zb := sb.size
  have hF : Fit22 (a.cs ++ b.cs) := by
    refine ⟨fun p hp => ?_, ?_, fun p hp => ?_, ?_⟩
    · rcases List.mem_append.1 hp with h | h
      · exact fa.1 p h
      · exact fb.1 p h
    · rw [sm_append]; have := sa.smb; have := sb.smb; omega
    · rcases List.mem_append.1 hp with h | h
      · exact fa.2.2.1 p h
      · exact fb.2.2.1 p h
    · rw [List.length_append]; omega
  have e : mgR a b = (su0, 3) := by unfold mgR; rw [if_pos hm]
  have := merge_any v v' a b (by omega) (by omega) hF sa.nb sb.nb (by have := sa.mo; omega) w hv hv'
  rw [e] at this
  refine this.mono ?_
  rintro e w' ⟨⟨v, rfl, u, rfl, h⟩, hb⟩
  obtain ⟨A, c, rfl, _⟩ := id h
  exact ⟨⟨A, c, rfl, h⟩, hb⟩
theorem lmrg_ok (a b : Su) (f g : ByteArray → Int) (ha : Gd a f) (hb : Gd b g) (hm : a.mo = b.mo) (h1 : 1 ≤ a.mo ∧ a.mo ≤ 256) (hta : a.to ≤ 1000000) (htb : b.to ≤ 1000000) (v v' : Value) (w : World) (hv : SuV w v a) (hv' : SuV w v' b) :
    Calls Try.prog 28 #[v, v'] w fun e w' => (∃ A c, e = .returned (.agg #[.int .i64 (mgS a b).mo, .int .i64 (mgS a b).to, .int .i64 (mgS a b).lo, .slice A (mgS a b).cs.length c]) ∧ SlV w' (.slice A (mgS a b).cs.length c) (mgS a b).cs) ∧ Below w.heap.size w w' := by
  refine (lmerge_any a b f g ha hb hm h1 hta htb v v' w hv hv').mono ?_
  rintro e w' ⟨⟨v, rfl, u, rfl, h⟩, hb⟩
  obtain ⟨A, c, rfl, _⟩ := id h
  exact ⟨⟨A, c, rfl, h⟩, hb⟩
set_option maxRecDepth 100000 in
set_option maxHeartbeats 16000000 in
theorem walk (w : World) (a0 : Int) (wa0 : (Lit.int .u8 a0).wf = true) (a1 : Int) (wa1 : (Lit.int .u8 a1).wf = true) (A : Option Addr) (c : Nat) (L : List It) (hL : L.length ≤ 9223372036854775807) (_hc : L.length ≤ c) (_hn : A = none → c = 0) (hok : ∀ x ∈ L, ItOk x) (hR : IR w A L) (B : Option Addr) (e : Nat) (M : List It) (hM : M.length ≤ 9223372036854775807) (_he : M.length ≤ e) (_hm : B = none → e = 0) (hok2 : ∀ x ∈ M, ItOk x) (hR2 : IR w B M) :
    Calls Try.prog 6 #[.agg #[.int .u8 a0, .int .u8 a1], .slice A L.length c, .slice B M.length e] w fun e w' => e = .returned (.bool true) ∧ Below w.heap.size w w' := by
  obtain ⟨n0, rfl⟩ : ∃ n : Nat, a0 = (n : Int) := ⟨a0.toNat, by have := bd8 wa0; omega⟩
  have hn0 : n0 ≤ 255 := by have := bd8 wa0; omega
  obtain ⟨n1, rfl⟩ : ∃ n : Nat, a1 = (n : Int) := ⟨a1.toNat, by have := bd8 wa1; omega⟩
  have hn1 : n1 ≤ 255 := by have := bd8 wa1; omega
  clear wa0 wa1
  have HSb : Hid ((Try.prog.info? 24).map (fun i => i.size) = some 4) := Lib.hid (by kernel_rfl)
  have HM0 := Lib.hid (fun W => most_any n0 hn0 W)
  have HM1 := Lib.hid (fun W => most_any n1 hn1 W)
  have hmo0 := mo_bd n0
  have hmo1 := mo_bd n1
  obtain ⟨m0, hm0⟩ : ∃ m, m = moN n0 := ⟨_, rfl⟩
  obtain ⟨m1, hm1⟩ : ∃ m, m = moN n1 := ⟨_, rfl⟩
  rw [← hm0] at HM0 hmo0
  rw [← hm1] at HM1 hmo1
  have HI0 := Lib.hid hR
  have HI1 := Lib.hid hR2
  have HC0 := Lib.hid (fun W h => stream_let m0 ⟨by omega, by omega⟩ A c L hL hok W h)
  have HC1 := Lib.hid (fun W h => stream_let m1 ⟨by omega, by omega⟩ B e M hM hok2 W h)
  obtain ⟨mo0, to0, lo0, cs0, q00, hs0, hg0, q01, q02, q03, _⟩ := HC0.out w hR
  obtain ⟨mo1, to1, lo1, cs1, q10, hs1, hg1, q11, q12, q13, _⟩ := HC1.out w hR2
  have HC0' : Hid (∀ W, IR W A L → Calls Try.prog 18 #[.int .i64 m0, .slice A L.length c] W fun e w' => (∃ A' c', e = .returned (.agg #[.int .i64 mo0, .int .i64 to0, .int .i64 lo0, .slice A' cs0.length c']) ∧ SlV w' (.slice A' cs0.length c') cs0 ∧ Flat A') ∧ Below W.heap.size W w') := Lib.hid (fun W h => by
    obtain ⟨x0, x1, x2, x3, y0, _, _, _, _, _, hc⟩ := HC0.out W h
    have e := y0.trans q00.symm
    injection e with e0 e1 e2 e3
    subst e0 e1 e2 e3
    exact hc)
  have HC1' : Hid (∀ W, IR W B M → Calls Try.prog 18 #[.int .i64 m1, .slice B M.length e] W fun e w' => (∃ A' c', e = .returned (.agg #[.int .i64 mo1, .int .i64 to1, .int .i64 lo1, .slice A' cs1.length c']) ∧ SlV w' (.slice A' cs1.length c') cs1 ∧ Flat A') ∧ Below W.heap.size W w') := Lib.hid (fun W h => by
    obtain ⟨x0, x1, x2, x3, y0, _, _, _, _, _, hc⟩ := HC1.out W h
    have e := y0.trans q10.symm
    injection e with e0 e1 e2 e3
    subst e0 e1 e2 e3
    exact hc)
  have HS0 := Lib.hid hs0
  have HS1 := Lib.hid hs1
  have HEx0 := Lib.hid (fun key W h => exact_any A c L hL hok key W h)
  have HEx1 := Lib.hid (fun key W h => exact_any B e M hM hok2 key W h)
  obtain ⟨ln, hln⟩ : ∃ ln, ln = L.length := ⟨_, rfl⟩
  obtain ⟨lm, hlm⟩ : ∃ lm, lm = M.length := ⟨_, rfl⟩
  rw [← hln] at HC0' HEx0 ⊢
  rw [← hlm] at HC1' HEx1 ⊢
  have HGd0 := Lib.hid hg0
  have HGd1 := Lib.hid hg1
  have HMm0 : Hid (1 ≤ mo0 ∧ mo0 ≤ 8 ∧ to0 ≤ 1920) := Lib.hid (by omega)
  have HMm1 : Hid (1 ≤ mo1 ∧ mo1 ≤ 8 ∧ to1 ≤ 1920) := Lib.hid (by omega)
  clear hR hR2 hok hok2 hm0 hm1 hL hM hln hlm q00 q01 q02 q03 q10 q11 q12 q13 hs0 hs1 hg0 hg1 hmo0 hmo1 HC0 HC1
  have HIq0 := HI0
  have HIq1 := HI1
  go_enter Try.func6, Try.ntmps6
  obtain ⟨W0, hW0⟩ : ∃ W0, W0 = w.alloc (.cells #[.int .u8 (n0 : Int), .int .u8 (n1 : Int)] 50) := ⟨_, rfl⟩
  have HB0 : Hid (Below w.heap.size w W0) := Lib.hid (by rw [hW0]; exact (Below.refl _ _).alloc (Nat.le_refl _) _)
  have HP0 : Hid (W0.heap[w.heap.size]? = some (.cells #[.int .u8 (n0 : Int), .int .u8 (n1 : Int)] 50 (0, 0))) := Lib.hid (by rw [hW0]; exact Deep.blk_alloc_new _ _)
  have HW0 := Lib.hid hW0
  clear hW0
  go_wp2_with fail
  rw [← HW0.out]
  refine (known_any _).mono ?_
  rintro e9 w1 ⟨rfl, hb⟩
  have HB := Lib.hid (HB0.out.trans (hb.mono HB0.out.size))
  have HP := Lib.hid ((hb.block _ (Array.getElem?_eq_some_iff.1 HP0.out).1).trans HP0.out)
  replace HI0 := Lib.hid (HI0.out.below HB.out)
  replace HI1 := Lib.hid (HI1.out.below HB.out)
  clear hb HB0 HP0 HW0
  have HS : Hid (∀ W, Below w1.heap.size w1 W → W.cell? ⟨w.heap.size, 0, none⟩ = some (.int .u8 (n0 : Int)) ∧ W.cell? ⟨w.heap.size, 1, none⟩ = some (.int .u8 (n1 : Int))) := Lib.hid (fun W h => by
    have hg := (h.block _ (Array.getElem?_eq_some_iff.1 HP.out).1).trans HP.out
    exact ⟨cell_of_row _ _ 0 _ _ _ hg, cell_of_row _ _ 1 _ _ _ hg⟩)
  have HK0 := Lib.hid (fun W (h : Below w1.heap.size w1 W) => HC0'.out W (HI0.out.below h))
  have HK1 := Lib.hid (fun W (h : Below w1.heap.size w1 W) => HC1'.out W (HI1.out.below h))
  go_upto_region 3 with fail
  go_cut [7, 8] (fun s7 s8 wx => ∃ (Y0 : Nat) (P0 : Option Addr) (p0 : Nat) (Y1 : Nat) (P1 : Option Addr) (p1 : Nat), s7 = .pointer (some ⟨Y0, 0, none⟩) ∧ s8 = .pointer (some ⟨Y1, 0, none⟩) ∧ Hid (Below w1.heap.size w1 wx) ∧ Hid (wx.heap[Y0]? = some (.cells #[.int .i64 mo0, .int .i64 to0, .int .i64 lo0, .slice P0 cs0.length p0] 24 (0, 0))) ∧ Hid (SlV wx (.slice P0 cs0.length p0) cs0) ∧ Hid (Flat P0) ∧ Hid (wx.heap[Y1]? = some (.cells #[.int .i64 mo1, .int .i64 to1, .int .i64 lo1, .slice P1 cs1.length p1] 24 (0, 0))) ∧ Hid (SlV wx (.slice P1 cs1.length p1) cs1) ∧ Hid (Flat P1))
  case first =>
    refine wp_region_inv (fun a0 w0 d a' w' => ∃ (e20 e21 e22 e23 y24 e25 e26 e27 e28 y29 x7 x8 : Value) (X0 X1 : Nat), a' = ((((((((((((a0.put (some 20) e20).put (some 21) e21).put (some 22) e22).put (some 23) e23).put (some 24) y24).put (some 25) e25).put (some 26) e26).put (some 27) e27).put (some 28) e28).put (some 29) y29).put (some 7) x7).put (some 8) x8) ∧ Hid (Below w0.heap.size w0 w') ∧ Hid (d 0 = true → e20 = .pointer (some ⟨w.heap.size, 0, none⟩)) ∧ Hid (d 1 = true → e21 = .int .u8 (n0 : Int)) ∧ Hid (d 2 = true → e22 = .int .i64 m0) ∧ Hid (d 3 = true → e23 = .slice A ln c) ∧ Hid (d 5 = true → e25 = .pointer (some ⟨w.heap.size, 1, none⟩)) ∧ Hid (d 6 = true → e26 = .int .u8 (n1 : Int)) ∧ Hid (d 7 = true → e27 = .int .i64 m1) ∧ Hid (d 8 = true → e28 = .slice B lm e) ∧ Hid (Js w0.heap.size ⟨mo0, to0, lo0, cs0⟩ (d 4) (d 10) (d 12) x7 y24 X0 w') ∧ Hid (Js w0.heap.size ⟨mo1, to1, lo1, cs1⟩ (d 9) (d 11) (d 13) x8 y29 X1 w') ∧ Hid (Dj (d 10) (d 11) X0 X1)) (by kernel_rfl) (by kernel_rfl) ?_ ?_ ?_
    · exact ⟨undef, undef, undef, undef, undef, undef, undef, undef, undef, undef, undef, undef, 0, 0, (by simp only [Act.put, List.setIfInBounds_toArray, List.set_cons_zero, List.set_cons_succ]), Lib.hid (Below.drew (Below.refl _ _)), Lib.hid (fun h => nomatch h), Lib.hid (fun h => nomatch h), Lib.hid (fun h => nomatch h), Lib.hid (fun h => nomatch h), Lib.hid (fun h => nomatch h), Lib.hid (fun h => nomatch h), Lib.hid (fun h => nomatch h), Lib.hid (fun h => nomatch h), Lib.hid Js.start, Lib.hid Js.start, Lib.hid (fun h => nomatch h)⟩
    · refine ⟨?_, ?_, ?_, ?_, ?_, ?_, ?_, ?_, ?_, ?_, ?_, ?_, ?_, ?_, trivial⟩
      · intro d _ w' h0 hd hJ K hK
        obtain ⟨e20, e21, e22, e23, y24, e25, e26, e27, e28, y29, x7, x8, X0, X1, hx, G, E0, E1, E2, E3, E5, E6, E7, E8, J0, J1, D01⟩ := hJ
        have G1 : Below w1.heap.size w1 w' := G.out
        simp only [Act.put, List.setIfInBounds_toArray, List.set_cons_zero, List.set_cons_succ] at hx
        refine step_at hx ?_
        clear hx
        clear hd h0 G1
        go_simp
        refine hK.out _ _ ⟨.pointer (some ⟨w.heap.size, 0, none⟩), e21, e22, e23, y24, e25, e26, e27, e28, y29, x7, x8, X0, X1, (by simp only [Act.put, List.setIfInBounds_toArray, List.set_cons_zero, List.set_cons_succ]), G, Lib.hid (fun _ => rfl), E1, E2, E3, E5, E6, E7, E8, J0, J1, D01⟩
      · intro d _ w' h0 hd hJ K hK
        obtain ⟨e20, e21, e22, e23, y24, e25, e26, e27, e28, y29, x7, x8, X0, X1, hx, G, E0, E1, E2, E3, E5, E6, E7, E8, J0, J1, D01⟩ := hJ
        have G1 : Below w1.heap.size w1 w' := G.out
        simp only [Act.put, List.setIfInBounds_toArray, List.set_cons_zero, List.set_cons_succ] at hx
        refine step_at hx ?_
        clear hx
        have d0 : d 0 = true := hd { on := 0, ground := Ground.data } (by simp) rfl
        obtain rfl := E0.out d0
        have G9 := HS.out w' G1
        have G := Lib.hid G.out
        obtain ⟨c0, c1⟩ := G9
        clear hd h0 G1
        go_simp
        refine hK.out _ _ ⟨.pointer (some ⟨w.heap.size, 0, none⟩), .int .u8 (n0 : Int), e22, e23, y24, e25, e26, e27, e28, y29, x7, x8, X0, X1, (by simp only [Act.put, List.setIfInBounds_toArray, List.set_cons_zero, List.set_cons_succ]), G, Lib.hid (fun _ => rfl), Lib.hid (fun _ => rfl), E2, E3, E5, E6, E7, E8, J0, J1, D01⟩
      · intro d _ w' h0 hd hJ K hK
        obtain ⟨e20, e21, e22, e23, y24, e25, e26, e27, e28, y29, x7, x8, X0, X1, hx, G, E0, E1, E2, E3, E5, E6, E7, E8, J0, J1, D01⟩ := hJ
        have G1 : Below w1.heap.size w1 w' := G.out
        simp only [Act.put, List.setIfInBounds_toArray, List.set_cons_zero, List.set_cons_succ] at hx
        refine step_at hx ?_
        clear hx
        have d1 : d 1 = true := hd { on := 1, ground := Ground.data } (by simp) rfl
        obtain rfl := E1.out d1
        clear hd
        go_simp
        refine (HM0.out _).mono ?_
        rintro e w9 ⟨rfl, rfl⟩
        refine hK.out _ _ ⟨e20, .int .u8 (n0 : Int), .int .i64 m0, e23, y24, e25, e26, e27, e28, y29, x7, x8, X0, X1, (by simp only [Act.put, List.setIfInBounds_toArray, List.set_cons_zero, List.set_cons_succ]), G, E0, Lib.hid (fun _ => rfl), Lib.hid (fun _ => rfl), E3, E5, E6, E7, E8, J0, J1, D01⟩
      · intro d _ w' h0 hd hJ K hK
        obtain ⟨e20, e21, e22, e23, y24, e25, e26, e27, e28, y29, x7, x8, X0, X1, hx, G, E0, E1, E2, E3, E5, E6, E7, E8, J0, J1, D01⟩ := hJ
        have G1 : Below w1.heap.size w1 w' := G.out
        simp only [Act.put, List.setIfInBounds_toArray, List.set_cons_zero, List.set_cons_succ] at hx
        refine step_at hx ?_
        clear hx
        clear hd h0 G1
        go_simp
        refine hK.out _ _ ⟨e20, e21, e22, .slice A ln c, y24, e25, e26, e27, e28, y29, x7, x8, X0, X1, (by simp only [Act.put, List.setIfInBounds_toArray, List.set_cons_zero, List.set_cons_succ]), G, E0, E1, E2, Lib.hid (fun _ => rfl), E5, E6, E7, E8, J0, J1, D01⟩
      · intro d _ w' h0 hd hJ K hK
        obtain ⟨e20, e21, e22, e23, y24, e25, e26, e27, e28, y29, x7, x8, X0, X1, hx, G, E0, E1, E2, E3, E5, E6, E7, E8, J0, J1, D01⟩ := hJ
        have G1 : Below w1.heap.size w1 w' := G.out
        simp only [Act.put, List.setIfInBounds_toArray, List.set_cons_zero, List.set_cons_succ] at hx
        refine step_at hx ?_
        clear hx
        have d2 : d 2 = true := hd { on := 2, ground := Ground.data } (by simp) rfl
        obtain rfl := E2.out d2
        have d3 : d 3 = true := hd { on := 3, ground := Ground.data } (by simp) rfl
        obtain rfl := E3.out d3
        clear hd
        go_simp
        refine (HK0.out _ G1).mono ?_
        rintro e v ⟨⟨P, p, rfl, hr, hf⟩, hb⟩
        refine hK.out _ _ ⟨e20, e21, .int .i64 m0, .slice A ln c, .agg #[.int .i64 mo0, .int .i64 to0, .int .i64 lo0, .slice P cs0.length p], e25, e26, e27, e28, y29, x7, x8, X0, X1, (by simp only [Act.put, List.setIfInBounds_toArray, List.set_cons_zero, List.set_cons_succ]), Lib.hid (G.out.trans (hb.mono G.out.size)), E0, E1, Lib.hid (fun _ => rfl), Lib.hid (fun _ => rfl), E5, E6, E7, E8, Lib.hid (J0.out.call h0 hb hr hf), Lib.hid (J1.out.next hb), D01⟩
      · intro d _ w' h0 hd hJ K hK
        obtain ⟨e20, e21, e22, e23, y24, e25, e26, e27, e28, y29, x7, x8, X0, X1, hx, G, E0, E1, E2, E3, E5, E6, E7, E8, J0, J1, D01⟩ := hJ
        have G1 : Below w1.heap.size w1 w' := G.out
        simp only [Act.put, List.setIfInBounds_toArray, List.set_cons_zero, List.set_cons_succ] at hx
        refine step_at hx ?_
        clear hx
        clear hd h0 G1
        go_simp
        refine hK.out _ _ ⟨e20, e21, e22, e23, y24, .pointer (some ⟨w.heap.size, 1, none⟩), e26, e27, e28, y29, x7, x8, X0, X1, (by simp only [Act.put, List.setIfInBounds_toArray, List.set_cons_zero, List.set_cons_succ]), G, E0, E1, E2, E3, Lib.hid (fun _ => rfl), E6, E7, E8, J0, J1, D01⟩
      · intro d _ w' h0 hd hJ K hK
        obtain ⟨e20, e21, e22, e23, y24, e25, e26, e27, e28, y29, x7, x8, X0, X1, hx, G, E0, E1, E2, E3, E5, E6, E7, E8, J0, J1, D01⟩ := hJ
        have G1 : Below w1.heap.size w1 w' := G.out
        simp only [Act.put, List.setIfInBounds_toArray, List.set_cons_zero, List.set_cons_succ] at hx
        refine step_at hx ?_
        clear hx
        have d5 : d 5 = true := hd { on := 5, ground := Ground.data } (by simp) rfl
        obtain rfl := E5.out d5
        have G9 := HS.out w' G1
        have G := Lib.hid G.out
        obtain ⟨c0, c1⟩ := G9
        clear hd h0 G1
        go_simp
        refine hK.out _ _ ⟨e20, e21, e22, e23, y24, .pointer (some ⟨w.heap.size, 1, none⟩), .int .u8 (n1 : Int), e27, e28, y29, x7, x8, X0, X1, (by simp only [Act.put, List.setIfInBounds_toArray, List.set_cons_zero, List.set_cons_succ]), G, E0, E1, E2, E3, Lib.hid (fun _ => rfl), Lib.hid (fun _ => rfl), E7, E8, J0, J1, D01⟩
      · intro d _ w' h0 hd hJ K hK
        obtain ⟨e20, e21, e22, e23, y24, e25, e26, e27, e28, y29, x7, x8, X0, X1, hx, G, E0, E1, E2, E3, E5, E6, E7, E8, J0, J1, D01⟩ := hJ
        have G1 : Below w1.heap.size w1 w' := G.out
        simp only [Act.put, List.setIfInBounds_toArray, List.set_cons_zero, List.set_cons_succ] at hx
        refine step_at hx ?_
        clear hx
        have d6 : d 6 = true := hd { on := 6, ground := Ground.data } (by simp) rfl
        obtain rfl := E6.out d6
        clear hd
        go_simp
        refine (HM1.out _).mono ?_
        rintro e w9 ⟨rfl, rfl⟩
        refine hK.out _ _ ⟨e20, e21, e22, e23, y24, e25, .int .u8 (n1 : Int), .int .i64 m1, e28, y29, x7, x8, X0, X1, (by simp only [Act.put, List.setIfInBounds_toArray, List.set_cons_zero, List.set_cons_succ]), G, E0, E1, E2, E3, E5, Lib.hid (fun _ => rfl), Lib.hid (fun _ => rfl), E8, J0, J1, D01⟩
      · intro d _ w' h0 hd hJ K hK
        obtain ⟨e20, e21, e22, e23, y24, e25, e26, e27, e28, y29, x7, x8, X0, X1, hx, G, E0, E1, E2, E3, E5, E6, E7, E8, J0, J1, D01⟩ := hJ
        have G1 : Below w1.heap.size w1 w' := G.out
        simp only [Act.put, List.setIfInBounds_toArray, List.set_cons_zero, List.set_cons_succ] at hx
        refine step_at hx ?_
        clear hx
        clear hd h0 G1
        go_simp
        refine hK.out _ _ ⟨e20, e21, e22, e23, y24, e25, e26, e27, .slice B lm e, y29, x7, x8, X0, X1, (by simp only [Act.put, List.setIfInBounds_toArray, List.set_cons_zero, List.set_cons_succ]), G, E0, E1, E2, E3, E5, E6, E7, Lib.hid (fun _ => rfl), J0, J1, D01⟩
      · intro d _ w' h0 hd hJ K hK
        obtain ⟨e20, e21, e22, e23, y24, e25, e26, e27, e28, y29, x7, x8, X0, X1, hx, G, E0, E1, E2, E3, E5, E6, E7, E8, J0, J1, D01⟩ := hJ
        have G1 : Below w1.heap.size w1 w' := G.out
        simp only [Act.put, List.setIfInBounds_toArray, List.set_cons_zero, List.set_cons_succ] at hx
        refine step_at hx ?_
        clear hx
        have d7 : d 7 = true := hd { on := 7, ground := Ground.data } (by simp) rfl
        obtain rfl := E7.out d7
        have d8 : d 8 = true := hd { on := 8, ground := Ground.data } (by simp) rfl
        obtain rfl := E8.out d8
        clear hd
        go_simp
        refine (HK1.out _ G1).mono ?_
        rintro e v ⟨⟨P, p, rfl, hr, hf⟩, hb⟩
        refine hK.out _ _ ⟨e20, e21, e22, e23, y24, e25, e26, .int .i64 m1, .slice B lm e, .agg #[.int .i64 mo1, .int .i64 to1, .int .i64 lo1, .slice P cs1.length p], x7, x8, X0, X1, (by simp only [Act.put, List.setIfInBounds_toArray, List.set_cons_zero, List.set_cons_succ]), Lib.hid (G.out.trans (hb.mono G.out.size)), E0, E1, E2, E3, E5, E6, Lib.hid (fun _ => rfl), Lib.hid (fun _ => rfl), Lib.hid (J0.out.next hb), Lib.hid (J1.out.call h0 hb hr hf), D01⟩
      · intro d _ w' h0 hd hJ K hK
        obtain ⟨e20, e21, e22, e23, y24, e25, e26, e27, e28, y29, x7, x8, X0, X1, hx, G, E0, E1, E2, E3, E5, E6, E7, E8, J0, J1, D01⟩ := hJ
        have G1 : Below w1.heap.size w1 w' := G.out
        simp only [Act.put, List.setIfInBounds_toArray, List.set_cons_zero, List.set_cons_succ] at hx
        refine step_at hx ?_
        clear hx
        clear hd
        go_simp
        refine hK.out _ _ ⟨e20, e21, e22, e23, y24, e25, e26, e27, e28, y29, .pointer (some ⟨w'.heap.size, 0, none⟩), x8, w'.heap.size, X1, (by simp only [Act.put, List.setIfInBounds_toArray, List.set_cons_zero, List.set_cons_succ]), Lib.hid (G.out.alloc G.out.size _), E0, E1, E2, E3, E5, E6, E7, E8, Lib.hid (J0.out.alloc h0 G1.size), Lib.hid (J1.out.next ((Below.refl _ _).alloc (Nat.le_refl _) _)), Lib.hid (fun _ h => Nat.ne_of_gt (J1.out.lt h))⟩
      · intro d _ w' h0 hd hJ K hK
        obtain ⟨e20, e21, e22, e23, y24, e25, e26, e27, e28, y29, x7, x8, X0, X1, hx, G, E0, E1, E2, E3, E5, E6, E7, E8, J0, J1, D01⟩ := hJ
        have G1 : Below w1.heap.size w1 w' := G.out
        simp only [Act.put, List.setIfInBounds_toArray, List.set_cons_zero, List.set_cons_succ] at hx
        refine step_at hx ?_
        clear hx
        clear hd
        go_simp
        refine hK.out _ _ ⟨e20, e21, e22, e23, y24, e25, e26, e27, e28, y29, x7, .pointer (some ⟨w'.heap.size, 0, none⟩), X0, w'.heap.size, (by simp only [Act.put, List.setIfInBounds_toArray, List.set_cons_zero, List.set_cons_succ]), Lib.hid (G.out.alloc G.out.size _), E0, E1, E2, E3, E5, E6, E7, E8, Lib.hid (J0.out.next ((Below.refl _ _).alloc (Nat.le_refl _) _)), Lib.hid (J1.out.alloc h0 G1.size), Lib.hid (fun h _ => Nat.ne_of_lt (J0.out.lt h))⟩
      · intro d _ w' h0 hd hJ K hK
        obtain ⟨e20, e21, e22, e23, y24, e25, e26, e27, e28, y29, x7, x8, X0, X1, hx, G, E0, E1, E2, E3, E5, E6, E7, E8, J0, J1, D01⟩ := hJ
        have G1 : Below w1.heap.size w1 w' := G.out
        simp only [Act.put, List.setIfInBounds_toArray, List.set_cons_zero, List.set_cons_succ] at hx
        refine step_at hx ?_
        clear hx
        have d10 : d 10 = true := hd { on := 10, ground := Ground.data } (by simp) rfl
        have d4 : d 4 = true := hd { on := 4, ground := Ground.data } (by simp) rfl
        obtain ⟨P, p, rfl, rfl, hblk, hst⟩ := J0.out.store d4 d10 h0
        have hXw := J0.out.lo d10
        clear hd
        rw [if_pos (by rfl)]
        refine wp_store_row 24 _ _ rfl X0 (rowS ⟨mo0, to0, lo0, cs0⟩ P p) rfl rfl 24 _ hblk HSb.out rfl (one_rows rfl _ _ _) ?_
        refine hK.out _ _ ⟨e20, e21, e22, e23, .agg (rowS ⟨mo0, to0, lo0, cs0⟩ P p), e25, e26, e27, e28, y29, .pointer (some ⟨X0, 0, none⟩), x8, X0, X1, (by simp only [Act.put, List.setIfInBounds_toArray, List.set_cons_zero, List.set_cons_succ]), Lib.hid (below_setRow G.out hXw), E0, E1, E2, E3, E5, E6, E7, E8, Lib.hid hst, Lib.hid (J1.out.other hblk (fun h => (D01.out d10 h).symm) _), D01⟩
      · intro d _ w' h0 hd hJ K hK
        obtain ⟨e20, e21, e22, e23, y24, e25, e26, e27, e28, y29, x7, x8, X0, X1, hx, G, E0, E1, E2, E3, E5, E6, E7, E8, J0, J1, D01⟩ := hJ
        have G1 : Below w1.heap.size w1 w' := G.out
        simp only [Act.put, List.setIfInBounds_toArray, List.set_cons_zero, List.set_cons_succ] at hx
        refine step_at hx ?_
        clear hx
        have d11 : d 11 = true := hd { on := 11, ground := Ground.data } (by simp) rfl
        have d9 : d 9 = true := hd { on := 9, ground := Ground.data } (by simp) rfl
        obtain ⟨P, p, rfl, rfl, hblk, hst⟩ := J1.out.store d9 d11 h0
        have hXw := J1.out.lo d11
        clear hd
        rw [if_pos (by rfl)]
        refine wp_store_row 24 _ _ rfl X1 (rowS ⟨mo1, to1, lo1, cs1⟩ P p) rfl rfl 24 _ hblk HSb.out rfl (one_rows rfl _ _ _) ?_
        refine hK.out _ _ ⟨e20, e21, e22, e23, y24, e25, e26, e27, e28, .agg (rowS ⟨mo1, to1, lo1, cs1⟩ P p), x7, .pointer (some ⟨X1, 0, none⟩), X0, X1, (by simp only [Act.put, List.setIfInBounds_toArray, List.set_cons_zero, List.set_cons_succ]), Lib.hid (below_setRow G.out hXw), E0, E1, E2, E3, E5, E6, E7, E8, Lib.hid (J0.out.other hblk (fun h => (D01.out h d11)) _), Lib.hid hst, D01⟩
    · intro d a2 w' hall hJ
      obtain ⟨e20, e21, e22, e23, y24, e25, e26, e27, e28, y29, x7, x8, X0, X1, hx, G, E0, E1, E2, E3, E5, E6, E7, E8, J0, J1, D01⟩ := hJ
      obtain ⟨P0, p0, rfl, rfl, hk0, hv0, hf0⟩ := J0.out.done (hall 12 (by decide))
      obtain ⟨P1, p1, rfl, rfl, hk1, hv1, hf1⟩ := J1.out.done (hall 13 (by decide))
      simp only [Act.put, List.setIfInBounds_toArray, List.set_cons_zero, List.set_cons_succ] at hx
      subst hx
      go_wp2_with fail
      go_meet
      exact ⟨_, P0, p0, _, P1, p1, rfl, rfl, G, Lib.hid hk0, Lib.hid hv0, Lib.hid hf0, Lib.hid hk1, Lib.hid hv1, Lib.hid hf1⟩
  case rest =>
    obtain ⟨Y0, P0, p0, Y1, P1, p1, rfl, rfl, HBx, HZ0, HV0, HF0, HZ1, HV1, HF1⟩ := hcut
    have HBw := Lib.hid (HB.out.trans (HBx.out.mono HB.out.size))
    have HI0w := Lib.hid (HI0.out.below HBx.out)
    have HI1w := Lib.hid (HI1.out.below HBx.out)
    clear HB HI0 HI1 HK0 HK1 HS HP HC0' HC1' HM0 HM1
    obtain ⟨l0, hl0⟩ : ∃ l, l = cs0.length := ⟨_, rfl⟩
    rw [← hl0] at HZ0 HV0
    have HL0 := Lib.hid hl0
    clear hl0 HF0
    obtain ⟨l1, hl1⟩ : ∃ l, l = cs1.length := ⟨_, rfl⟩
    rw [← hl1] at HZ1 HV1
    have HL1 := Lib.hid hl1
    clear hl1 HF1
    by_cases hmm : mo0 = mo1
    · have hne : (mo0 != mo1) = false := by simpa using hmm
      have HMq := Lib.hid hmm
      clear hmm
      have hgM := HGd0.out.merge HGd1.out HMq.out
      have hmM := mg_mo ⟨mo0, to0, lo0, cs0⟩ ⟨mo1, to1, lo1, cs1⟩
      have htM := mg_to ⟨mo0, to0, lo0, cs0⟩ ⟨mo1, to1, lo1, cs1⟩
      have hcM := fun v v' W h1 h2 => mrg_ok ⟨mo0, to0, lo0, cs0⟩ ⟨mo1, to1, lo1, cs1⟩ _ _ HGd0.out HGd1.out HMq.out (by have := HMm0.out; dsimp only; omega) (by have := HMm0.out; dsimp only; omega) (by have := HMm1.out; dsimp only; omega) v v' W h1 h2
      have hcN := fun v v' W h1 h2 => mrg_ok ⟨mo1, to1, lo1, cs1⟩ ⟨mo0, to0, lo0, cs0⟩ _ _ HGd1.out HGd0.out HMq.out.symm (by have := HMm1.out; dsimp only; omega) (by have := HMm1.out; dsimp only; omega) (by have := HMm0.out; dsimp only; omega) v v' W h1 h2
      rw [← mg_comm HGd0.out.sd HGd1.out.sd HMq.out] at hcN
      have hlM := fun v v' W h1 h2 => lmrg_ok ⟨mo0, to0, lo0, cs0⟩ ⟨mo1, to1, lo1, cs1⟩ _ _ HGd0.out HGd1.out HMq.out (by have := HMm0.out; dsimp only; omega) (by have := HMm0.out; dsimp only; omega) (by have := HMm1.out; dsimp only; omega) v v' W h1 h2
      obtain ⟨s9, hs9⟩ : ∃ s9, s9 = mgS ⟨mo0, to0, lo0, cs0⟩ ⟨mo1, to1, lo1, cs1⟩ := ⟨_, rfl⟩
      rw [← hs9] at hgM hmM htM hcM hcN hlM
      obtain ⟨mo3, to3, lo3, cs3⟩ := s9
      dsimp only at hmM htM hcM hcN hlM
      have HG3 := Lib.hid hgM
      have HM3 : Hid (1 ≤ mo3 ∧ mo3 ≤ 8) := Lib.hid (by have := HMm0.out; omega)
      have HTb3 : Hid (to3 ≤ 4000) := Lib.hid (by have := HMm0.out; have := HMm1.out; omega)
      have hck := fun v W h => pck_ok ⟨mo3, to3, lo3, cs3⟩ _ HG3.out (by have := HM3.out; dsimp only; omega) (by have := HTb3.out; dsimp only; omega) v W h
      have HCk := Lib.hid hck
      have HSm3 := Lib.hid (HG3.out.small (by have := HM3.out; dsimp only; omega) (by have := HTb3.out; dsimp only; omega))
      have HEq := Lib.hid (fun v u W h1 h2 => eq_self ⟨mo3, to3, lo3, cs3⟩ (by have := HSm3.out.size; omega) v u W h1 h2)
      have HBd3 := Lib.hid (fun key A' c' W (h : SlV W (.slice A' cs3.length c') cs3) => bounds_any (.agg #[.int .i64 mo3, .int .i64 to3, .int .i64 lo3, .slice A' cs3.length c']) ⟨mo3, to3, lo3, cs3⟩ key (by have := HSm3.out.size; dsimp only at this ⊢; omega) (by have h1 := HSm3.out.gtb key; have h2 := HSm3.out.lo; dsimp only at h1 h2 ⊢; omega) W ⟨_, rfl, h⟩)
      obtain ⟨l3, hl3⟩ : ∃ l, l = cs3.length := ⟨_, rfl⟩
      have HL3 := Lib.hid hl3
      have HU0 : Hid (∀ W A' c', SlV W (.slice A' l0 c') cs0 → SuV W (.agg #[.int .i64 mo0, .int .i64 to0, .int .i64 lo0, .slice A' l0 c']) ⟨mo0, to0, lo0, cs0⟩) := Lib.hid (fun W A' c' h => ⟨_, rfl, h⟩)
      have HU1 : Hid (∀ W A' c', SlV W (.slice A' l1 c') cs1 → SuV W (.agg #[.int .i64 mo1, .int .i64 to1, .int .i64 lo1, .slice A' l1 c']) ⟨mo1, to1, lo1, cs1⟩) := Lib.hid (fun W A' c' h => ⟨_, rfl, h⟩)
      have HU3 : Hid (∀ W A' c', SlV W (.slice A' l3 c') cs3 → SuV W (.agg #[.int .i64 mo3, .int .i64 to3, .int .i64 lo3, .slice A' l3 c']) ⟨mo3, to3, lo3, cs3⟩) := Lib.hid (fun W A' c' h => ⟨_, rfl, h⟩)
      have HC3 := Lib.hid (fun A' c' B' d' W (h1 : SlV W (.slice A' l0 c') cs0) (h2 : SlV W (.slice B' l1 d') cs1) => hcM _ _ W (HU0.out W A' c' h1) (HU1.out W B' d' h2))
      have HC4 := Lib.hid (fun A' c' B' d' W (h1 : SlV W (.slice A' l1 c') cs1) (h2 : SlV W (.slice B' l0 d') cs0) => hcN _ _ W (HU1.out W A' c' h1) (HU0.out W B' d' h2))
      have HLm := Lib.hid (fun A' c' B' d' W (h1 : SlV W (.slice A' l0 c') cs0) (h2 : SlV W (.slice B' l1 d') cs1) => hlM _ _ W (HU0.out W A' c' h1) (HU1.out W B' d' h2))
      rw [← hl3] at HBd3
      clear hgM hmM htM hcM hcN hlM hs9 hck hl3
      have ca0 := cell_of_row _ _ 0 _ _ _ HZ0.out
      have ca1 := cell_of_row _ _ 1 _ _ _ HZ0.out
      have ca2 := cell_of_row _ _ 2 _ _ _ HZ0.out
      have ca3 := cell_of_row _ _ 3 _ _ _ HZ0.out
      simp at ca0 ca1 ca2 ca3
      have cb0 := cell_of_row _ _ 0 _ _ _ HZ1.out
      have cb1 := cell_of_row _ _ 1 _ _ _ HZ1.out
      have cb2 := cell_of_row _ _ 2 _ _ _ HZ1.out
      have cb3 := cell_of_row _ _ 3 _ _ _ HZ1.out
      simp at cb0 cb1 cb2 cb3
      go_wp2_with fail
      refine (HC3.out _ _ _ _ _ HV0.out HV1.out).mono ?_
      rintro e9 v1 ⟨⟨P3, p3, rfl, hx⟩, hb⟩
      have HX9 := Lib.hid hx
      rw [← HL3.out] at HX9 ⊢
      replace HZ0 := Lib.hid (blk_carry HZ0.out hb)
      replace HV0 := Lib.hid (HV0.out.below hb)
      replace HZ1 := Lib.hid (blk_carry HZ1.out hb)
      replace HV1 := Lib.hid (HV1.out.below hb)
      replace HBw := Lib.hid (HBw.out.trans (hb.mono HBw.out.size))
      clear hb hx ca0 ca1 ca2 ca3 cb0 cb1 cb2 cb3
      obtain ⟨v2, hv2⟩ : ∃ v2, v2 = v1.alloc (.cells #[.int .i64 mo3, .int .i64 to3, .int .i64 lo3, .slice P3 l3 p3] 24) := ⟨_, rfl⟩
      have hb : Below v1.heap.size v1 v2 := by rw [hv2]; exact (Below.refl _ _).alloc (Nat.le_refl _) _
      obtain ⟨Xx, hXx⟩ : ∃ Xx, Xx = v1.heap.size := ⟨_, rfl⟩
      replace HZ0 := Lib.hid (blk_carry HZ0.out hb)
      replace HV0 := Lib.hid (HV0.out.below hb)
      replace HZ1 := Lib.hid (blk_carry HZ1.out hb)
      replace HV1 := Lib.hid (HV1.out.below hb)
      replace HBw := Lib.hid (HBw.out.trans (hb.mono HBw.out.size))
      have HZx : Hid (v2.heap[Xx]? = some (.cells #[.int .i64 mo3, .int .i64 to3, .int .i64 lo3, .slice P3 l3 p3] 24 (0, 0))) := Lib.hid (by rw [hv2, hXx]; exact Deep.blk_alloc_new _ _)
      have HVx := Lib.hid (HX9.out.below hb)
      have HWv2 := Lib.hid hv2
      have HXex := Lib.hid hXx
      clear hb hv2 hXx HX9
      have cz00 := cell_of_row _ _ 0 _ _ _ HZ0.out
      have cz01 := cell_of_row _ _ 1 _ _ _ HZ0.out
      have cz02 := cell_of_row _ _ 2 _ _ _ HZ0.out
      have cz03 := cell_of_row _ _ 3 _ _ _ HZ0.out
      have cz09 := (Array.getElem?_eq_some_iff.1 HZ0.out).1
      simp at cz00 cz01 cz02 cz03
      rw [HWv2.out] at cz00 cz01 cz02 cz03 cz09
      have cz10 := cell_of_row _ _ 0 _ _ _ HZ1.out
      have cz11 := cell_of_row _ _ 1 _ _ _ HZ1.out
      have cz12 := cell_of_row _ _ 2 _ _ _ HZ1.out
      have cz13 := cell_of_row _ _ 3 _ _ _ HZ1.out
      have cz19 := (Array.getElem?_eq_some_iff.1 HZ1.out).1
      simp at cz10 cz11 cz12 cz13
      rw [HWv2.out] at cz10 cz11 cz12 cz13 cz19
      go_wp2_with fail
      try rw [← HWv2.out]
      try rw [← HXex.out]
      clear cz00 cz01 cz02 cz03 cz09
      clear cz10 cz11 cz12 cz13 cz19
      have ca0 := cell_of_row _ _ 0 _ _ _ HZ1.out
      have ca1 := cell_of_row _ _ 1 _ _ _ HZ1.out
      have ca2 := cell_of_row _ _ 2 _ _ _ HZ1.out
      have ca3 := cell_of_row _ _ 3 _ _ _ HZ1.out
      simp at ca0 ca1 ca2 ca3
      have cb0 := cell_of_row _ _ 0 _ _ _ HZ0.out
      have cb1 := cell_of_row _ _ 1 _ _ _ HZ0.out
      have cb2 := cell_of_row _ _ 2 _ _ _ HZ0.out
      have cb3 := cell_of_row _ _ 3 _ _ _ HZ0.out
      simp at cb0 cb1 cb2 cb3
      go_wp2_with fail
      refine (HC4.out _ _ _ _ _ HV1.out HV0.out).mono ?_
      rintro e9 v3 ⟨⟨P4, p4, rfl, hx⟩, hb⟩
      have HX9 := Lib.hid hx
      rw [← HL3.out] at HX9 ⊢
      replace HZ0 := Lib.hid (blk_carry HZ0.out hb)
      replace HV0 := Lib.hid (HV0.out.below hb)
      replace HZ1 := Lib.hid (blk_carry HZ1.out hb)
      replace HV1 := Lib.hid (HV1.out.below hb)
      replace HZx := Lib.hid (blk_carry HZx.out hb)
      replace HVx := Lib.hid (HVx.out.below hb)
      replace HBw := Lib.hid (HBw.out.trans (hb.mono HBw.out.size))
      clear hb hx ca0 ca1 ca2 ca3 cb0 cb1 cb2 cb3
      obtain ⟨v4, hv4⟩ : ∃ v4, v4 = v3.alloc (.cells #[.int .i64 mo3, .int .i64 to3, .int .i64 lo3, .slice P4 l3 p4] 24) := ⟨_, rfl⟩
      have hb : Below v3.heap.size v3 v4 := by rw [hv4]; exact (Below.refl _ _).alloc (Nat.le_refl _) _
      obtain ⟨Xy, hXy⟩ : ∃ Xy, Xy = v3.heap.size := ⟨_, rfl⟩
      replace HZ0 := Lib.hid (blk_carry HZ0.out hb)
      replace HV0 := Lib.hid (HV0.out.below hb)
      replace HZ1 := Lib.hid (blk_carry HZ1.out hb)
      replace HV1 := Lib.hid (HV1.out.below hb)
      replace HZx := Lib.hid (blk_carry HZx.out hb)
      replace HVx := Lib.hid (HVx.out.below hb)
      replace HBw := Lib.hid (HBw.out.trans (hb.mono HBw.out.size))
      have HZy : Hid (v4.heap[Xy]? = some (.cells #[.int .i64 mo3, .int .i64 to3, .int .i64 lo3, .slice P4 l3 p4] 24 (0, 0))) := Lib.hid (by rw [hv4, hXy]; exact Deep.blk_alloc_new _ _)
      have HVy := Lib.hid (HX9.out.below hb)
      have HWv4 := Lib.hid hv4
      have HXey := Lib.hid hXy
      clear hb hv4 hXy HX9
      have cz00 := cell_of_row _ _ 0 _ _ _ HZ0.out
      have cz01 := cell_of_row _ _ 1 _ _ _ HZ0.out
      have cz02 := cell_of_row _ _ 2 _ _ _ HZ0.out
      have cz03 := cell_of_row _ _ 3 _ _ _ HZ0.out
      have cz09 := (Array.getElem?_eq_some_iff.1 HZ0.out).1
      simp at cz00 cz01 cz02 cz03
      rw [HWv4.out] at cz00 cz01 cz02 cz03 cz09
      have cz10 := cell_of_row _ _ 0 _ _ _ HZ1.out
      have cz11 := cell_of_row _ _ 1 _ _ _ HZ1.out
      have cz12 := cell_of_row _ _ 2 _ _ _ HZ1.out
      have cz13 := cell_of_row _ _ 3 _ _ _ HZ1.out
      have cz19 := (Array.getElem?_eq_some_iff.1 HZ1.out).1
      simp at cz10 cz11 cz12 cz13
      rw [HWv4.out] at cz10 cz11 cz12 cz13 cz19
      go_wp2_with fail
      try rw [← HWv4.out]
      try rw [← HXey.out]
      clear cz00 cz01 cz02 cz03 cz09
      clear cz10 cz11 cz12 cz13 cz19
      have HKc : Hid (∀ W, Below v4.heap.size v4 W → W.cell? ⟨Y0, 0, none⟩ = some (.int .i64 mo0) ∧ W.cell? ⟨Y0, 1, none⟩ = some (.int .i64 to0) ∧ W.cell? ⟨Y0, 2, none⟩ = some (.int .i64 lo0) ∧ W.cell? ⟨Y0, 3, none⟩ = some (.slice P0 l0 p0) ∧ W.cell? ⟨Y1, 0, none⟩ = some (.int .i64 mo1) ∧ W.cell? ⟨Y1, 1, none⟩ = some (.int .i64 to1) ∧ W.cell? ⟨Y1, 2, none⟩ = some (.int .i64 lo1) ∧ W.cell? ⟨Y1, 3, none⟩ = some (.slice P1 l1 p1) ∧ W.cell? ⟨Xx, 0, none⟩ = some (.int .i64 mo3) ∧ W.cell? ⟨Xx, 1, none⟩ = some (.int .i64 to3) ∧ W.cell? ⟨Xx, 2, none⟩ = some (.int .i64 lo3) ∧ W.cell? ⟨Xx, 3, none⟩ = some (.slice P3 l3 p3) ∧ W.cell? ⟨Xy, 0, none⟩ = some (.int .i64 mo3) ∧ W.cell? ⟨Xy, 1, none⟩ = some (.int .i64 to3) ∧ W.cell? ⟨Xy, 2, none⟩ = some (.int .i64 lo3) ∧ W.cell? ⟨Xy, 3, none⟩ = some (.slice P4 l3 p4)) := Lib.hid (fun W h => by
        have ga := (h.block _ (Array.getElem?_eq_some_iff.1 HZ0.out).1).trans HZ0.out
        have gb := (h.block _ (Array.getElem?_eq_some_iff.1 HZ1.out).1).trans HZ1.out
        have gc := (h.block _ (Array.getElem?_eq_some_iff.1 HZx.out).1).trans HZx.out
        have gd := (h.block _ (Array.getElem?_eq_some_iff.1 HZy.out).1).trans HZy.out
        exact ⟨cell_of_row _ _ 0 _ _ _ ga, cell_of_row _ _ 1 _ _ _ ga, cell_of_row _ _ 2 _ _ _ ga, cell_of_row _ _ 3 _ _ _ ga, cell_of_row _ _ 0 _ _ _ gb, cell_of_row _ _ 1 _ _ _ gb, cell_of_row _ _ 2 _ _ _ gb, cell_of_row _ _ 3 _ _ _ gb, cell_of_row _ _ 0 _ _ _ gc, cell_of_row _ _ 1 _ _ _ gc, cell_of_row _ _ 2 _ _ _ gc, cell_of_row _ _ 3 _ _ _ gc, cell_of_row _ _ 0 _ _ _ gd, cell_of_row _ _ 1 _ _ _ gd, cell_of_row _ _ 2 _ _ _ gd, cell_of_row _ _ 3 _ _ _ gd⟩)
      have HD0 : Hid (Below v4.heap.size v4 v4.drew) := Lib.hid (Below.refl _ _).drew
      have sent1 : True := trivial
      have sent2 : True := trivial
      have sent3 : True := trivial
      have sent4 : True := trivial
      go_region_held3 (fun W => W.cell? ⟨Y0, 0, none⟩ = some (.int .i64 mo0) ∧ W.cell? ⟨Y0, 1, none⟩ = some (.int .i64 to0) ∧ W.cell? ⟨Y0, 2, none⟩ = some (.int .i64 lo0) ∧ W.cell? ⟨Y0, 3, none⟩ = some (.slice P0 l0 p0) ∧ W.cell? ⟨Y1, 0, none⟩ = some (.int .i64 mo1) ∧ W.cell? ⟨Y1, 1, none⟩ = some (.int .i64 to1) ∧ W.cell? ⟨Y1, 2, none⟩ = some (.int .i64 lo1) ∧ W.cell? ⟨Y1, 3, none⟩ = some (.slice P1 l1 p1) ∧ W.cell? ⟨Xx, 0, none⟩ = some (.int .i64 mo3) ∧ W.cell? ⟨Xx, 1, none⟩ = some (.int .i64 to3) ∧ W.cell? ⟨Xx, 2, none⟩ = some (.int .i64 lo3) ∧ W.cell? ⟨Xx, 3, none⟩ = some (.slice P3 l3 p3) ∧ W.cell? ⟨Xy, 0, none⟩ = some (.int .i64 mo3) ∧ W.cell? ⟨Xy, 1, none⟩ = some (.int .i64 to3) ∧ W.cell? ⟨Xy, 2, none⟩ = some (.int .i64 lo3) ∧ W.cell? ⟨Xy, 3, none⟩ = some (.slice P4 l3 p4))
          (first | exact HKc.out _ HD4.out | exact HKc.out _ HD3.out | exact HKc.out _ HD2.out | exact HKc.out _ HD1.out | exact HKc.out _ HD0.out)
        ((first
          | (clear sent1; go_at_call 28; (with_reducible refine (HLm.out _ _ _ _ _ (HV0.out.below HD0.out) (HV1.out.below HD0.out)).mono ?_); rintro e9 u1 ⟨⟨B1, e1', rfl, hy⟩, hb⟩; have HD1 : Hid (Below v4.heap.size v4 u1) := Lib.hid (HD0.out.trans (hb.mono HD0.out.size)); rw [← HL3.out] at hy ⊢; have HY := Lib.hid hy; clear hb hy)
          | (clear sent2; go_at_call 15; (with_reducible refine (HEq.out _ _ _ (HU3.out _ _ _ (HVx.out.below HD1.out)) (HU3.out _ _ _ HY.out)).mono ?_); rintro e9 u2 ⟨rfl, hb⟩; have HD2 : Hid (Below v4.heap.size v4 u2) := Lib.hid (HD1.out.trans (hb.mono HD1.out.size)); clear hb)
          | (clear sent3; go_at_call 15; (with_reducible refine (HEq.out _ _ _ (HU3.out _ _ _ (HVy.out.below HD2.out)) (HU3.out _ _ _ (HVx.out.below HD2.out))).mono ?_); rintro e9 u3 ⟨rfl, hb⟩; have HD3 : Hid (Below v4.heap.size v4 u3) := Lib.hid (HD2.out.trans (hb.mono HD2.out.size)); clear hb)
          | (clear sent4; go_at_call 16; (with_reducible refine (HCk.out _ _ (HU3.out _ _ _ (HVx.out.below HD3.out))).mono ?_); rintro e9 u4 ⟨rfl, hb⟩; have HD4 : Hid (Below v4.heap.size v4 u4) := Lib.hid (HD3.out.trans (hb.mono HD3.out.size)); clear hb)
          | fail))
      have hb := HD4.out
      replace HZ0 := Lib.hid (blk_carry HZ0.out hb)
      replace HV0 := Lib.hid (HV0.out.below hb)
      replace HZ1 := Lib.hid (blk_carry HZ1.out hb)
      replace HV1 := Lib.hid (HV1.out.below hb)
      replace HZx := Lib.hid (blk_carry HZx.out hb)
      replace HVx := Lib.hid (HVx.out.below hb)
      replace HZy := Lib.hid (blk_carry HZy.out hb)
      replace HVy := Lib.hid (HVy.out.below hb)
      replace HBw := Lib.hid (HBw.out.trans (hb.mono HBw.out.size))
      clear hb HKc HD0 HD1 HD2 HD3 HD4 HY
      have HIw0 := Lib.hid (fun W (h : Below w.heap.size w W) => HIq0.out.below h)
      have HIw1 := Lib.hid (fun W (h : Below w.heap.size w W) => HIq1.out.below h)
      go_wp2_with fail
      go_loopw [13, 14, 15, 16, 17] (fun kv _a _b _c _d wq => ∃ k : Nat, k ≤ 26 ∧ kv = .int .i64 (k : Int) ∧ Hid (Below w.heap.size w wq) ∧ Hid (wq.heap[Xx]? = some (.cells #[.int .i64 mo3, .int .i64 to3, .int .i64 lo3, .slice P3 l3 p3] 24 (0, 0))) ∧ Hid (SlV wq (.slice P3 l3 p3) cs3)) (fun kv _ _ _ _ _ => 26 - (intOf kv).toNat)
      case atStart => exact ⟨0, Nat.zero_le _, rfl, HBw, HZx, HVx⟩
      case round =>
        obtain ⟨k', hk', rfl, HBq, HZx, HVx⟩ := hrel
        have hk0 : (0 : Int) ≤ (k' : Int) := by omega
        by_cases hlt : k' < 26
        · have hkI : (k' : Int) < 26 := by omega
          have hwk : IntKind.u8.wrap (k' : Int) = (k' : Int) := by simp only [IntKind.wrap_u8]; omega
          have hwk1 : IntKind.i64.wrap ((k' : Int) + 1) = (k' : Int) + 1 := by simp only [IntKind.wrap_i64]; omega
          have HKk : Hid (∀ W, Calls Try.prog 23 #[.agg #[.int .u8 (k' : Int), .int .u8 0]] W fun e w' => e = .returned (.string (kyI k')) ∧ Below W.heap.size W w') := Lib.hid (fun W => key_any (k', 0) (by dsimp only; omega) W)
          obtain ⟨key, hkey⟩ : ∃ key, key = kyI k' := ⟨_, rfl⟩
          rw [← hkey] at HKk
          have hb3 := HG3.out.bd key
          dsimp only at hb3
          have hz0 := ex_small L key 60 (Nat.le_refl _)
          have hz1 := ex_small M key 60 (Nat.le_refl _)
          have HExk0 := Lib.hid (fun W h => HEx0.out key W h)
          have HExk1 := Lib.hid (fun W h => HEx1.out key W h)
          have HB3k := Lib.hid (fun A' c' W h => HBd3.out key A' c' W h)
          obtain ⟨ew, hew⟩ : ∃ ew, ew = exL (L.take 60) key := ⟨_, rfl⟩
          rw [← hew] at hb3 hz0 HExk0
          obtain ⟨em, hem⟩ : ∃ em, em = exL (M.take 60) key := ⟨_, rfl⟩
          rw [← hem] at hb3 hz1 HExk1
          obtain ⟨g3, hg3⟩ : ∃ g3, g3 = gt cs3 key := ⟨_, rfl⟩
          try dsimp only at HB3k
          rw [← hg3] at hb3 HB3k
          obtain ⟨u3, hu3⟩ : ∃ u3, u3 = g3 + lo3 := ⟨_, rfl⟩
          rw [← hu3] at hb3 HB3k
          have hwe : IntKind.i64.wrap (ew + em) = ew + em := by simp only [IntKind.wrap_i64]; omega
          have d1 : decide (ew + em < g3) = false := by simp; omega
          have d2 : decide (u3 < ew + em) = false := by simp; omega
          clear hkey hew hem hg3 hu3 hb3 hz0 hz1
          go_wp2_with fail
          refine (HKk.out _).mono ?_
          rintro e9 z1 ⟨rfl, hb⟩
          replace HBq := Lib.hid (HBq.out.trans (hb.mono HBq.out.size))
          replace HZx := Lib.hid (blk_carry HZx.out hb)
          replace HVx := Lib.hid (HVx.out.below hb)
          clear hb
          go_wp2_with fail
          refine (HExk0.out _ (HIw0.out _ HBq.out)).mono ?_
          rintro e9 z2 ⟨rfl, hb⟩
          replace HBq := Lib.hid (HBq.out.trans (hb.mono HBq.out.size))
          replace HZx := Lib.hid (blk_carry HZx.out hb)
          replace HVx := Lib.hid (HVx.out.below hb)
          clear hb
          go_wp2_with fail
          refine (HExk1.out _ (HIw1.out _ HBq.out)).mono ?_
          rintro e9 z3 ⟨rfl, hb⟩
          replace HBq := Lib.hid (HBq.out.trans (hb.mono HBq.out.size))
          replace HZx := Lib.hid (blk_carry HZx.out hb)
          replace HVx := Lib.hid (HVx.out.below hb)
          clear hb
          have cx0 := cell_of_row _ _ 0 _ _ _ HZx.out
          have cx1 := cell_of_row _ _ 1 _ _ _ HZx.out
          have cx2 := cell_of_row _ _ 2 _ _ _ HZx.out
          have cx3 := cell_of_row _ _ 3 _ _ _ HZx.out
          simp at cx0 cx1 cx2 cx3
          go_wp2_with fail
          refine (HB3k.out _ _ _ HVx.out).mono ?_
          rintro e9 z4 ⟨rfl, hb⟩
          replace HBq := Lib.hid (HBq.out.trans (hb.mono HBq.out.size))
          replace HZx := Lib.hid (blk_carry HZx.out hb)
          replace HVx := Lib.hid (HVx.out.below hb)
          clear hb
          clear cx0 cx1 cx2 cx3
          go_wp2_with fail
          go_roundw
          case rel => exact ⟨k' + 1, by omega, by go_num, HBq, HZx, HVx⟩
          case measure => simp [intOf] <;> omega
        · have hkI : ¬ (k' : Int) < 26 := by omega
          go_wp2_with fail
          go_ret
          exact ⟨rfl, HBq.out⟩
    · have hne : (mo0 != mo1) = true := by simpa using hmm
      have HMq := Lib.hid hmm
      clear hmm
      have HU0 : Hid (∀ W A' c', SlV W (.slice A' l0 c') cs0 → SuV W (.agg #[.int .i64 mo0, .int .i64 to0, .int .i64 lo0, .slice A' l0 c']) ⟨mo0, to0, lo0, cs0⟩) := Lib.hid (fun W A' c' h => ⟨_, rfl, h⟩)
      have HU1 : Hid (∀ W A' c', SlV W (.slice A' l1 c') cs1 → SuV W (.agg #[.int .i64 mo1, .int .i64 to1, .int .i64 lo1, .slice A' l1 c']) ⟨mo1, to1, lo1, cs1⟩) := Lib.hid (fun W A' c' h => ⟨_, rfl, h⟩)
      have HC5 := Lib.hid (fun A' c' B' d' W (h1 : SlV W (.slice A' l0 c') cs0) (h2 : SlV W (.slice B' l1 d') cs1) => mrg_no ⟨mo0, to0, lo0, cs0⟩ ⟨mo1, to1, lo1, cs1⟩ HS0.out HS1.out HMq.out _ _ W (HU0.out W A' c' h1) (HU1.out W B' d' h2))
      have HC6 := Lib.hid (fun A' c' B' d' W (h1 : SlV W (.slice A' l1 c') cs1) (h2 : SlV W (.slice B' l0 d') cs0) => mrg_no ⟨mo1, to1, lo1, cs1⟩ ⟨mo0, to0, lo0, cs0⟩ HS1.out HS0.out (Ne.symm HMq.out) _ _ W (HU1.out W A' c' h1) (HU0.out W B' d' h2))
      have ca0 := cell_of_row _ _ 0 _ _ _ HZ0.out
      have ca1 := cell_of_row _ _ 1 _ _ _ HZ0.out
      have ca2 := cell_of_row _ _ 2 _ _ _ HZ0.out
      have ca3 := cell_of_row _ _ 3 _ _ _ HZ0.out
      simp at ca0 ca1 ca2 ca3
      have cb0 := cell_of_row _ _ 0 _ _ _ HZ1.out
      have cb1 := cell_of_row _ _ 1 _ _ _ HZ1.out
      have cb2 := cell_of_row _ _ 2 _ _ _ HZ1.out
      have cb3 := cell_of_row _ _ 3 _ _ _ HZ1.out
      simp at cb0 cb1 cb2 cb3
      go_wp2_with fail
      refine (HC5.out _ _ _ _ _ HV0.out HV1.out).mono ?_
      rintro e9 v1 ⟨⟨P5, p5, rfl, hx⟩, hb⟩
      have HX9 := Lib.hid hx
      replace HZ0 := Lib.hid (blk_carry HZ0.out hb)
      replace HV0 := Lib.hid (HV0.out.below hb)
      replace HZ1 := Lib.hid (blk_carry HZ1.out hb)
      replace HV1 := Lib.hid (HV1.out.below hb)
      replace HBw := Lib.hid (HBw.out.trans (hb.mono HBw.out.size))
      clear hb hx ca0 ca1 ca2 ca3 cb0 cb1 cb2 cb3
      obtain ⟨v2, hv2⟩ : ∃ v2, v2 = v1.alloc (.cells #[.int .i64 0, .int .i64 0, .int .i64 0, .slice P5 0 p5] 24) := ⟨_, rfl⟩
      have hb : Below v1.heap.size v1 v2 := by rw [hv2]; exact (Below.refl _ _).alloc (Nat.le_refl _) _
      obtain ⟨Xx, hXx⟩ : ∃ Xx, Xx = v1.heap.size := ⟨_, rfl⟩
      replace HZ0 := Lib.hid (blk_carry HZ0.out hb)
      replace HV0 := Lib.hid (HV0.out.below hb)
      replace HZ1 := Lib.hid (blk_carry HZ1.out hb)
      replace HV1 := Lib.hid (HV1.out.below hb)
      replace HBw := Lib.hid (HBw.out.trans (hb.mono HBw.out.size))
      have HZx : Hid (v2.heap[Xx]? = some (.cells #[.int .i64 0, .int .i64 0, .int .i64 0, .slice P5 0 p5] 24 (0, 0))) := Lib.hid (by rw [hv2, hXx]; exact Deep.blk_alloc_new _ _)
      have HVx := Lib.hid (HX9.out.below hb)
      have HWv2 := Lib.hid hv2
      have HXex := Lib.hid hXx
      clear hb hv2 hXx HX9
      have cz00 := cell_of_row _ _ 0 _ _ _ HZ0.out
      have cz01 := cell_of_row _ _ 1 _ _ _ HZ0.out
      have cz02 := cell_of_row _ _ 2 _ _ _ HZ0.out
      have cz03 := cell_of_row _ _ 3 _ _ _ HZ0.out
      have cz09 := (Array.getElem?_eq_some_iff.1 HZ0.out).1
      simp at cz00 cz01 cz02 cz03
      rw [HWv2.out] at cz00 cz01 cz02 cz03 cz09
      have cz10 := cell_of_row _ _ 0 _ _ _ HZ1.out
      have cz11 := cell_of_row _ _ 1 _ _ _ HZ1.out
      have cz12 := cell_of_row _ _ 2 _ _ _ HZ1.out
      have cz13 := cell_of_row _ _ 3 _ _ _ HZ1.out
      have cz19 := (Array.getElem?_eq_some_iff.1 HZ1.out).1
      simp at cz10 cz11 cz12 cz13
      rw [HWv2.out] at cz10 cz11 cz12 cz13 cz19
      go_wp2_with fail
      try rw [← HWv2.out]
      try rw [← HXex.out]
      clear cz00 cz01 cz02 cz03 cz09
      clear cz10 cz11 cz12 cz13 cz19
      have ca0 := cell_of_row _ _ 0 _ _ _ HZ1.out
      have ca1 := cell_of_row _ _ 1 _ _ _ HZ1.out
      have ca2 := cell_of_row _ _ 2 _ _ _ HZ1.out
      have ca3 := cell_of_row _ _ 3 _ _ _ HZ1.out
      simp at ca0 ca1 ca2 ca3
      have cb0 := cell_of_row _ _ 0 _ _ _ HZ0.out
      have cb1 := cell_of_row _ _ 1 _ _ _ HZ0.out
      have cb2 := cell_of_row _ _ 2 _ _ _ HZ0.out
      have cb3 := cell_of_row _ _ 3 _ _ _ HZ0.out
      simp at cb0 cb1 cb2 cb3
      go_wp2_with fail
      refine (HC6.out _ _ _ _ _ HV1.out HV0.out).mono ?_
      rintro e9 v3 ⟨⟨P6, p6, rfl, hx⟩, hb⟩
      have HX9 := Lib.hid hx
      replace HZ0 := Lib.hid (blk_carry HZ0.out hb)
      replace HV0 := Lib.hid (HV0.out.below hb)
      replace HZ1 := Lib.hid (blk_carry HZ1.out hb)
      replace HV1 := Lib.hid (HV1.out.below hb)
      replace HZx := Lib.hid (blk_carry HZx.out hb)
      replace HVx := Lib.hid (HVx.out.below hb)
      replace HBw := Lib.hid (HBw.out.trans (hb.mono HBw.out.size))
      clear hb hx ca0 ca1 ca2 ca3 cb0 cb1 cb2 cb3
      obtain ⟨v4, hv4⟩ : ∃ v4, v4 = v3.alloc (.cells #[.int .i64 0, .int .i64 0, .int .i64 0, .slice P6 0 p6] 24) := ⟨_, rfl⟩
      have hb : Below v3.heap.size v3 v4 := by rw [hv4]; exact (Below.refl _ _).alloc (Nat.le_refl _) _
      obtain ⟨Xy, hXy⟩ : ∃ Xy, Xy = v3.heap.size := ⟨_, rfl⟩
      replace HZ0 := Lib.hid (blk_carry HZ0.out hb)
      replace HV0 := Lib.hid (HV0.out.below hb)
      replace HZ1 := Lib.hid (blk_carry HZ1.out hb)
      replace HV1 := Lib.hid (HV1.out.below hb)
      replace HZx := Lib.hid (blk_carry HZx.out hb)
      replace HVx := Lib.hid (HVx.out.below hb)
      replace HBw := Lib.hid (HBw.out.trans (hb.mono HBw.out.size))
      have HZy : Hid (v4.heap[Xy]? = some (.cells #[.int .i64 0, .int .i64 0, .int .i64 0, .slice P6 0 p6] 24 (0, 0))) := Lib.hid (by rw [hv4, hXy]; exact Deep.blk_alloc_new _ _)
      have HVy := Lib.hid (HX9.out.below hb)
      have HWv4 := Lib.hid hv4
      have HXey := Lib.hid hXy
      clear hb hv4 hXy HX9
      have cz00 := cell_of_row _ _ 0 _ _ _ HZ0.out
      have cz01 := cell_of_row _ _ 1 _ _ _ HZ0.out
      have cz02 := cell_of_row _ _ 2 _ _ _ HZ0.out
      have cz03 := cell_of_row _ _ 3 _ _ _ HZ0.out
      have cz09 := (Array.getElem?_eq_some_iff.1 HZ0.out).1
      simp at cz00 cz01 cz02 cz03
      rw [HWv4.out] at cz00 cz01 cz02 cz03 cz09
      have cz10 := cell_of_row _ _ 0 _ _ _ HZ1.out
      have cz11 := cell_of_row _ _ 1 _ _ _ HZ1.out
      have cz12 := cell_of_row _ _ 2 _ _ _ HZ1.out
      have cz13 := cell_of_row _ _ 3 _ _ _ HZ1.out
      have cz19 := (Array.getElem?_eq_some_iff.1 HZ1.out).1
      simp at cz10 cz11 cz12 cz13
      rw [HWv4.out] at cz10 cz11 cz12 cz13 cz19
      have czx0 := cell_of_row _ _ 0 _ _ _ HZx.out
      have czx1 := cell_of_row _ _ 1 _ _ _ HZx.out
      have czx2 := cell_of_row _ _ 2 _ _ _ HZx.out
      have czx3 := cell_of_row _ _ 3 _ _ _ HZx.out
      have czx9 := (Array.getElem?_eq_some_iff.1 HZx.out).1
      simp at czx0 czx1 czx2 czx3
      rw [HWv4.out] at czx0 czx1 czx2 czx3 czx9
      go_wp2_with fail
      try rw [← HWv4.out]
      try rw [← HXey.out]
      clear cz00 cz01 cz02 cz03 cz09
      clear cz10 cz11 cz12 cz13 cz19
      clear czx0 czx1 czx2 czx3 czx9
      have hen := eq_none 0 P5 p5 _ HVx.out
      refine hen.mono ?_
      rintro e9 ve ⟨rfl, hb⟩
      replace HBw := Lib.hid (HBw.out.trans (hb.mono HBw.out.size))
      clear hb hen
      go_wp2_with fail
      go_ret
      exact ⟨by first | rfl | simp, HBw.out⟩
set_option maxRecDepth 100000 in
theorem lifted (os : Os) (started : os.Started) (H : Type) (enc : TypeId × Value → H) :
    ReturnsInHanded {} Try.checked os 6 .any (Rows.heavyhitterMergesSpec.pre6 enc Try.prog Try.f6 Rows.heavyhitterMergesRow.domain false) (Rows.heavyhitterMergesSpec.post enc Try.prog Try.f6 false true false false) := by
  refine returnsInHanded_of_change (C := Try.checked) own started (by kernel_rfl) Try.func6
    (ChangeSpec.witness6 (enc := enc) (C := Try.checked) false ⟨#[], #[.agg #[.int .u8 0, .int .u8 0], .slice none 0 0, .slice none 0 0], []⟩ 8 (by kernel_rfl) (by kernel_rfl) (by kernel_rfl) (by kernel_rfl)) ?_
  intro W base args ds gs before hval0 hW _ _
  have hval : ∀ (j : Nat) t v, Try.f6.params[j]? = some t → args[j]? = some v → Value.okWide Try.prog W .any base t v := hval0
  have hW' := hW
  obtain ⟨p, q, hA0, hV, rfl, _, _⟩ := hW
  have hA : DataW.TrodAll enc Try.prog W 0 (fun _ => true) true Try.f6.params.toList args.toList ds p := hA0
  rw [Try.params6] at hA hval
  obtain ⟨v0, vs0, d0, ds0, p0, q0, hargs0, rfl, rfl, h0, r0⟩ := trodAll_cons hA
  obtain ⟨v1, vs1, d1, ds1, p1, q1, hargs1, rfl, rfl, h1, r1⟩ := trodAll_cons r0
  obtain ⟨v2, vs2, d2, ds2, p2, q2, hargs2, rfl, rfl, h2, r2⟩ := trodAll_cons r1
  obtain ⟨rfl, rfl, rfl⟩ := trodAll_nil r2
  obtain rfl : args = #[v0, v1, v2] := by cases args; simp_all
  obtain ⟨rfl, rfl⟩ := trodVars_none hV
  obtain ⟨m00, m01, rfl, rfl, rfl, wm00, wm01⟩ := open_row2 Try.underlying50 Try.underlying5 (by kernel_rfl) (by kernel_rfl) (hval 0 50 v0 rfl rfl) h0
  have lt1 : ∀ x ∈ p1, x.block < W.heap.size := fun x hx => hW'.lt x (by simp [hx])
  obtain ⟨A1, c1, L1, rfl, hL1, hc1, hn1, hs1, hR1⟩ := open_its (hval 1 34 v1 rfl rfl) h1 lt1
  have lt2 : ∀ x ∈ p2, x.block < W.heap.size := fun x hx => hW'.lt x (by simp [hx])
  obtain ⟨A2, c2, L2, rfl, hL2, hc2, hn2, hs2, hR2⟩ := open_its (hval 2 34 v2 rfl rfl) h2 lt2
  clear hA0 hval0
  simp only [List.append_nil] at hW'
  refine (walk W m00 wm00 m01 wm01 A1 c1 L1 hL1 hc1 hn1 hs1 hR1 A2 c2 L2 hL2 hc2 hn2 hs2 hR2).mono fun e W' ⟨he, hb⟩ => ?_
  subst he
  exact ⟨_, rfl, post_mem hW' hb (fun _ _ _ => trodAll_mk1 (shut_bool Try.underlying4 _)) (fun sp hsp => by
    have t := trodAll_cons_mk (shut_row2 Try.underlying50 Try.underlying5 (by kernel_rfl) (by kernel_rfl) wm00 wm01) (trodAll_cons_mk (carry laidOut (by kernel_rfl) (of_decide_eq_true (by kernel_rfl)) h1 hb lt1 sp (fun x hx => hsp x (by simp [hx]))) (trodAll_cons_mk (carry laidOut (by kernel_rfl) (of_decide_eq_true (by kernel_rfl)) h2 hb lt2 sp (fun x hx => hsp x (by simp [hx]))) trodAll_mk0))
    simp only [List.append_nil] at t
    exact t) (fun _ => rfl) (ok_one (by kernel_rfl) rfl (okWide_bool_mk Try.underlying4 _))⟩

theorem proved : Rows.HeavyhitterMergesSaid :=
  OpenClaim.holds_of_wide 6 Try.f6 rfl rfl rfl rfl rfl rfl rfl ⟨rfl, rfl, rfl, rfl, rfl⟩ rfl rfl rfl rfl rfl (by kernel_rfl) Try.func6 (by kernel_rfl)
    (of_decide_eq_true (by kernel_rfl)) (by unfold Func.isWrapper; first | (rw [if_pos (by decide +kernel)]; kernel_rfl) | (rw [if_neg (by decide +kernel)]; exact ⟨rfl, rfl⟩))
    (fun os started H enc _ => lifted os started H enc)
end Go.Proofs.Ytnpjakgdfjaglaa.lawMerges
