/- HeavyhitterParts: for any number, items and two cuts the law returns true (written by wip/bin/gen_lp22.py). No condition. -/
import Derived.Test.YtdcfhnpnfamdaaaHz
import Derived.Deep.RegionHeld3
import Derived.Deep.DeepCutAuto
namespace Go.Proofs.Ytdcfhnpnfamdaaa.lawParts
open Go.ChangeShapes Go.WideShapes Go.ChangeAt Go.RowKit Go.Joins

set_option maxRecDepth 100000 in
set_option maxHeartbeats 16000000 in
theorem walk (w : World) (a0 : Int) (wa0 : (Lit.int .u8 a0).wf = true) (A : Option Addr) (c : Nat) (L : List It) (hL : L.length ≤ 9223372036854775807) (hc : L.length ≤ c) (_hn : A = none → c = 0) (hok : ∀ x ∈ L, ItOk x) (hR : IR w A L) (a1 : Int) (wa1 : (Lit.int .u8 a1).wf = true) (a2 : Int) (wa2 : (Lit.int .u8 a2).wf = true) :
    Calls Try.prog 7 #[.int .u8 a0, .slice A L.length c, .agg #[.int .u8 a1, .int .u8 a2]] w fun e w' => e = .returned (.bool true) ∧ Below w.heap.size w w' := by
  obtain ⟨n, rfl⟩ : ∃ n : Nat, a0 = (n : Int) := ⟨a0.toNat, by have := bd8 wa0; omega⟩
  have hn8 : n ≤ 255 := by have := bd8 wa0; omega
  obtain ⟨x1, rfl⟩ : ∃ n : Nat, a1 = (n : Int) := ⟨a1.toNat, by have := bd8 wa1; omega⟩
  obtain ⟨x2, rfl⟩ : ∃ n : Nat, a2 = (n : Int) := ⟨a2.toNat, by have := bd8 wa2; omega⟩
  have hx1 : x1 ≤ 255 := by have := bd8 wa1; omega
  have hx2 : x2 ≤ 255 := by have := bd8 wa2; omega
  clear wa0 wa1 wa2
  have HSb : Hid ((Try.prog.info? 24).map (fun i => i.size) = some 4) := Lib.hid (by kernel_rfl)
  have HMo := Lib.hid (fun W => most_any n hn8 W)
  have hmo := mo_bd n
  obtain ⟨m, hm⟩ : ∃ m, m = moN n := ⟨_, rfl⟩
  rw [← hm] at HMo hmo
  have HR := Lib.hid hR
  have HOk := Lib.hid hok
  have HL := Lib.hid hL
  have HEx := Lib.hid (fun A' key W h => exact_any A' c L hL hok key W h)
  obtain ⟨ln, hln⟩ : ∃ ln, ln = L.length := ⟨_, rfl⟩
  have HLn := Lib.hid hln
  rw [← hln] at HEx hL hc ⊢
  have HMb := Lib.hid hmo
  have HCl := Lib.hid hc
  clear hR hok hm hln hmo hn8
  go_enter Try.func7, Try.ntmps7
  obtain ⟨W0, hW0⟩ : ∃ W0, W0 = w.alloc (.cells #[.int .u8 (x1 : Int), .int .u8 (x2 : Int)] 50) := ⟨_, rfl⟩
  have HB0 : Hid (Below w.heap.size w W0) := Lib.hid (by rw [hW0]; exact (Below.refl _ _).alloc (Nat.le_refl _) _)
  have HP0 : Hid (W0.heap[w.heap.size]? = some (.cells #[.int .u8 (x1 : Int), .int .u8 (x2 : Int)] 50 (0, 0))) := Lib.hid (by rw [hW0]; exact Deep.blk_alloc_new _ _)
  have HW0 := Lib.hid hW0
  clear hW0
  go_wp2_with fail
  rw [← HW0.out]
  refine (known_any _).mono ?_
  rintro e9 w1 ⟨rfl, hb⟩
  have HB := Lib.hid (HB0.out.trans (hb.mono HB0.out.size))
  have HP := Lib.hid ((hb.block _ (Array.getElem?_eq_some_iff.1 HP0.out).1).trans HP0.out)
  clear hb HB0 HP0 HW0
  by_cases h6 : (60 : Int) < (ln : Int)
  · have d6 : decide ((60 : Int) < (ln : Int)) = true := by simpa using h6
    clear h6
    go_wp2_with fail
    refine (known_any _).mono ?_
    rintro e w2 ⟨rfl, hb⟩
    have HB2 := Lib.hid (HB.out.trans (hb.mono HB.out.size))
    clear hb
    go_wp2_with fail
    go_ret
    exact ⟨rfl, HB2.out⟩
  · have d6 : decide ((60 : Int) < (ln : Int)) = false := by simpa using h6
    have hl6 : ln ≤ 60 := by omega
    clear h6
    have c0 := cell_of_row _ _ 0 _ _ _ HP.out
    have c1 := cell_of_row _ _ 1 _ _ _ HP.out
    simp at c0 c1
    obtain ⟨l1p, hl1p⟩ : ∃ l1p : Int, l1p = (ln : Int) + 1 := ⟨_, rfl⟩
    have w1' : IntKind.i64.wrap ((ln : Int) + 1) = l1p := by rw [hl1p]; simp only [IntKind.wrap_i64]; omega
    have hlp0 : l1p ≠ 0 := by omega
    obtain ⟨y1, hy1⟩ : ∃ y1, y1 = x1 % (ln + 1) := ⟨_, rfl⟩
    obtain ⟨y2, hy2⟩ : ∃ y2, y2 = x2 % (ln + 1) := ⟨_, rfl⟩
    have hq1 : ((x1 : Int)).tmod l1p = (y1 : Int) := by rw [Int.tmod_eq_emod_of_nonneg (by omega), hy1, hl1p, Int.natCast_emod, Int.natCast_add]; rfl
    have hq2 : ((x2 : Int)).tmod l1p = (y2 : Int) := by rw [Int.tmod_eq_emod_of_nonneg (by omega), hy2, hl1p, Int.natCast_emod, Int.natCast_add]; rfl
    have hy1b : y1 ≤ ln := by have := Nat.mod_lt x1 (show 0 < ln + 1 by omega); omega
    have hy2b : y2 ≤ ln := by have := Nat.mod_lt x2 (show 0 < ln + 1 by omega); omega
    have w2' : IntKind.i64.wrap (x1 : Int) = (x1 : Int) := by simp only [IntKind.wrap_i64]; omega
    have w3' : IntKind.i64.wrap (x2 : Int) = (x2 : Int) := by simp only [IntKind.wrap_i64]; omega
    have w4' : IntKind.i64.wrap (y1 : Int) = (y1 : Int) := by simp only [IntKind.wrap_i64]; omega
    have w5' : IntKind.i64.wrap (y2 : Int) = (y2 : Int) := by simp only [IntKind.wrap_i64]; omega
    obtain ⟨i, hi⟩ : ∃ i, i = min y1 y2 := ⟨_, rfl⟩
    obtain ⟨k, hk⟩ : ∃ k, k = max y1 y2 := ⟨_, rfl⟩
    have hmin : min (y1 : Int) (y2 : Int) = (i : Int) := by omega
    have hmax : max (y1 : Int) (y2 : Int) = (k : Int) := by omega
    have hik : i ≤ k := by omega
    have hkl : k ≤ ln := by omega
    clear hl1p hy1 hy2 hi hk hy1b hy2b
    have hIK := And.intro hik hkl
    have HIK := Lib.hid hIK
    -- the three parts
    obtain ⟨L1, hL1⟩ : ∃ L1, L1 = L.take i := ⟨_, rfl⟩
    obtain ⟨L2, hL2⟩ : ∃ L2, L2 = (L.take k).drop i := ⟨_, rfl⟩
    obtain ⟨L3, hL3⟩ : ∃ L3, L3 = L.drop k := ⟨_, rfl⟩
    have n1 : L1.length = i := by rw [hL1, List.length_take]; have := HLn.out; omega
    have n2 : L2.length = k - i := by rw [hL2, List.length_drop, List.length_take]; have := HLn.out; omega
    have n3 : L3.length = ln - k := by rw [hL3, List.length_drop, ← HLn.out]
    have o1 : ∀ x ∈ L1, ItOk x := fun x hx => HOk.out x (by rw [hL1] at hx; exact List.mem_of_mem_take hx)
    have o2 : ∀ x ∈ L2, ItOk x := fun x hx => HOk.out x (by rw [hL2] at hx; exact List.mem_of_mem_take (List.mem_of_mem_drop hx))
    have o3 : ∀ x ∈ L3, ItOk x := fun x hx => HOk.out x (by rw [hL3] at hx; exact List.mem_of_mem_drop hx)
    have HE3 : Hid (∀ key, exL L key = exL L1 key + exL L2 key + exL L3 key) := Lib.hid (fun key => by rw [hL1, hL2, hL3]; exact ex_three L i k hik key)
    have t1 : L1.take 60 = L1 := List.take_of_length_le (by omega)
    have t2 : L2.take 60 = L2 := List.take_of_length_le (by omega)
    have t3 : L3.take 60 = L3 := List.take_of_length_le (by omega)
    have HT : Hid (L.take 60 = L) := Lib.hid (List.take_of_length_le (by rw [← HLn.out]; exact hl6))
    have hsl1 := sl_to A ln c i (by omega)
    have hsl2 := sl_mid A ln c i k hik (by omega)
    have hsl3 := sl_from A ln c k hkl
    have HI1 : Hid (∀ W, IR W A L → IR W A L1) := Lib.hid (fun W h => by rw [hL1]; exact h.take i)
    have HI2 : Hid (∀ W, IR W A L → IR W (if c = i then A else A.map (fun a => a.add (i * 2))) L2) := Lib.hid (fun W h => by rw [hL2]; exact ir_from (h.take k) (fun e => by rw [List.length_take]; have := HLn.out; omega))
    have HI3 : Hid (∀ W, IR W A L → IR W (if c = k then A else A.map (fun a => a.add (k * 2))) L3) := Lib.hid (fun W h => by rw [hL3]; exact ir_from h (fun e => by have := HLn.out; omega))
    obtain ⟨V2, hV2⟩ : ∃ V2, V2 = (if c = i then A else A.map (fun a => a.add (i * 2))) := ⟨_, rfl⟩
    obtain ⟨V3, hV3⟩ : ∃ V3, V3 = (if c = k then A else A.map (fun a => a.add (k * 2))) := ⟨_, rfl⟩
    rw [← hV2] at hsl2 HI2
    rw [← hV3] at hsl3 HI3
    obtain ⟨d2, hd2⟩ : ∃ d2, d2 = k - i := ⟨_, rfl⟩
    obtain ⟨d3, hd3⟩ : ∃ d3, d3 = ln - k := ⟨_, rfl⟩
    obtain ⟨c2, hc2⟩ : ∃ c2, c2 = c - i := ⟨_, rfl⟩
    obtain ⟨c3, hc3⟩ : ∃ c3, c3 = c - k := ⟨_, rfl⟩
    rw [← hd2, ← hc2] at hsl2
    rw [← hd3, ← hc3] at hsl3
    rw [← hd2] at n2
    rw [← hd3] at n3
    have hb0 := st_to m (L1.take 60)
    have hm0 := st_mo m (L1.take 60)
    have hg0 := st_gd (mo := m) HMb.out.1 (L1.take 60)
    have hs0 := st_small (mo := m) ⟨HMb.out.1, by have := HMb.out; omega⟩ (L1.take 60) (by rw [List.length_take]; omega)
    have hz0 := toL_bd (L1.take 60)
    rw [t1] at hb0 hm0 hg0 hs0 hz0
    rw [n1] at hz0
    have hK0 := fun W h => stream_any m ⟨HMb.out.1, by have := HMb.out; omega⟩ A c L1 (by have := HL.out; have := HLn.out; omega) o1 W h
    rw [t1, n1] at hK0
    obtain ⟨s0, hq0⟩ : ∃ s, s = stL m L1 := ⟨_, rfl⟩
    rw [← hq0] at hb0 hm0 hg0 hs0 hK0
    obtain ⟨mo0, to0, lo0, cs0⟩ := s0
    dsimp only at hb0 hm0
    have HC0' : Hid (∀ W, IR W A L1 → Calls Try.prog 18 #[.int .i64 m, .slice A i c] W fun e w' => (∃ A' c', e = .returned (.agg #[.int .i64 mo0, .int .i64 to0, .int .i64 lo0, .slice A' cs0.length c']) ∧ SlV w' (.slice A' cs0.length c') cs0 ∧ Flat A') ∧ Below W.heap.size W w') := Lib.hid (fun W h => by
      refine (hK0 W h).mono ?_
      rintro e w' ⟨⟨u, rfl, A', c', rfl, h1, h2⟩, hb⟩
      exact ⟨⟨A', c', rfl, h1, h2⟩, hb⟩)
    have HG0 := Lib.hid hg0
    have HM0 : Hid (mo0 = m) := Lib.hid hm0
    have HTb0 : Hid (to0 ≤ 2000) := Lib.hid (by omega)
    clear hb0 hm0 hg0 hs0 hz0 hK0 hq0
    have hb1 := st_to m (L2.take 60)
    have hm1 := st_mo m (L2.take 60)
    have hg1 := st_gd (mo := m) HMb.out.1 (L2.take 60)
    have hs1 := st_small (mo := m) ⟨HMb.out.1, by have := HMb.out; omega⟩ (L2.take 60) (by rw [List.length_take]; omega)
    have hz1 := toL_bd (L2.take 60)
    rw [t2] at hb1 hm1 hg1 hs1 hz1
    rw [n2] at hz1
    have hK1 := fun W h => stream_any m ⟨HMb.out.1, by have := HMb.out; omega⟩ V2 c2 L2 (by have := HL.out; have := HLn.out; omega) o2 W h
    rw [t2, n2] at hK1
    obtain ⟨s1, hq1⟩ : ∃ s, s = stL m L2 := ⟨_, rfl⟩
    rw [← hq1] at hb1 hm1 hg1 hs1 hK1
    obtain ⟨mo1, to1, lo1, cs1⟩ := s1
    dsimp only at hb1 hm1
    have HC1' : Hid (∀ W, IR W V2 L2 → Calls Try.prog 18 #[.int .i64 m, .slice V2 d2 c2] W fun e w' => (∃ A' c', e = .returned (.agg #[.int .i64 mo1, .int .i64 to1, .int .i64 lo1, .slice A' cs1.length c']) ∧ SlV w' (.slice A' cs1.length c') cs1 ∧ Flat A') ∧ Below W.heap.size W w') := Lib.hid (fun W h => by
      refine (hK1 W h).mono ?_
      rintro e w' ⟨⟨u, rfl, A', c', rfl, h1, h2⟩, hb⟩
      exact ⟨⟨A', c', rfl, h1, h2⟩, hb⟩)
    have HG1 := Lib.hid hg1
    have HM1 : Hid (mo1 = m) := Lib.hid hm1
    have HTb1 : Hid (to1 ≤ 2000) := Lib.hid (by omega)
    clear hb1 hm1 hg1 hs1 hz1 hK1 hq1
    have hb2 := st_to m (L3.take 60)
    have hm2 := st_mo m (L3.take 60)
    have hg2 := st_gd (mo := m) HMb.out.1 (L3.take 60)
    have hs2 := st_small (mo := m) ⟨HMb.out.1, by have := HMb.out; omega⟩ (L3.take 60) (by rw [List.length_take]; omega)
    have hz2 := toL_bd (L3.take 60)
    rw [t3] at hb2 hm2 hg2 hs2 hz2
    rw [n3] at hz2
    have hK2 := fun W h => stream_any m ⟨HMb.out.1, by have := HMb.out; omega⟩ V3 c3 L3 (by have := HL.out; have := HLn.out; omega) o3 W h
    rw [t3, n3] at hK2
    obtain ⟨s2, hq2⟩ : ∃ s, s = stL m L3 := ⟨_, rfl⟩
    rw [← hq2] at hb2 hm2 hg2 hs2 hK2
    obtain ⟨mo2, to2, lo2, cs2⟩ := s2
    dsimp only at hb2 hm2
    have HC2' : Hid (∀ W, IR W V3 L3 → Calls Try.prog 18 #[.int .i64 m, .slice V3 d3 c3] W fun e w' => (∃ A' c', e = .returned (.agg #[.int .i64 mo2, .int .i64 to2, .int .i64 lo2, .slice A' cs2.length c']) ∧ SlV w' (.slice A' cs2.length c') cs2 ∧ Flat A') ∧ Below W.heap.size W w') := Lib.hid (fun W h => by
      refine (hK2 W h).mono ?_
      rintro e w' ⟨⟨u, rfl, A', c', rfl, h1, h2⟩, hb⟩
      exact ⟨⟨A', c', rfl, h1, h2⟩, hb⟩)
    have HG2 := Lib.hid hg2
    have HM2 : Hid (mo2 = m) := Lib.hid hm2
    have HTb2 : Hid (to2 ≤ 2000) := Lib.hid (by omega)
    clear hb2 hm2 hg2 hs2 hz2 hK2 hq2
    clear hL1 hL2 hL3 n1 n2 n3 o1 o2 o3 t1 t2 t3 hV2 hV3 hd2 hd3 hc2 hc3 hik hkl hL hc hl6 hIK
    go_wp2_with fail
    go_quiet (fail)
    generalize hwd : World.drewN w1 _ = wd
    have hb : Below w1.heap.size w1 wd := by rw [← hwd]; exact below_drewN (Below.refl _ _) _
    replace HB := Lib.hid (HB.out.trans (hb.mono HB.out.size))
    clear c0 c1 hq1 hq2 w1' w2' w3' w4' w5' hlp0 hb hwd
    have HRw := Lib.hid (fun W (h : Below wd.heap.size wd W) => HR.out.below (HB.out.trans (h.mono HB.out.size)))
    have HK0 := Lib.hid (fun W h => HC0'.out W (HI1.out W (HRw.out W h)))
    have HK1 := Lib.hid (fun W h => HC1'.out W (HI2.out W (HRw.out W h)))
    have HK2 := Lib.hid (fun W h => HC2'.out W (HI3.out W (HRw.out W h)))
    have HS : Hid (∀ W, Below wd.heap.size wd W → True) := Lib.hid (fun _ _ => trivial)
    go_upto_region 5 with fail
    go_cut [0, 1, 9, 10, 11] (fun s0 s1 s9 s10 s11 wx => ∃ (Y0 : Nat) (P0 : Option Addr) (p0 : Nat) (Y1 : Nat) (P1 : Option Addr) (p1 : Nat) (Y2 : Nat) (P2 : Option Addr) (p2 : Nat), s0 = .int .u8 (n : Int) ∧ s1 = .slice A ln c ∧ s9 = .pointer (some ⟨Y0, 0, none⟩) ∧ s10 = .pointer (some ⟨Y1, 0, none⟩) ∧ s11 = .pointer (some ⟨Y2, 0, none⟩) ∧ Hid (Below wd.heap.size wd wx) ∧ Hid (wx.heap[Y0]? = some (.cells #[.int .i64 mo0, .int .i64 to0, .int .i64 lo0, .slice P0 cs0.length p0] 24 (0, 0))) ∧ Hid (SlV wx (.slice P0 cs0.length p0) cs0) ∧ Hid (Flat P0) ∧ Hid (wx.heap[Y1]? = some (.cells #[.int .i64 mo1, .int .i64 to1, .int .i64 lo1, .slice P1 cs1.length p1] 24 (0, 0))) ∧ Hid (SlV wx (.slice P1 cs1.length p1) cs1) ∧ Hid (Flat P1) ∧ Hid (wx.heap[Y2]? = some (.cells #[.int .i64 mo2, .int .i64 to2, .int .i64 lo2, .slice P2 cs2.length p2] 24 (0, 0))) ∧ Hid (SlV wx (.slice P2 cs2.length p2) cs2) ∧ Hid (Flat P2))
    case first =>
      refine wp_region_inv (fun a0 w0 d a' w' => ∃ (e53 e54 e55 e56 e57 y58 e59 e60 e61 e62 e63 e64 y65 e66 e67 e68 e69 e70 y71 x9 x10 x11 : Value) (X0 X1 X2 : Nat), a' = ((((((((((((((((((((((a0.put (some 53) e53).put (some 54) e54).put (some 55) e55).put (some 56) e56).put (some 57) e57).put (some 58) y58).put (some 59) e59).put (some 60) e60).put (some 61) e61).put (some 62) e62).put (some 63) e63).put (some 64) e64).put (some 65) y65).put (some 66) e66).put (some 67) e67).put (some 68) e68).put (some 69) e69).put (some 70) e70).put (some 71) y71).put (some 9) x9).put (some 10) x10).put (some 11) x11) ∧ Hid (Below w0.heap.size w0 w') ∧ Hid (d 0 = true → e53 = .int .u8 (n : Int)) ∧ Hid (d 1 = true → e54 = .int .i64 m) ∧ Hid (d 2 = true → e55 = .slice A ln c) ∧ Hid (d 3 = true → e56 = .int .i64 (i : Int)) ∧ Hid (d 4 = true → e57 = .slice A i c) ∧ Hid (d 6 = true → e59 = .int .u8 (n : Int)) ∧ Hid (d 7 = true → e60 = .int .i64 m) ∧ Hid (d 8 = true → e61 = .slice A ln c) ∧ Hid (d 9 = true → e62 = .int .i64 (i : Int)) ∧ Hid (d 10 = true → e63 = .int .i64 (k : Int)) ∧ Hid (d 11 = true → e64 = .slice V2 d2 c2) ∧ Hid (d 13 = true → e66 = .int .u8 (n : Int)) ∧ Hid (d 14 = true → e67 = .int .i64 m) ∧ Hid (d 15 = true → e68 = .slice A ln c) ∧ Hid (d 16 = true → e69 = .int .i64 (k : Int)) ∧ Hid (d 17 = true → e70 = .slice V3 d3 c3) ∧ Hid (Js w0.heap.size ⟨mo0, to0, lo0, cs0⟩ (d 5) (d 19) (d 22) x9 y58 X0 w') ∧ Hid (Js w0.heap.size ⟨mo1, to1, lo1, cs1⟩ (d 12) (d 20) (d 23) x10 y65 X1 w') ∧ Hid (Js w0.heap.size ⟨mo2, to2, lo2, cs2⟩ (d 18) (d 21) (d 24) x11 y71 X2 w') ∧ Hid (Dj (d 19) (d 20) X0 X1) ∧ Hid (Dj (d 19) (d 21) X0 X2) ∧ Hid (Dj (d 20) (d 21) X1 X2)) (by kernel_rfl) (by kernel_rfl) ?_ ?_ ?_
      · exact ⟨undef, undef, undef, undef, undef, undef, undef, undef, undef, undef, undef, undef, undef, undef, undef, undef, undef, undef, undef, undef, undef, undef, 0, 0, 0, (by simp only [Act.put, List.setIfInBounds_toArray, List.set_cons_zero, List.set_cons_succ]), Lib.hid (Below.drew (Below.refl _ _)), Lib.hid (fun h => nomatch h), Lib.hid (fun h => nomatch h), Lib.hid (fun h => nomatch h), Lib.hid (fun h => nomatch h), Lib.hid (fun h => nomatch h), Lib.hid (fun h => nomatch h), Lib.hid (fun h => nomatch h), Lib.hid (fun h => nomatch h), Lib.hid (fun h => nomatch h), Lib.hid (fun h => nomatch h), Lib.hid (fun h => nomatch h), Lib.hid (fun h => nomatch h), Lib.hid (fun h => nomatch h), Lib.hid (fun h => nomatch h), Lib.hid (fun h => nomatch h), Lib.hid (fun h => nomatch h), Lib.hid Js.start, Lib.hid Js.start, Lib.hid Js.start, Lib.hid (fun h => nomatch h), Lib.hid (fun h => nomatch h), Lib.hid (fun h => nomatch h)⟩
      · refine ⟨?_, ?_, ?_, ?_, ?_, ?_, ?_, ?_, ?_, ?_, ?_, ?_, ?_, ?_, ?_, ?_, ?_, ?_, ?_, ?_, ?_, ?_, ?_, ?_, ?_, trivial⟩
        · intro d _ w' h0 hd hJ K hK
          obtain ⟨e53, e54, e55, e56, e57, y58, e59, e60, e61, e62, e63, e64, y65, e66, e67, e68, e69, e70, y71, x9, x10, x11, X0, X1, X2, hx, G, E0, E1, E2, E3, E4, E6, E7, E8, E9, E10, E11, E13, E14, E15, E16, E17, J0, J1, J2, D01, D02, D12⟩ := hJ
          have G1 : Below wd.heap.size wd w' := G.out
          simp only [Act.put, List.setIfInBounds_toArray, List.set_cons_zero, List.set_cons_succ] at hx
          refine step_at hx ?_
          clear hx
          clear hd h0 G1
          go_simp
          refine hK.out _ _ ⟨.int .u8 (n : Int), e54, e55, e56, e57, y58, e59, e60, e61, e62, e63, e64, y65, e66, e67, e68, e69, e70, y71, x9, x10, x11, X0, X1, X2, (by simp only [Act.put, List.setIfInBounds_toArray, List.set_cons_zero, List.set_cons_succ]), G, Lib.hid (fun _ => rfl), E1, E2, E3, E4, E6, E7, E8, E9, E10, E11, E13, E14, E15, E16, E17, J0, J1, J2, D01, D02, D12⟩
        · intro d _ w' h0 hd hJ K hK
          obtain ⟨e53, e54, e55, e56, e57, y58, e59, e60, e61, e62, e63, e64, y65, e66, e67, e68, e69, e70, y71, x9, x10, x11, X0, X1, X2, hx, G, E0, E1, E2, E3, E4, E6, E7, E8, E9, E10, E11, E13, E14, E15, E16, E17, J0, J1, J2, D01, D02, D12⟩ := hJ
          have G1 : Below wd.heap.size wd w' := G.out
          simp only [Act.put, List.setIfInBounds_toArray, List.set_cons_zero, List.set_cons_succ] at hx
          refine step_at hx ?_
          clear hx
          have d0 : d 0 = true := hd { on := 0, ground := Ground.data } (by simp) rfl
          obtain rfl := E0.out d0
          clear hd
          go_simp
          refine (HMo.out _).mono ?_
          rintro e w9 ⟨rfl, rfl⟩
          refine hK.out _ _ ⟨.int .u8 (n : Int), .int .i64 m, e55, e56, e57, y58, e59, e60, e61, e62, e63, e64, y65, e66, e67, e68, e69, e70, y71, x9, x10, x11, X0, X1, X2, (by simp only [Act.put, List.setIfInBounds_toArray, List.set_cons_zero, List.set_cons_succ]), G, Lib.hid (fun _ => rfl), Lib.hid (fun _ => rfl), E2, E3, E4, E6, E7, E8, E9, E10, E11, E13, E14, E15, E16, E17, J0, J1, J2, D01, D02, D12⟩
        · intro d _ w' h0 hd hJ K hK
          obtain ⟨e53, e54, e55, e56, e57, y58, e59, e60, e61, e62, e63, e64, y65, e66, e67, e68, e69, e70, y71, x9, x10, x11, X0, X1, X2, hx, G, E0, E1, E2, E3, E4, E6, E7, E8, E9, E10, E11, E13, E14, E15, E16, E17, J0, J1, J2, D01, D02, D12⟩ := hJ
          have G1 : Below wd.heap.size wd w' := G.out
          simp only [Act.put, List.setIfInBounds_toArray, List.set_cons_zero, List.set_cons_succ] at hx
          refine step_at hx ?_
          clear hx
          clear hd h0 G1
          go_simp
          refine hK.out _ _ ⟨e53, e54, .slice A ln c, e56, e57, y58, e59, e60, e61, e62, e63, e64, y65, e66, e67, e68, e69, e70, y71, x9, x10, x11, X0, X1, X2, (by simp only [Act.put, List.setIfInBounds_toArray, List.set_cons_zero, List.set_cons_succ]), G, E0, E1, Lib.hid (fun _ => rfl), E3, E4, E6, E7, E8, E9, E10, E11, E13, E14, E15, E16, E17, J0, J1, J2, D01, D02, D12⟩
        · intro d _ w' h0 hd hJ K hK
          obtain ⟨e53, e54, e55, e56, e57, y58, e59, e60, e61, e62, e63, e64, y65, e66, e67, e68, e69, e70, y71, x9, x10, x11, X0, X1, X2, hx, G, E0, E1, E2, E3, E4, E6, E7, E8, E9, E10, E11, E13, E14, E15, E16, E17, J0, J1, J2, D01, D02, D12⟩ := hJ
          have G1 : Below wd.heap.size wd w' := G.out
          simp only [Act.put, List.setIfInBounds_toArray, List.set_cons_zero, List.set_cons_succ] at hx
          refine step_at hx ?_
          clear hx
          clear hd h0 G1
          go_simp
          refine hK.out _ _ ⟨e53, e54, e55, .int .i64 (i : Int), e57, y58, e59, e60, e61, e62, e63, e64, y65, e66, e67, e68, e69, e70, y71, x9, x10, x11, X0, X1, X2, (by simp only [Act.put, List.setIfInBounds_toArray, List.set_cons_zero, List.set_cons_succ]), G, E0, E1, E2, Lib.hid (fun _ => rfl), E4, E6, E7, E8, E9, E10, E11, E13, E14, E15, E16, E17, J0, J1, J2, D01, D02, D12⟩
        · intro d _ w' h0 hd hJ K hK
          obtain ⟨e53, e54, e55, e56, e57, y58, e59, e60, e61, e62, e63, e64, y65, e66, e67, e68, e69, e70, y71, x9, x10, x11, X0, X1, X2, hx, G, E0, E1, E2, E3, E4, E6, E7, E8, E9, E10, E11, E13, E14, E15, E16, E17, J0, J1, J2, D01, D02, D12⟩ := hJ
          have G1 : Below wd.heap.size wd w' := G.out
          simp only [Act.put, List.setIfInBounds_toArray, List.set_cons_zero, List.set_cons_succ] at hx
          refine step_at hx ?_
          clear hx
          have d2 : d 2 = true := hd { on := 2, ground := Ground.data } (by simp) rfl
          obtain rfl := E2.out d2
          have d3 : d 3 = true := hd { on := 3, ground := Ground.data } (by simp) rfl
          obtain rfl := E3.out d3
          clear hd h0 G1
          go_simp
          refine hK.out _ _ ⟨e53, e54, .slice A ln c, .int .i64 (i : Int), .slice A i c, y58, e59, e60, e61, e62, e63, e64, y65, e66, e67, e68, e69, e70, y71, x9, x10, x11, X0, X1, X2, (by simp only [Act.put, List.setIfInBounds_toArray, List.set_cons_zero, List.set_cons_succ]), G, E0, E1, Lib.hid (fun _ => rfl), Lib.hid (fun _ => rfl), Lib.hid (fun _ => rfl), E6, E7, E8, E9, E10, E11, E13, E14, E15, E16, E17, J0, J1, J2, D01, D02, D12⟩
        · intro d _ w' h0 hd hJ K hK
          obtain ⟨e53, e54, e55, e56, e57, y58, e59, e60, e61, e62, e63, e64, y65, e66, e67, e68, e69, e70, y71, x9, x10, x11, X0, X1, X2, hx, G, E0, E1, E2, E3, E4, E6, E7, E8, E9, E10, E11, E13, E14, E15, E16, E17, J0, J1, J2, D01, D02, D12⟩ := hJ
          have G1 : Below wd.heap.size wd w' := G.out
          simp only [Act.put, List.setIfInBounds_toArray, List.set_cons_zero, List.set_cons_succ] at hx
          refine step_at hx ?_
          clear hx
          have d1 : d 1 = true := hd { on := 1, ground := Ground.data } (by simp) rfl
          obtain rfl := E1.out d1
          have d4 : d 4 = true := hd { on := 4, ground := Ground.data } (by simp) rfl
          obtain rfl := E4.out d4
          clear hd
          go_simp
          refine (HK0.out _ G1).mono ?_
          rintro e v ⟨⟨P, p, rfl, hr, hf⟩, hb⟩
          refine hK.out _ _ ⟨e53, .int .i64 m, e55, e56, .slice A i c, .agg #[.int .i64 mo0, .int .i64 to0, .int .i64 lo0, .slice P cs0.length p], e59, e60, e61, e62, e63, e64, y65, e66, e67, e68, e69, e70, y71, x9, x10, x11, X0, X1, X2, (by simp only [Act.put, List.setIfInBounds_toArray, List.set_cons_zero, List.set_cons_succ]), Lib.hid (G.out.trans (hb.mono G.out.size)), E0, Lib.hid (fun _ => rfl), E2, E3, Lib.hid (fun _ => rfl), E6, E7, E8, E9, E10, E11, E13, E14, E15, E16, E17, Lib.hid (J0.out.call h0 hb hr hf), Lib.hid (J1.out.next hb), Lib.hid (J2.out.next hb), D01, D02, D12⟩
        · intro d _ w' h0 hd hJ K hK
          obtain ⟨e53, e54, e55, e56, e57, y58, e59, e60, e61, e62, e63, e64, y65, e66, e67, e68, e69, e70, y71, x9, x10, x11, X0, X1, X2, hx, G, E0, E1, E2, E3, E4, E6, E7, E8, E9, E10, E11, E13, E14, E15, E16, E17, J0, J1, J2, D01, D02, D12⟩ := hJ
          have G1 : Below wd.heap.size wd w' := G.out
          simp only [Act.put, List.setIfInBounds_toArray, List.set_cons_zero, List.set_cons_succ] at hx
          refine step_at hx ?_
          clear hx
          clear hd h0 G1
          go_simp
          refine hK.out _ _ ⟨e53, e54, e55, e56, e57, y58, .int .u8 (n : Int), e60, e61, e62, e63, e64, y65, e66, e67, e68, e69, e70, y71, x9, x10, x11, X0, X1, X2, (by simp only [Act.put, List.setIfInBounds_toArray, List.set_cons_zero, List.set_cons_succ]), G, E0, E1, E2, E3, E4, Lib.hid (fun _ => rfl), E7, E8, E9, E10, E11, E13, E14, E15, E16, E17, J0, J1, J2, D01, D02, D12⟩
        · intro d _ w' h0 hd hJ K hK
          obtain ⟨e53, e54, e55, e56, e57, y58, e59, e60, e61, e62, e63, e64, y65, e66, e67, e68, e69, e70, y71, x9, x10, x11, X0, X1, X2, hx, G, E0, E1, E2, E3, E4, E6, E7, E8, E9, E10, E11, E13, E14, E15, E16, E17, J0, J1, J2, D01, D02, D12⟩ := hJ
          have G1 : Below wd.heap.size wd w' := G.out
          simp only [Act.put, List.setIfInBounds_toArray, List.set_cons_zero, List.set_cons_succ] at hx
          refine step_at hx ?_
          clear hx
          have d6 : d 6 = true := hd { on := 6, ground := Ground.data } (by simp) rfl
          obtain rfl := E6.out d6
          clear hd
          go_simp
          refine (HMo.out _).mono ?_
          rintro e w9 ⟨rfl, rfl⟩
          refine hK.out _ _ ⟨e53, e54, e55, e56, e57, y58, .int .u8 (n : Int), .int .i64 m, e61, e62, e63, e64, y65, e66, e67, e68, e69, e70, y71, x9, x10, x11, X0, X1, X2, (by simp only [Act.put, List.setIfInBounds_toArray, List.set_cons_zero, List.set_cons_succ]), G, E0, E1, E2, E3, E4, Lib.hid (fun _ => rfl), Lib.hid (fun _ => rfl), E8, E9, E10, E11, E13, E14, E15, E16, E17, J0, J1, J2, D01, D02, D12⟩
        · intro d _ w' h0 hd hJ K hK
          obtain ⟨e53, e54, e55, e56, e57, y58, e59, e60, e61, e62, e63, e64, y65, e66, e67, e68, e69, e70, y71, x9, x10, x11, X0, X1, X2, hx, G, E0, E1, E2, E3, E4, E6, E7, E8, E9, E10, E11, E13, E14, E15, E16, E17, J0, J1, J2, D01, D02, D12⟩ := hJ
          have G1 : Below wd.heap.size wd w' := G.out
          simp only [Act.put, List.setIfInBounds_toArray, List.set_cons_zero, List.set_cons_succ] at hx
          refine step_at hx ?_
          clear hx
          clear hd h0 G1
          go_simp
          refine hK.out _ _ ⟨e53, e54, e55, e56, e57, y58, e59, e60, .slice A ln c, e62, e63, e64, y65, e66, e67, e68, e69, e70, y71, x9, x10, x11, X0, X1, X2, (by simp only [Act.put, List.setIfInBounds_toArray, List.set_cons_zero, List.set_cons_succ]), G, E0, E1, E2, E3, E4, E6, E7, Lib.hid (fun _ => rfl), E9, E10, E11, E13, E14, E15, E16, E17, J0, J1, J2, D01, D02, D12⟩
        · intro d _ w' h0 hd hJ K hK
          obtain ⟨e53, e54, e55, e56, e57, y58, e59, e60, e61, e62, e63, e64, y65, e66, e67, e68, e69, e70, y71, x9, x10, x11, X0, X1, X2, hx, G, E0, E1, E2, E3, E4, E6, E7, E8, E9, E10, E11, E13, E14, E15, E16, E17, J0, J1, J2, D01, D02, D12⟩ := hJ
          have G1 : Below wd.heap.size wd w' := G.out
          simp only [Act.put, List.setIfInBounds_toArray, List.set_cons_zero, List.set_cons_succ] at hx
          refine step_at hx ?_
          clear hx
          clear hd h0 G1
          go_simp
          refine hK.out _ _ ⟨e53, e54, e55, e56, e57, y58, e59, e60, e61, .int .i64 (i : Int), e63, e64, y65, e66, e67, e68, e69, e70, y71, x9, x10, x11, X0, X1, X2, (by simp only [Act.put, List.setIfInBounds_toArray, List.set_cons_zero, List.set_cons_succ]), G, E0, E1, E2, E3, E4, E6, E7, E8, Lib.hid (fun _ => rfl), E10, E11, E13, E14, E15, E16, E17, J0, J1, J2, D01, D02, D12⟩
        · intro d _ w' h0 hd hJ K hK
          obtain ⟨e53, e54, e55, e56, e57, y58, e59, e60, e61, e62, e63, e64, y65, e66, e67, e68, e69, e70, y71, x9, x10, x11, X0, X1, X2, hx, G, E0, E1, E2, E3, E4, E6, E7, E8, E9, E10, E11, E13, E14, E15, E16, E17, J0, J1, J2, D01, D02, D12⟩ := hJ
          have G1 : Below wd.heap.size wd w' := G.out
          simp only [Act.put, List.setIfInBounds_toArray, List.set_cons_zero, List.set_cons_succ] at hx
          refine step_at hx ?_
          clear hx
          clear hd h0 G1
          go_simp
          refine hK.out _ _ ⟨e53, e54, e55, e56, e57, y58, e59, e60, e61, e62, .int .i64 (k : Int), e64, y65, e66, e67, e68, e69, e70, y71, x9, x10, x11, X0, X1, X2, (by simp only [Act.put, List.setIfInBounds_toArray, List.set_cons_zero, List.set_cons_succ]), G, E0, E1, E2, E3, E4, E6, E7, E8, E9, Lib.hid (fun _ => rfl), E11, E13, E14, E15, E16, E17, J0, J1, J2, D01, D02, D12⟩
        · intro d _ w' h0 hd hJ K hK
          obtain ⟨e53, e54, e55, e56, e57, y58, e59, e60, e61, e62, e63, e64, y65, e66, e67, e68, e69, e70, y71, x9, x10, x11, X0, X1, X2, hx, G, E0, E1, E2, E3, E4, E6, E7, E8, E9, E10, E11, E13, E14, E15, E16, E17, J0, J1, J2, D01, D02, D12⟩ := hJ
          have G1 : Below wd.heap.size wd w' := G.out
          simp only [Act.put, List.setIfInBounds_toArray, List.set_cons_zero, List.set_cons_succ] at hx
          refine step_at hx ?_
          clear hx
          have d8 : d 8 = true := hd { on := 8, ground := Ground.data } (by simp) rfl
          obtain rfl := E8.out d8
          have d9 : d 9 = true := hd { on := 9, ground := Ground.data } (by simp) rfl
          obtain rfl := E9.out d9
          have d10 : d 10 = true := hd { on := 10, ground := Ground.data } (by simp) rfl
          obtain rfl := E10.out d10
          clear hd h0 G1
          go_simp
          refine hK.out _ _ ⟨e53, e54, e55, e56, e57, y58, e59, e60, .slice A ln c, .int .i64 (i : Int), .int .i64 (k : Int), .slice V2 d2 c2, y65, e66, e67, e68, e69, e70, y71, x9, x10, x11, X0, X1, X2, (by simp only [Act.put, List.setIfInBounds_toArray, List.set_cons_zero, List.set_cons_succ]), G, E0, E1, E2, E3, E4, E6, E7, Lib.hid (fun _ => rfl), Lib.hid (fun _ => rfl), Lib.hid (fun _ => rfl), Lib.hid (fun _ => rfl), E13, E14, E15, E16, E17, J0, J1, J2, D01, D02, D12⟩
        · intro d _ w' h0 hd hJ K hK
          obtain ⟨e53, e54, e55, e56, e57, y58, e59, e60, e61, e62, e63, e64, y65, e66, e67, e68, e69, e70, y71, x9, x10, x11, X0, X1, X2, hx, G, E0, E1, E2, E3, E4, E6, E7, E8, E9, E10, E11, E13, E14, E15, E16, E17, J0, J1, J2, D01, D02, D12⟩ := hJ
          have G1 : Below wd.heap.size wd w' := G.out
          simp only [Act.put, List.setIfInBounds_toArray, List.set_cons_zero, List.set_cons_succ] at hx
          refine step_at hx ?_
          clear hx
          have d7 : d 7 = true := hd { on := 7, ground := Ground.data } (by simp) rfl
          obtain rfl := E7.out d7
          have d11 : d 11 = true := hd { on := 11, ground := Ground.data } (by simp) rfl
          obtain rfl := E11.out d11
          clear hd
          go_simp
          refine (HK1.out _ G1).mono ?_
          rintro e v ⟨⟨P, p, rfl, hr, hf⟩, hb⟩
          refine hK.out _ _ ⟨e53, e54, e55, e56, e57, y58, e59, .int .i64 m, e61, e62, e63, .slice V2 d2 c2, .agg #[.int .i64 mo1, .int .i64 to1, .int .i64 lo1, .slice P cs1.length p], e66, e67, e68, e69, e70, y71, x9, x10, x11, X0, X1, X2, (by simp only [Act.put, List.setIfInBounds_toArray, List.set_cons_zero, List.set_cons_succ]), Lib.hid (G.out.trans (hb.mono G.out.size)), E0, E1, E2, E3, E4, E6, Lib.hid (fun _ => rfl), E8, E9, E10, Lib.hid (fun _ => rfl), E13, E14, E15, E16, E17, Lib.hid (J0.out.next hb), Lib.hid (J1.out.call h0 hb hr hf), Lib.hid (J2.out.next hb), D01, D02, D12⟩
        · intro d _ w' h0 hd hJ K hK
          obtain ⟨e53, e54, e55, e56, e57, y58, e59, e60, e61, e62, e63, e64, y65, e66, e67, e68, e69, e70, y71, x9, x10, x11, X0, X1, X2, hx, G, E0, E1, E2, E3, E4, E6, E7, E8, E9, E10, E11, E13, E14, E15, E16, E17, J0, J1, J2, D01, D02, D12⟩ := hJ
          have G1 : Below wd.heap.size wd w' := G.out
          simp only [Act.put, List.setIfInBounds_toArray, List.set_cons_zero, List.set_cons_succ] at hx
          refine step_at hx ?_
          clear hx
          clear hd h0 G1
          go_simp
          refine hK.out _ _ ⟨e53, e54, e55, e56, e57, y58, e59, e60, e61, e62, e63, e64, y65, .int .u8 (n : Int), e67, e68, e69, e70, y71, x9, x10, x11, X0, X1, X2, (by simp only [Act.put, List.setIfInBounds_toArray, List.set_cons_zero, List.set_cons_succ]), G, E0, E1, E2, E3, E4, E6, E7, E8, E9, E10, E11, Lib.hid (fun _ => rfl), E14, E15, E16, E17, J0, J1, J2, D01, D02, D12⟩
        · intro d _ w' h0 hd hJ K hK
          obtain ⟨e53, e54, e55, e56, e57, y58, e59, e60, e61, e62, e63, e64, y65, e66, e67, e68, e69, e70, y71, x9, x10, x11, X0, X1, X2, hx, G, E0, E1, E2, E3, E4, E6, E7, E8, E9, E10, E11, E13, E14, E15, E16, E17, J0, J1, J2, D01, D02, D12⟩ := hJ
          have G1 : Below wd.heap.size wd w' := G.out
          simp only [Act.put, List.setIfInBounds_toArray, List.set_cons_zero, List.set_cons_succ] at hx
          refine step_at hx ?_
          clear hx
          have d13 : d 13 = true := hd { on := 13, ground := Ground.data } (by simp) rfl
          obtain rfl := E13.out d13
          clear hd
          go_simp
          refine (HMo.out _).mono ?_
          rintro e w9 ⟨rfl, rfl⟩
          refine hK.out _ _ ⟨e53, e54, e55, e56, e57, y58, e59, e60, e61, e62, e63, e64, y65, .int .u8 (n : Int), .int .i64 m, e68, e69, e70, y71, x9, x10, x11, X0, X1, X2, (by simp only [Act.put, List.setIfInBounds_toArray, List.set_cons_zero, List.set_cons_succ]), G, E0, E1, E2, E3, E4, E6, E7, E8, E9, E10, E11, Lib.hid (fun _ => rfl), Lib.hid (fun _ => rfl), E15, E16, E17, J0, J1, J2, D01, D02, D12⟩
        · intro d _ w' h0 hd hJ K hK
          obtain ⟨e53, e54, e55, e56, e57, y58, e59, e60, e61, e62, e63, e64, y65, e66, e67, e68, e69, e70, y71, x9, x10, x11, X0, X1, X2, hx, G, E0, E1, E2, E3, E4, E6, E7, E8, E9, E10, E11, E13, E14, E15, E16, E17, J0, J1, J2, D01, D02, D12⟩ := hJ
          have G1 : Below wd.heap.size wd w' := G.out
          simp only [Act.put, List.setIfInBounds_toArray, List.set_cons_zero, List.set_cons_succ] at hx
          refine step_at hx ?_
          clear hx
          clear hd h0 G1
          go_simp
          refine hK.out _ _ ⟨e53, e54, e55, e56, e57, y58, e59, e60, e61, e62, e63, e64, y65, e66, e67, .slice A ln c, e69, e70, y71, x9, x10, x11, X0, X1, X2, (by simp only [Act.put, List.setIfInBounds_toArray, List.set_cons_zero, List.set_cons_succ]), G, E0, E1, E2, E3, E4, E6, E7, E8, E9, E10, E11, E13, E14, Lib.hid (fun _ => rfl), E16, E17, J0, J1, J2, D01, D02, D12⟩
        · intro d _ w' h0 hd hJ K hK
          obtain ⟨e53, e54, e55, e56, e57, y58, e59, e60, e61, e62, e63, e64, y65, e66, e67, e68, e69, e70, y71, x9, x10, x11, X0, X1, X2, hx, G, E0, E1, E2, E3, E4, E6, E7, E8, E9, E10, E11, E13, E14, E15, E16, E17, J0, J1, J2, D01, D02, D12⟩ := hJ
          have G1 : Below wd.heap.size wd w' := G.out
          simp only [Act.put, List.setIfInBounds_toArray, List.set_cons_zero, List.set_cons_succ] at hx
          refine step_at hx ?_
          clear hx
          clear hd h0 G1
          go_simp
          refine hK.out _ _ ⟨e53, e54, e55, e56, e57, y58, e59, e60, e61, e62, e63, e64, y65, e66, e67, e68, .int .i64 (k : Int), e70, y71, x9, x10, x11, X0, X1, X2, (by simp only [Act.put, List.setIfInBounds_toArray, List.set_cons_zero, List.set_cons_succ]), G, E0, E1, E2, E3, E4, E6, E7, E8, E9, E10, E11, E13, E14, E15, Lib.hid (fun _ => rfl), E17, J0, J1, J2, D01, D02, D12⟩
        · intro d _ w' h0 hd hJ K hK
          obtain ⟨e53, e54, e55, e56, e57, y58, e59, e60, e61, e62, e63, e64, y65, e66, e67, e68, e69, e70, y71, x9, x10, x11, X0, X1, X2, hx, G, E0, E1, E2, E3, E4, E6, E7, E8, E9, E10, E11, E13, E14, E15, E16, E17, J0, J1, J2, D01, D02, D12⟩ := hJ
          have G1 : Below wd.heap.size wd w' := G.out
          simp only [Act.put, List.setIfInBounds_toArray, List.set_cons_zero, List.set_cons_succ] at hx
          refine step_at hx ?_
          clear hx
          have d15 : d 15 = true := hd { on := 15, ground := Ground.data } (by simp) rfl
          obtain rfl := E15.out d15
          have d16 : d 16 = true := hd { on := 16, ground := Ground.data } (by simp) rfl
          obtain rfl := E16.out d16
          clear hd h0 G1
          go_simp
          refine hK.out _ _ ⟨e53, e54, e55, e56, e57, y58, e59, e60, e61, e62, e63, e64, y65, e66, e67, .slice A ln c, .int .i64 (k : Int), .slice V3 d3 c3, y71, x9, x10, x11, X0, X1, X2, (by simp only [Act.put, List.setIfInBounds_toArray, List.set_cons_zero, List.set_cons_succ]), G, E0, E1, E2, E3, E4, E6, E7, E8, E9, E10, E11, E13, E14, Lib.hid (fun _ => rfl), Lib.hid (fun _ => rfl), Lib.hid (fun _ => rfl), J0, J1, J2, D01, D02, D12⟩
        · intro d _ w' h0 hd hJ K hK
          obtain ⟨e53, e54, e55, e56, e57, y58, e59, e60, e61, e62, e63, e64, y65, e66, e67, e68, e69, e70, y71, x9, x10, x11, X0, X1, X2, hx, G, E0, E1, E2, E3, E4, E6, E7, E8, E9, E10, E11, E13, E14, E15, E16, E17, J0, J1, J2, D01, D02, D12⟩ := hJ
          have G1 : Below wd.heap.size wd w' := G.out
          simp only [Act.put, List.setIfInBounds_toArray, List.set_cons_zero, List.set_cons_succ] at hx
          refine step_at hx ?_
          clear hx
          have d14 : d 14 = true := hd { on := 14, ground := Ground.data } (by simp) rfl
          obtain rfl := E14.out d14
          have d17 : d 17 = true := hd { on := 17, ground := Ground.data } (by simp) rfl
          obtain rfl := E17.out d17
          clear hd
          go_simp
          refine (HK2.out _ G1).mono ?_
          rintro e v ⟨⟨P, p, rfl, hr, hf⟩, hb⟩
          refine hK.out _ _ ⟨e53, e54, e55, e56, e57, y58, e59, e60, e61, e62, e63, e64, y65, e66, .int .i64 m, e68, e69, .slice V3 d3 c3, .agg #[.int .i64 mo2, .int .i64 to2, .int .i64 lo2, .slice P cs2.length p], x9, x10, x11, X0, X1, X2, (by simp only [Act.put, List.setIfInBounds_toArray, List.set_cons_zero, List.set_cons_succ]), Lib.hid (G.out.trans (hb.mono G.out.size)), E0, E1, E2, E3, E4, E6, E7, E8, E9, E10, E11, E13, Lib.hid (fun _ => rfl), E15, E16, Lib.hid (fun _ => rfl), Lib.hid (J0.out.next hb), Lib.hid (J1.out.next hb), Lib.hid (J2.out.call h0 hb hr hf), D01, D02, D12⟩
        · intro d _ w' h0 hd hJ K hK
          obtain ⟨e53, e54, e55, e56, e57, y58, e59, e60, e61, e62, e63, e64, y65, e66, e67, e68, e69, e70, y71, x9, x10, x11, X0, X1, X2, hx, G, E0, E1, E2, E3, E4, E6, E7, E8, E9, E10, E11, E13, E14, E15, E16, E17, J0, J1, J2, D01, D02, D12⟩ := hJ
          have G1 : Below wd.heap.size wd w' := G.out
          simp only [Act.put, List.setIfInBounds_toArray, List.set_cons_zero, List.set_cons_succ] at hx
          refine step_at hx ?_
          clear hx
          clear hd
          go_simp
          refine hK.out _ _ ⟨e53, e54, e55, e56, e57, y58, e59, e60, e61, e62, e63, e64, y65, e66, e67, e68, e69, e70, y71, .pointer (some ⟨w'.heap.size, 0, none⟩), x10, x11, w'.heap.size, X1, X2, (by simp only [Act.put, List.setIfInBounds_toArray, List.set_cons_zero, List.set_cons_succ]), Lib.hid (G.out.alloc G.out.size _), E0, E1, E2, E3, E4, E6, E7, E8, E9, E10, E11, E13, E14, E15, E16, E17, Lib.hid (J0.out.alloc h0 G1.size), Lib.hid (J1.out.next ((Below.refl _ _).alloc (Nat.le_refl _) _)), Lib.hid (J2.out.next ((Below.refl _ _).alloc (Nat.le_refl _) _)), Lib.hid (fun _ h => Nat.ne_of_gt (J1.out.lt h)), Lib.hid (fun _ h => Nat.ne_of_gt (J2.out.lt h)), D12⟩
        · intro d _ w' h0 hd hJ K hK
          obtain ⟨e53, e54, e55, e56, e57, y58, e59, e60, e61, e62, e63, e64, y65, e66, e67, e68, e69, e70, y71, x9, x10, x11, X0, X1, X2, hx, G, E0, E1, E2, E3, E4, E6, E7, E8, E9, E10, E11, E13, E14, E15, E16, E17, J0, J1, J2, D01, D02, D12⟩ := hJ
          have G1 : Below wd.heap.size wd w' := G.out
          simp only [Act.put, List.setIfInBounds_toArray, List.set_cons_zero, List.set_cons_succ] at hx
          refine step_at hx ?_
          clear hx
          clear hd
          go_simp
          refine hK.out _ _ ⟨e53, e54, e55, e56, e57, y58, e59, e60, e61, e62, e63, e64, y65, e66, e67, e68, e69, e70, y71, x9, .pointer (some ⟨w'.heap.size, 0, none⟩), x11, X0, w'.heap.size, X2, (by simp only [Act.put, List.setIfInBounds_toArray, List.set_cons_zero, List.set_cons_succ]), Lib.hid (G.out.alloc G.out.size _), E0, E1, E2, E3, E4, E6, E7, E8, E9, E10, E11, E13, E14, E15, E16, E17, Lib.hid (J0.out.next ((Below.refl _ _).alloc (Nat.le_refl _) _)), Lib.hid (J1.out.alloc h0 G1.size), Lib.hid (J2.out.next ((Below.refl _ _).alloc (Nat.le_refl _) _)), Lib.hid (fun h _ => Nat.ne_of_lt (J0.out.lt h)), D02, Lib.hid (fun _ h => Nat.ne_of_gt (J2.out.lt h))⟩
        · intro d _ w' h0 hd hJ K hK
          obtain ⟨e53, e54, e55, e56, e57, y58, e59, e60, e61, e62, e63, e64, y65, e66, e67, e68, e69, e70, y71, x9, x10, x11, X0, X1, X2, hx, G, E0, E1, E2, E3, E4, E6, E7, E8, E9, E10, E11, E13, E14, E15, E16, E17, J0, J1, J2, D01, D02, D12⟩ := hJ
          have G1 : Below wd.heap.size wd w' := G.out
          simp only [Act.put, List.setIfInBounds_toArray, List.set_cons_zero, List.set_cons_succ] at hx
          refine step_at hx ?_
          clear hx
          clear hd
          go_simp
          refine hK.out _ _ ⟨e53, e54, e55, e56, e57, y58, e59, e60, e61, e62, e63, e64, y65, e66, e67, e68, e69, e70, y71, x9, x10, .pointer (some ⟨w'.heap.size, 0, none⟩), X0, X1, w'.heap.size, (by simp only [Act.put, List.setIfInBounds_toArray, List.set_cons_zero, List.set_cons_succ]), Lib.hid (G.out.alloc G.out.size _), E0, E1, E2, E3, E4, E6, E7, E8, E9, E10, E11, E13, E14, E15, E16, E17, Lib.hid (J0.out.next ((Below.refl _ _).alloc (Nat.le_refl _) _)), Lib.hid (J1.out.next ((Below.refl _ _).alloc (Nat.le_refl _) _)), Lib.hid (J2.out.alloc h0 G1.size), D01, Lib.hid (fun h _ => Nat.ne_of_lt (J0.out.lt h)), Lib.hid (fun h _ => Nat.ne_of_lt (J1.out.lt h))⟩
        · intro d _ w' h0 hd hJ K hK
          obtain ⟨e53, e54, e55, e56, e57, y58, e59, e60, e61, e62, e63, e64, y65, e66, e67, e68, e69, e70, y71, x9, x10, x11, X0, X1, X2, hx, G, E0, E1, E2, E3, E4, E6, E7, E8, E9, E10, E11, E13, E14, E15, E16, E17, J0, J1, J2, D01, D02, D12⟩ := hJ
          have G1 : Below wd.heap.size wd w' := G.out
          simp only [Act.put, List.setIfInBounds_toArray, List.set_cons_zero, List.set_cons_succ] at hx
          refine step_at hx ?_
          clear hx
          have d19 : d 19 = true := hd { on := 19, ground := Ground.data } (by simp) rfl
          have d5 : d 5 = true := hd { on := 5, ground := Ground.data } (by simp) rfl
          obtain ⟨P, p, rfl, rfl, hblk, hst⟩ := J0.out.store d5 d19 h0
          have hXw := J0.out.lo d19
          clear hd
          rw [if_pos (by rfl)]
          refine wp_store_row 24 _ _ rfl X0 (rowS ⟨mo0, to0, lo0, cs0⟩ P p) rfl rfl 24 _ hblk HSb.out rfl (one_rows rfl _ _ _) ?_
          refine hK.out _ _ ⟨e53, e54, e55, e56, e57, .agg (rowS ⟨mo0, to0, lo0, cs0⟩ P p), e59, e60, e61, e62, e63, e64, y65, e66, e67, e68, e69, e70, y71, .pointer (some ⟨X0, 0, none⟩), x10, x11, X0, X1, X2, (by simp only [Act.put, List.setIfInBounds_toArray, List.set_cons_zero, List.set_cons_succ]), Lib.hid (below_setRow G.out hXw), E0, E1, E2, E3, E4, E6, E7, E8, E9, E10, E11, E13, E14, E15, E16, E17, Lib.hid hst, Lib.hid (J1.out.other hblk (fun h => (D01.out d19 h).symm) _), Lib.hid (J2.out.other hblk (fun h => (D02.out d19 h).symm) _), D01, D02, D12⟩
        · intro d _ w' h0 hd hJ K hK
          obtain ⟨e53, e54, e55, e56, e57, y58, e59, e60, e61, e62, e63, e64, y65, e66, e67, e68, e69, e70, y71, x9, x10, x11, X0, X1, X2, hx, G, E0, E1, E2, E3, E4, E6, E7, E8, E9, E10, E11, E13, E14, E15, E16, E17, J0, J1, J2, D01, D02, D12⟩ := hJ
          have G1 : Below wd.heap.size wd w' := G.out
          simp only [Act.put, List.setIfInBounds_toArray, List.set_cons_zero, List.set_cons_succ] at hx
          refine step_at hx ?_
          clear hx
          have d20 : d 20 = true := hd { on := 20, ground := Ground.data } (by simp) rfl
          have d12 : d 12 = true := hd { on := 12, ground := Ground.data } (by simp) rfl
          obtain ⟨P, p, rfl, rfl, hblk, hst⟩ := J1.out.store d12 d20 h0
          have hXw := J1.out.lo d20
          clear hd
          rw [if_pos (by rfl)]
          refine wp_store_row 24 _ _ rfl X1 (rowS ⟨mo1, to1, lo1, cs1⟩ P p) rfl rfl 24 _ hblk HSb.out rfl (one_rows rfl _ _ _) ?_
          refine hK.out _ _ ⟨e53, e54, e55, e56, e57, y58, e59, e60, e61, e62, e63, e64, .agg (rowS ⟨mo1, to1, lo1, cs1⟩ P p), e66, e67, e68, e69, e70, y71, x9, .pointer (some ⟨X1, 0, none⟩), x11, X0, X1, X2, (by simp only [Act.put, List.setIfInBounds_toArray, List.set_cons_zero, List.set_cons_succ]), Lib.hid (below_setRow G.out hXw), E0, E1, E2, E3, E4, E6, E7, E8, E9, E10, E11, E13, E14, E15, E16, E17, Lib.hid (J0.out.other hblk (fun h => (D01.out h d20)) _), Lib.hid hst, Lib.hid (J2.out.other hblk (fun h => (D12.out d20 h).symm) _), D01, D02, D12⟩
        · intro d _ w' h0 hd hJ K hK
          obtain ⟨e53, e54, e55, e56, e57, y58, e59, e60, e61, e62, e63, e64, y65, e66, e67, e68, e69, e70, y71, x9, x10, x11, X0, X1, X2, hx, G, E0, E1, E2, E3, E4, E6, E7, E8, E9, E10, E11, E13, E14, E15, E16, E17, J0, J1, J2, D01, D02, D12⟩ := hJ
          have G1 : Below wd.heap.size wd w' := G.out
          simp only [Act.put, List.setIfInBounds_toArray, List.set_cons_zero, List.set_cons_succ] at hx
          refine step_at hx ?_
          clear hx
          have d21 : d 21 = true := hd { on := 21, ground := Ground.data } (by simp) rfl
          have d18 : d 18 = true := hd { on := 18, ground := Ground.data } (by simp) rfl
          obtain ⟨P, p, rfl, rfl, hblk, hst⟩ := J2.out.store d18 d21 h0
          have hXw := J2.out.lo d21
          clear hd
          rw [if_pos (by rfl)]
          refine wp_store_row 24 _ _ rfl X2 (rowS ⟨mo2, to2, lo2, cs2⟩ P p) rfl rfl 24 _ hblk HSb.out rfl (one_rows rfl _ _ _) ?_
          refine hK.out _ _ ⟨e53, e54, e55, e56, e57, y58, e59, e60, e61, e62, e63, e64, y65, e66, e67, e68, e69, e70, .agg (rowS ⟨mo2, to2, lo2, cs2⟩ P p), x9, x10, .pointer (some ⟨X2, 0, none⟩), X0, X1, X2, (by simp only [Act.put, List.setIfInBounds_toArray, List.set_cons_zero, List.set_cons_succ]), Lib.hid (below_setRow G.out hXw), E0, E1, E2, E3, E4, E6, E7, E8, E9, E10, E11, E13, E14, E15, E16, E17, Lib.hid (J0.out.other hblk (fun h => (D02.out h d21)) _), Lib.hid (J1.out.other hblk (fun h => (D12.out h d21)) _), Lib.hid hst, D01, D02, D12⟩
      · intro d a2 w' hall hJ
        obtain ⟨e53, e54, e55, e56, e57, y58, e59, e60, e61, e62, e63, e64, y65, e66, e67, e68, e69, e70, y71, x9, x10, x11, X0, X1, X2, hx, G, E0, E1, E2, E3, E4, E6, E7, E8, E9, E10, E11, E13, E14, E15, E16, E17, J0, J1, J2, D01, D02, D12⟩ := hJ
        obtain ⟨P0, p0, rfl, rfl, hk0, hv0, hf0⟩ := J0.out.done (hall 22 (by decide))
        obtain ⟨P1, p1, rfl, rfl, hk1, hv1, hf1⟩ := J1.out.done (hall 23 (by decide))
        obtain ⟨P2, p2, rfl, rfl, hk2, hv2, hf2⟩ := J2.out.done (hall 24 (by decide))
        simp only [Act.put, List.setIfInBounds_toArray, List.set_cons_zero, List.set_cons_succ] at hx
        subst hx
        go_wp2_with fail
        go_meet
        exact ⟨_, P0, p0, _, P1, p1, _, P2, p2, rfl, rfl, rfl, rfl, rfl, G, Lib.hid hk0, Lib.hid hv0, Lib.hid hf0, Lib.hid hk1, Lib.hid hv1, Lib.hid hf1, Lib.hid hk2, Lib.hid hv2, Lib.hid hf2⟩
    case rest =>
      obtain ⟨Y0, P0, p0, Y1, P1, p1, Y2, P2, p2, rfl, rfl, rfl, rfl, rfl, HBx, HZ0, HV0, HF0, HZ1, HV1, HF1, HZ2, HV2, HF2⟩ := hcut
      replace HB := Lib.hid (HB.out.trans (HBx.out.mono HB.out.size))
      have HBw := HB
      clear HB HBx
      obtain ⟨l0, hl0⟩ : ∃ l, l = cs0.length := ⟨_, rfl⟩
      rw [← hl0] at HZ0 HV0
      clear hl0 HF0
      obtain ⟨l1, hl1⟩ : ∃ l, l = cs1.length := ⟨_, rfl⟩
      rw [← hl1] at HZ1 HV1
      clear hl1 HF1
      obtain ⟨l2, hl2⟩ : ∃ l, l = cs2.length := ⟨_, rfl⟩
      rw [← hl2] at HZ2 HV2
      clear hl2 HF2
      have hgM := HG0.out.merge HG1.out (by have := HM0.out; have := HM1.out; dsimp only; omega)
      have hmM := mg_mo ⟨mo0, to0, lo0, cs0⟩ ⟨mo1, to1, lo1, cs1⟩
      have htM := mg_to ⟨mo0, to0, lo0, cs0⟩ ⟨mo1, to1, lo1, cs1⟩
      have hcM := fun v v' W h1 h2 => mrg_ok ⟨mo0, to0, lo0, cs0⟩ ⟨mo1, to1, lo1, cs1⟩ _ _ HG0.out HG1.out (by have := HM0.out; have := HM1.out; dsimp only; omega) (by have := HM0.out; have := HMb.out; dsimp only; omega) (by have := HTb0.out; dsimp only; omega) (by have := HTb1.out; dsimp only; omega) v v' W h1 h2
      obtain ⟨s9, hs9⟩ : ∃ s9, s9 = mgS ⟨mo0, to0, lo0, cs0⟩ ⟨mo1, to1, lo1, cs1⟩ := ⟨_, rfl⟩
      rw [← hs9] at hgM hmM htM hcM
      obtain ⟨mo3, to3, lo3, cs3⟩ := s9
      dsimp only at hmM htM hcM
      have HG3 := Lib.hid hgM
      have HM3 : Hid (mo3 = m) := Lib.hid (by have := HM0.out; omega)
      have HTs3 : Hid (to3 = to0 + to1) := Lib.hid htM
      have HTb3 : Hid (to3 ≤ 4000) := Lib.hid (by have := HTb0.out; have := HTb1.out; omega)
      obtain ⟨l3, hl3⟩ : ∃ l, l = cs3.length := ⟨_, rfl⟩
      have HL3 := Lib.hid hl3
      have HC3 : Hid (∀ A' c' B' d' W, SlV W (.slice A' l0 c') cs0 → SlV W (.slice B' l1 d') cs1 → Calls Try.prog 27 #[.agg #[.int .i64 mo0, .int .i64 to0, .int .i64 lo0, .slice A' l0 c'], .agg #[.int .i64 mo1, .int .i64 to1, .int .i64 lo1, .slice B' l1 d']] W fun e w' => (∃ A9 c9, e = .returned (.tuple #[.agg #[.int .i64 mo3, .int .i64 to3, .int .i64 lo3, .slice A9 cs3.length c9], .int .i64 0]) ∧ SlV w' (.slice A9 cs3.length c9) cs3) ∧ Below W.heap.size W w') := Lib.hid (fun A' c' B' d' W h1 h2 => hcM _ _ W ⟨_, rfl, h1⟩ ⟨_, rfl, h2⟩)
      clear hgM hmM htM hcM hs9 hl3
      have hgM := HG3.out.merge HG2.out (by have := HM3.out; have := HM2.out; dsimp only; omega)
      have hmM := mg_mo ⟨mo3, to3, lo3, cs3⟩ ⟨mo2, to2, lo2, cs2⟩
      have htM := mg_to ⟨mo3, to3, lo3, cs3⟩ ⟨mo2, to2, lo2, cs2⟩
      have hcM := fun v v' W h1 h2 => mrg_ok ⟨mo3, to3, lo3, cs3⟩ ⟨mo2, to2, lo2, cs2⟩ _ _ HG3.out HG2.out (by have := HM3.out; have := HM2.out; dsimp only; omega) (by have := HM3.out; have := HMb.out; dsimp only; omega) (by have := HTb3.out; dsimp only; omega) (by have := HTb2.out; dsimp only; omega) v v' W h1 h2
      obtain ⟨s9, hs9⟩ : ∃ s9, s9 = mgS ⟨mo3, to3, lo3, cs3⟩ ⟨mo2, to2, lo2, cs2⟩ := ⟨_, rfl⟩
      rw [← hs9] at hgM hmM htM hcM
      obtain ⟨mo4, to4, lo4, cs4⟩ := s9
      dsimp only at hmM htM hcM
      have HG4 := Lib.hid hgM
      have HM4 : Hid (mo4 = m) := Lib.hid (by have := HM3.out; omega)
      have HTs4 : Hid (to4 = to3 + to2) := Lib.hid htM
      have HTb4 : Hid (to4 ≤ 8000) := Lib.hid (by have := HTb3.out; have := HTb2.out; omega)
      obtain ⟨l4, hl4⟩ : ∃ l, l = cs4.length := ⟨_, rfl⟩
      have HL4 := Lib.hid hl4
      have HC4 : Hid (∀ A' c' B' d' W, SlV W (.slice A' l3 c') cs3 → SlV W (.slice B' l2 d') cs2 → Calls Try.prog 27 #[.agg #[.int .i64 mo3, .int .i64 to3, .int .i64 lo3, .slice A' l3 c'], .agg #[.int .i64 mo2, .int .i64 to2, .int .i64 lo2, .slice B' l2 d']] W fun e w' => (∃ A9 c9, e = .returned (.tuple #[.agg #[.int .i64 mo4, .int .i64 to4, .int .i64 lo4, .slice A9 cs4.length c9], .int .i64 0]) ∧ SlV w' (.slice A9 cs4.length c9) cs4) ∧ Below W.heap.size W w') := Lib.hid (fun A' c' B' d' W h1 h2 => hcM _ _ W ⟨_, rfl, h1⟩ ⟨_, rfl, h2⟩)
      clear hgM hmM htM hcM hs9 hl4
      have hgM := HG1.out.merge HG2.out (by have := HM1.out; have := HM2.out; dsimp only; omega)
      have hmM := mg_mo ⟨mo1, to1, lo1, cs1⟩ ⟨mo2, to2, lo2, cs2⟩
      have htM := mg_to ⟨mo1, to1, lo1, cs1⟩ ⟨mo2, to2, lo2, cs2⟩
      have hcM := fun v v' W h1 h2 => mrg_ok ⟨mo1, to1, lo1, cs1⟩ ⟨mo2, to2, lo2, cs2⟩ _ _ HG1.out HG2.out (by have := HM1.out; have := HM2.out; dsimp only; omega) (by have := HM1.out; have := HMb.out; dsimp only; omega) (by have := HTb1.out; dsimp only; omega) (by have := HTb2.out; dsimp only; omega) v v' W h1 h2
      obtain ⟨s9, hs9⟩ : ∃ s9, s9 = mgS ⟨mo1, to1, lo1, cs1⟩ ⟨mo2, to2, lo2, cs2⟩ := ⟨_, rfl⟩
      rw [← hs9] at hgM hmM htM hcM
      obtain ⟨mo5, to5, lo5, cs5⟩ := s9
      dsimp only at hmM htM hcM
      have HG5 := Lib.hid hgM
      have HM5 : Hid (mo5 = m) := Lib.hid (by have := HM1.out; omega)
      have HTs5 : Hid (to5 = to1 + to2) := Lib.hid htM
      have HTb5 : Hid (to5 ≤ 4000) := Lib.hid (by have := HTb1.out; have := HTb2.out; omega)
      obtain ⟨l5, hl5⟩ : ∃ l, l = cs5.length := ⟨_, rfl⟩
      have HL5 := Lib.hid hl5
      have HC5 : Hid (∀ A' c' B' d' W, SlV W (.slice A' l1 c') cs1 → SlV W (.slice B' l2 d') cs2 → Calls Try.prog 27 #[.agg #[.int .i64 mo1, .int .i64 to1, .int .i64 lo1, .slice A' l1 c'], .agg #[.int .i64 mo2, .int .i64 to2, .int .i64 lo2, .slice B' l2 d']] W fun e w' => (∃ A9 c9, e = .returned (.tuple #[.agg #[.int .i64 mo5, .int .i64 to5, .int .i64 lo5, .slice A9 cs5.length c9], .int .i64 0]) ∧ SlV w' (.slice A9 cs5.length c9) cs5) ∧ Below W.heap.size W w') := Lib.hid (fun A' c' B' d' W h1 h2 => hcM _ _ W ⟨_, rfl, h1⟩ ⟨_, rfl, h2⟩)
      clear hgM hmM htM hcM hs9 hl5
      have hgM := HG0.out.merge HG5.out (by have := HM0.out; have := HM5.out; dsimp only; omega)
      have hmM := mg_mo ⟨mo0, to0, lo0, cs0⟩ ⟨mo5, to5, lo5, cs5⟩
      have htM := mg_to ⟨mo0, to0, lo0, cs0⟩ ⟨mo5, to5, lo5, cs5⟩
      have hcM := fun v v' W h1 h2 => mrg_ok ⟨mo0, to0, lo0, cs0⟩ ⟨mo5, to5, lo5, cs5⟩ _ _ HG0.out HG5.out (by have := HM0.out; have := HM5.out; dsimp only; omega) (by have := HM0.out; have := HMb.out; dsimp only; omega) (by have := HTb0.out; dsimp only; omega) (by have := HTb5.out; dsimp only; omega) v v' W h1 h2
      obtain ⟨s9, hs9⟩ : ∃ s9, s9 = mgS ⟨mo0, to0, lo0, cs0⟩ ⟨mo5, to5, lo5, cs5⟩ := ⟨_, rfl⟩
      rw [← hs9] at hgM hmM htM hcM
      obtain ⟨mo6, to6, lo6, cs6⟩ := s9
      dsimp only at hmM htM hcM
      have HG6 := Lib.hid hgM
      have HM6 : Hid (mo6 = m) := Lib.hid (by have := HM0.out; omega)
      have HTs6 : Hid (to6 = to0 + to5) := Lib.hid htM
      have HTb6 : Hid (to6 ≤ 8000) := Lib.hid (by have := HTb0.out; have := HTb5.out; omega)
      obtain ⟨l6, hl6⟩ : ∃ l, l = cs6.length := ⟨_, rfl⟩
      have HL6 := Lib.hid hl6
      have HC6 : Hid (∀ A' c' B' d' W, SlV W (.slice A' l0 c') cs0 → SlV W (.slice B' l5 d') cs5 → Calls Try.prog 27 #[.agg #[.int .i64 mo0, .int .i64 to0, .int .i64 lo0, .slice A' l0 c'], .agg #[.int .i64 mo5, .int .i64 to5, .int .i64 lo5, .slice B' l5 d']] W fun e w' => (∃ A9 c9, e = .returned (.tuple #[.agg #[.int .i64 mo6, .int .i64 to6, .int .i64 lo6, .slice A9 cs6.length c9], .int .i64 0]) ∧ SlV w' (.slice A9 cs6.length c9) cs6) ∧ Below W.heap.size W w') := Lib.hid (fun A' c' B' d' W h1 h2 => hcM _ _ W ⟨_, rfl, h1⟩ ⟨_, rfl, h2⟩)
      clear hgM hmM htM hcM hs9 hl6
      have HNe0_d : Hid True := Lib.hid trivial
      have ca0 := cell_of_row _ _ 0 _ _ _ HZ0.out
      have ca1 := cell_of_row _ _ 1 _ _ _ HZ0.out
      have ca2 := cell_of_row _ _ 2 _ _ _ HZ0.out
      have ca3 := cell_of_row _ _ 3 _ _ _ HZ0.out
      simp at ca0 ca1 ca2 ca3
      have cb0 := cell_of_row _ _ 0 _ _ _ HZ1.out
      have cb1 := cell_of_row _ _ 1 _ _ _ HZ1.out
      have cb2 := cell_of_row _ _ 2 _ _ _ HZ1.out
      have cb3 := cell_of_row _ _ 3 _ _ _ HZ1.out
      simp at cb0 cb1 cb2 cb3
      go_wp2_with fail
      refine (HC3.out _ _ _ _ _ HV0.out HV1.out).mono ?_
      rintro e9 v1 ⟨⟨P3, p3, rfl, hx⟩, hb⟩
      have HX9 := Lib.hid hx
      rw [← HL3.out] at HX9 ⊢
      replace HZ0 := Lib.hid (blk_carry HZ0.out hb)
      replace HV0 := Lib.hid (HV0.out.below hb)
      replace HZ1 := Lib.hid (blk_carry HZ1.out hb)
      replace HV1 := Lib.hid (HV1.out.below hb)
      replace HZ2 := Lib.hid (blk_carry HZ2.out hb)
      replace HV2 := Lib.hid (HV2.out.below hb)
      replace HBw := Lib.hid (HBw.out.trans (hb.mono HBw.out.size))
      clear hb hx ca0 ca1 ca2 ca3 cb0 cb1 cb2 cb3
      obtain ⟨v2, hv2⟩ : ∃ v2, v2 = v1.alloc (.cells #[.int .i64 mo3, .int .i64 to3, .int .i64 lo3, .slice P3 l3 p3] 24) := ⟨_, rfl⟩
      have hb : Below v1.heap.size v1 v2 := by rw [hv2]; exact (Below.refl _ _).alloc (Nat.le_refl _) _
      obtain ⟨Xx, hXx⟩ : ∃ Xx, Xx = v1.heap.size := ⟨_, rfl⟩
      have HNe0_x : Hid (Y0 ≠ Xx) := Lib.hid (by have := (Array.getElem?_eq_some_iff.1 HZ0.out).1; omega)
      have HNe1_x : Hid (Y1 ≠ Xx) := Lib.hid (by have := (Array.getElem?_eq_some_iff.1 HZ1.out).1; omega)
      have HNe2_x : Hid (Y2 ≠ Xx) := Lib.hid (by have := (Array.getElem?_eq_some_iff.1 HZ2.out).1; omega)
      have HLox : Hid (w.heap.size ≤ Xx) := Lib.hid (by have := HBw.out.size; omega)
      replace HZ0 := Lib.hid (blk_carry HZ0.out hb)
      replace HV0 := Lib.hid (HV0.out.below hb)
      replace HZ1 := Lib.hid (blk_carry HZ1.out hb)
      replace HV1 := Lib.hid (HV1.out.below hb)
      replace HZ2 := Lib.hid (blk_carry HZ2.out hb)
      replace HV2 := Lib.hid (HV2.out.below hb)
      replace HBw := Lib.hid (HBw.out.trans (hb.mono HBw.out.size))
      have HZx : Hid (v2.heap[Xx]? = some (.cells #[.int .i64 mo3, .int .i64 to3, .int .i64 lo3, .slice P3 l3 p3] 24 (0, 0))) := Lib.hid (by rw [hv2, hXx]; exact Deep.blk_alloc_new _ _)
      have HVx := Lib.hid (HX9.out.below hb)
      have HWv2 := Lib.hid hv2
      have HXex := Lib.hid hXx
      clear hb hv2 hXx HX9
      have cz0 := cell_of_row _ _ 0 _ _ _ HZ2.out
      have cz1 := cell_of_row _ _ 1 _ _ _ HZ2.out
      have cz2 := cell_of_row _ _ 2 _ _ _ HZ2.out
      have cz3 := cell_of_row _ _ 3 _ _ _ HZ2.out
      have cz9 := (Array.getElem?_eq_some_iff.1 HZ2.out).1
      simp at cz0 cz1 cz2 cz3
      rw [HWv2.out] at cz0 cz1 cz2 cz3 cz9
      go_wp2_with fail
      try rw [← HWv2.out]
      try rw [← HXex.out]
      clear cz0 cz1 cz2 cz3 cz9
      have ca0 := cell_of_row _ _ 0 _ _ _ HZx.out
      have ca1 := cell_of_row _ _ 1 _ _ _ HZx.out
      have ca2 := cell_of_row _ _ 2 _ _ _ HZx.out
      have ca3 := cell_of_row _ _ 3 _ _ _ HZx.out
      simp at ca0 ca1 ca2 ca3
      have cb0 := cell_of_row _ _ 0 _ _ _ HZ2.out
      have cb1 := cell_of_row _ _ 1 _ _ _ HZ2.out
      have cb2 := cell_of_row _ _ 2 _ _ _ HZ2.out
      have cb3 := cell_of_row _ _ 3 _ _ _ HZ2.out
      simp at cb0 cb1 cb2 cb3
      go_wp2_with fail
      refine (HC4.out _ _ _ _ _ HVx.out HV2.out).mono ?_
      rintro e9 v3 ⟨⟨P4, p4, rfl, hx⟩, hb⟩
      have HX9 := Lib.hid hx
      rw [← HL4.out] at HX9 ⊢
      replace HZ0 := Lib.hid (blk_carry HZ0.out hb)
      replace HV0 := Lib.hid (HV0.out.below hb)
      replace HZ1 := Lib.hid (blk_carry HZ1.out hb)
      replace HV1 := Lib.hid (HV1.out.below hb)
      replace HZ2 := Lib.hid (blk_carry HZ2.out hb)
      replace HV2 := Lib.hid (HV2.out.below hb)
      replace HZx := Lib.hid (blk_carry HZx.out hb)
      replace HVx := Lib.hid (HVx.out.below hb)
      replace HBw := Lib.hid (HBw.out.trans (hb.mono HBw.out.size))
      clear hb hx ca0 ca1 ca2 ca3 cb0 cb1 cb2 cb3
      have gz1 := (setRow_other v3 Xx Y1 #[.int .i64 mo4, .int .i64 to4, .int .i64 lo4, .slice P4 l4 p4] (by first | exact HNe1_x.out | exact HNe1_x.out.symm)).trans HZ1.out
      have cz10 := cell_of_row _ _ 0 _ _ _ gz1
      have cz11 := cell_of_row _ _ 1 _ _ _ gz1
      have cz12 := cell_of_row _ _ 2 _ _ _ gz1
      have cz13 := cell_of_row _ _ 3 _ _ _ gz1
      simp at cz10 cz11 cz12 cz13
      clear gz1
      have gz2 := (setRow_other v3 Xx Y2 #[.int .i64 mo4, .int .i64 to4, .int .i64 lo4, .slice P4 l4 p4] (by first | exact HNe2_x.out | exact HNe2_x.out.symm)).trans HZ2.out
      have cz20 := cell_of_row _ _ 0 _ _ _ gz2
      have cz21 := cell_of_row _ _ 1 _ _ _ gz2
      have cz22 := cell_of_row _ _ 2 _ _ _ gz2
      have cz23 := cell_of_row _ _ 3 _ _ _ gz2
      simp at cz20 cz21 cz22 cz23
      clear gz2
      go_wp2_with (refine wpList_store_row rfl _ _ _ rfl Xx #[.int .i64 mo4, .int .i64 to4, .int .i64 lo4, .slice P4 l4 p4] rfl rfl 24 _ HZx.out HSb.out rfl (one_rows rfl _ _ _) ?_)
      obtain ⟨v4, hv4⟩ : ∃ v4, v4 = v3.setRow Xx #[.int .i64 mo4, .int .i64 to4, .int .i64 lo4, .slice P4 l4 p4] := ⟨_, rfl⟩
      rw [← hv4]
      clear cz10 cz11 cz12 cz13
      clear cz20 cz21 cz22 cz23
      have hz0 := (setRow_other v3 Xx Y0 #[.int .i64 mo4, .int .i64 to4, .int .i64 lo4, .slice P4 l4 p4] (by first | exact HNe0_x.out | exact HNe0_x.out.symm)).trans HZ0.out
      rw [← hv4] at hz0
      have hv0 := slv_setRow (cs := #[.int .i64 mo4, .int .i64 to4, .int .i64 lo4, .slice P4 l4 p4]) HV0.out HZx.out
      rw [← hv4] at hv0
      have hz1 := (setRow_other v3 Xx Y1 #[.int .i64 mo4, .int .i64 to4, .int .i64 lo4, .slice P4 l4 p4] (by first | exact HNe1_x.out | exact HNe1_x.out.symm)).trans HZ1.out
      rw [← hv4] at hz1
      have hv1 := slv_setRow (cs := #[.int .i64 mo4, .int .i64 to4, .int .i64 lo4, .slice P4 l4 p4]) HV1.out HZx.out
      rw [← hv4] at hv1
      have hz2 := (setRow_other v3 Xx Y2 #[.int .i64 mo4, .int .i64 to4, .int .i64 lo4, .slice P4 l4 p4] (by first | exact HNe2_x.out | exact HNe2_x.out.symm)).trans HZ2.out
      rw [← hv4] at hz2
      have hv2 := slv_setRow (cs := #[.int .i64 mo4, .int .i64 to4, .int .i64 lo4, .slice P4 l4 p4]) HV2.out HZx.out
      rw [← hv4] at hv2
      have hx9 := slv_setRow (cs := #[.int .i64 mo4, .int .i64 to4, .int .i64 lo4, .slice P4 l4 p4]) HX9.out HZx.out
      rw [← hv4] at hx9
      have hbx := setRow_heap v3 Xx _ #[.int .i64 mo4, .int .i64 to4, .int .i64 lo4, .slice P4 l4 p4] _ _ HZx.out
      rw [← hv4] at hbx
      replace HBw : Hid (Below w.heap.size w v4) := Lib.hid (by rw [hv4]; exact below_setRow HBw.out HLox.out)
      replace HZ0 := Lib.hid hz0
      replace HV0 := Lib.hid hv0
      clear hz0 hv0
      replace HZ1 := Lib.hid hz1
      replace HV1 := Lib.hid hv1
      clear hz1 hv1
      replace HZ2 := Lib.hid hz2
      replace HV2 := Lib.hid hv2
      clear hz2 hv2
      replace HZx := Lib.hid hbx
      replace HVx := Lib.hid hx9
      clear hbx hx9 hv4 HX9
      have ca0 := cell_of_row _ _ 0 _ _ _ HZ1.out
      have ca1 := cell_of_row _ _ 1 _ _ _ HZ1.out
      have ca2 := cell_of_row _ _ 2 _ _ _ HZ1.out
      have ca3 := cell_of_row _ _ 3 _ _ _ HZ1.out
      simp at ca0 ca1 ca2 ca3
      have cb0 := cell_of_row _ _ 0 _ _ _ HZ2.out
      have cb1 := cell_of_row _ _ 1 _ _ _ HZ2.out
      have cb2 := cell_of_row _ _ 2 _ _ _ HZ2.out
      have cb3 := cell_of_row _ _ 3 _ _ _ HZ2.out
      simp at cb0 cb1 cb2 cb3
      go_wp2_with fail
      refine (HC5.out _ _ _ _ _ HV1.out HV2.out).mono ?_
      rintro e9 v5 ⟨⟨P5, p5, rfl, hx⟩, hb⟩
      have HX9 := Lib.hid hx
      rw [← HL5.out] at HX9 ⊢
      replace HZ0 := Lib.hid (blk_carry HZ0.out hb)
      replace HV0 := Lib.hid (HV0.out.below hb)
      replace HZ1 := Lib.hid (blk_carry HZ1.out hb)
      replace HV1 := Lib.hid (HV1.out.below hb)
      replace HZ2 := Lib.hid (blk_carry HZ2.out hb)
      replace HV2 := Lib.hid (HV2.out.below hb)
      replace HZx := Lib.hid (blk_carry HZx.out hb)
      replace HVx := Lib.hid (HVx.out.below hb)
      replace HBw := Lib.hid (HBw.out.trans (hb.mono HBw.out.size))
      clear hb hx ca0 ca1 ca2 ca3 cb0 cb1 cb2 cb3
      obtain ⟨v6, hv6⟩ : ∃ v6, v6 = v5.alloc (.cells #[.int .i64 mo5, .int .i64 to5, .int .i64 lo5, .slice P5 l5 p5] 24) := ⟨_, rfl⟩
      have hb : Below v5.heap.size v5 v6 := by rw [hv6]; exact (Below.refl _ _).alloc (Nat.le_refl _) _
      obtain ⟨Xy, hXy⟩ : ∃ Xy, Xy = v5.heap.size := ⟨_, rfl⟩
      have HNe0_y : Hid (Y0 ≠ Xy) := Lib.hid (by have := (Array.getElem?_eq_some_iff.1 HZ0.out).1; omega)
      have HNe1_y : Hid (Y1 ≠ Xy) := Lib.hid (by have := (Array.getElem?_eq_some_iff.1 HZ1.out).1; omega)
      have HNe2_y : Hid (Y2 ≠ Xy) := Lib.hid (by have := (Array.getElem?_eq_some_iff.1 HZ2.out).1; omega)
      have HNex_y : Hid (Xx ≠ Xy) := Lib.hid (by have := (Array.getElem?_eq_some_iff.1 HZx.out).1; omega)
      have HLoy : Hid (w.heap.size ≤ Xy) := Lib.hid (by have := HBw.out.size; omega)
      replace HZ0 := Lib.hid (blk_carry HZ0.out hb)
      replace HV0 := Lib.hid (HV0.out.below hb)
      replace HZ1 := Lib.hid (blk_carry HZ1.out hb)
      replace HV1 := Lib.hid (HV1.out.below hb)
      replace HZ2 := Lib.hid (blk_carry HZ2.out hb)
      replace HV2 := Lib.hid (HV2.out.below hb)
      replace HZx := Lib.hid (blk_carry HZx.out hb)
      replace HVx := Lib.hid (HVx.out.below hb)
      replace HBw := Lib.hid (HBw.out.trans (hb.mono HBw.out.size))
      have HZy : Hid (v6.heap[Xy]? = some (.cells #[.int .i64 mo5, .int .i64 to5, .int .i64 lo5, .slice P5 l5 p5] 24 (0, 0))) := Lib.hid (by rw [hv6, hXy]; exact Deep.blk_alloc_new _ _)
      have HVy := Lib.hid (HX9.out.below hb)
      have HWv6 := Lib.hid hv6
      have HXey := Lib.hid hXy
      clear hb hv6 hXy HX9
      have cz0 := cell_of_row _ _ 0 _ _ _ HZ0.out
      have cz1 := cell_of_row _ _ 1 _ _ _ HZ0.out
      have cz2 := cell_of_row _ _ 2 _ _ _ HZ0.out
      have cz3 := cell_of_row _ _ 3 _ _ _ HZ0.out
      have cz9 := (Array.getElem?_eq_some_iff.1 HZ0.out).1
      simp at cz0 cz1 cz2 cz3
      rw [HWv6.out] at cz0 cz1 cz2 cz3 cz9
      go_wp2_with fail
      try rw [← HWv6.out]
      try rw [← HXey.out]
      clear cz0 cz1 cz2 cz3 cz9
      have htt : to4 = to6 := by have := HTs3.out; have := HTs4.out; have := HTs5.out; have := HTs6.out; omega
      have HTT := Lib.hid htt
      have hbq : (to4 != to6) = false := by rw [htt]; simp
      clear htt
      have ca0 := cell_of_row _ _ 0 _ _ _ HZ0.out
      have ca1 := cell_of_row _ _ 1 _ _ _ HZ0.out
      have ca2 := cell_of_row _ _ 2 _ _ _ HZ0.out
      have ca3 := cell_of_row _ _ 3 _ _ _ HZ0.out
      simp at ca0 ca1 ca2 ca3
      have cb0 := cell_of_row _ _ 0 _ _ _ HZy.out
      have cb1 := cell_of_row _ _ 1 _ _ _ HZy.out
      have cb2 := cell_of_row _ _ 2 _ _ _ HZy.out
      have cb3 := cell_of_row _ _ 3 _ _ _ HZy.out
      simp at cb0 cb1 cb2 cb3
      go_wp2_with fail
      refine (HC6.out _ _ _ _ _ HV0.out HVy.out).mono ?_
      rintro e9 v7 ⟨⟨P6, p6, rfl, hx⟩, hb⟩
      have HX9 := Lib.hid hx
      rw [← HL6.out] at HX9 ⊢
      replace HZ0 := Lib.hid (blk_carry HZ0.out hb)
      replace HV0 := Lib.hid (HV0.out.below hb)
      replace HZ1 := Lib.hid (blk_carry HZ1.out hb)
      replace HV1 := Lib.hid (HV1.out.below hb)
      replace HZ2 := Lib.hid (blk_carry HZ2.out hb)
      replace HV2 := Lib.hid (HV2.out.below hb)
      replace HZx := Lib.hid (blk_carry HZx.out hb)
      replace HVx := Lib.hid (HVx.out.below hb)
      replace HZy := Lib.hid (blk_carry HZy.out hb)
      replace HVy := Lib.hid (HVy.out.below hb)
      replace HBw := Lib.hid (HBw.out.trans (hb.mono HBw.out.size))
      clear hb hx ca0 ca1 ca2 ca3 cb0 cb1 cb2 cb3
      have gzx := (setRow_other v7 Xy Xx #[.int .i64 mo6, .int .i64 to6, .int .i64 lo6, .slice P6 l6 p6] (by first | exact HNex_y.out | exact HNex_y.out.symm)).trans HZx.out
      have czx0 := cell_of_row _ _ 0 _ _ _ gzx
      have czx1 := cell_of_row _ _ 1 _ _ _ gzx
      have czx2 := cell_of_row _ _ 2 _ _ _ gzx
      have czx3 := cell_of_row _ _ 3 _ _ _ gzx
      simp at czx0 czx1 czx2 czx3
      clear gzx
      have gzy := setRow_heap v7 Xy _ #[.int .i64 mo6, .int .i64 to6, .int .i64 lo6, .slice P6 l6 p6] _ _ HZy.out
      have czy0 := cell_of_row _ _ 0 _ _ _ gzy
      have czy1 := cell_of_row _ _ 1 _ _ _ gzy
      have czy2 := cell_of_row _ _ 2 _ _ _ gzy
      have czy3 := cell_of_row _ _ 3 _ _ _ gzy
      simp at czy0 czy1 czy2 czy3
      clear gzy
      go_wp2_with (refine wpList_store_row rfl _ _ _ rfl Xy #[.int .i64 mo6, .int .i64 to6, .int .i64 lo6, .slice P6 l6 p6] rfl rfl 24 _ HZy.out HSb.out rfl (one_rows rfl _ _ _) ?_)
      obtain ⟨v8, hv8⟩ : ∃ v8, v8 = v7.setRow Xy #[.int .i64 mo6, .int .i64 to6, .int .i64 lo6, .slice P6 l6 p6] := ⟨_, rfl⟩
      rw [← hv8]
      clear czx0 czx1 czx2 czx3
      clear czy0 czy1 czy2 czy3
      have hz0 := (setRow_other v7 Xy Y0 #[.int .i64 mo6, .int .i64 to6, .int .i64 lo6, .slice P6 l6 p6] (by first | exact HNe0_y.out | exact HNe0_y.out.symm)).trans HZ0.out
      rw [← hv8] at hz0
      have hv0 := slv_setRow (cs := #[.int .i64 mo6, .int .i64 to6, .int .i64 lo6, .slice P6 l6 p6]) HV0.out HZy.out
      rw [← hv8] at hv0
      have hz1 := (setRow_other v7 Xy Y1 #[.int .i64 mo6, .int .i64 to6, .int .i64 lo6, .slice P6 l6 p6] (by first | exact HNe1_y.out | exact HNe1_y.out.symm)).trans HZ1.out
      rw [← hv8] at hz1
      have hv1 := slv_setRow (cs := #[.int .i64 mo6, .int .i64 to6, .int .i64 lo6, .slice P6 l6 p6]) HV1.out HZy.out
      rw [← hv8] at hv1
      have hz2 := (setRow_other v7 Xy Y2 #[.int .i64 mo6, .int .i64 to6, .int .i64 lo6, .slice P6 l6 p6] (by first | exact HNe2_y.out | exact HNe2_y.out.symm)).trans HZ2.out
      rw [← hv8] at hz2
      have hv2 := slv_setRow (cs := #[.int .i64 mo6, .int .i64 to6, .int .i64 lo6, .slice P6 l6 p6]) HV2.out HZy.out
      rw [← hv8] at hv2
      have hzx := (setRow_other v7 Xy Xx #[.int .i64 mo6, .int .i64 to6, .int .i64 lo6, .slice P6 l6 p6] (by first | exact HNex_y.out | exact HNex_y.out.symm)).trans HZx.out
      rw [← hv8] at hzx
      have hvx := slv_setRow (cs := #[.int .i64 mo6, .int .i64 to6, .int .i64 lo6, .slice P6 l6 p6]) HVx.out HZy.out
      rw [← hv8] at hvx
      have hx9 := slv_setRow (cs := #[.int .i64 mo6, .int .i64 to6, .int .i64 lo6, .slice P6 l6 p6]) HX9.out HZy.out
      rw [← hv8] at hx9
      have hbx := setRow_heap v7 Xy _ #[.int .i64 mo6, .int .i64 to6, .int .i64 lo6, .slice P6 l6 p6] _ _ HZy.out
      rw [← hv8] at hbx
      replace HBw : Hid (Below w.heap.size w v8) := Lib.hid (by rw [hv8]; exact below_setRow HBw.out HLoy.out)
      replace HZ0 := Lib.hid hz0
      replace HV0 := Lib.hid hv0
      clear hz0 hv0
      replace HZ1 := Lib.hid hz1
      replace HV1 := Lib.hid hv1
      clear hz1 hv1
      replace HZ2 := Lib.hid hz2
      replace HV2 := Lib.hid hv2
      clear hz2 hv2
      replace HZx := Lib.hid hzx
      replace HVx := Lib.hid hvx
      clear hzx hvx
      replace HZy := Lib.hid hbx
      replace HVy := Lib.hid hx9
      clear hbx hx9 hv8 HX9
      have cx0 := cell_of_row _ _ 0 _ _ _ HZx.out
      have cx1 := cell_of_row _ _ 1 _ _ _ HZx.out
      have cx2 := cell_of_row _ _ 2 _ _ _ HZx.out
      have cx3 := cell_of_row _ _ 3 _ _ _ HZx.out
      simp at cx0 cx1 cx2 cx3
      have cy0 := cell_of_row _ _ 0 _ _ _ HZy.out
      have cy1 := cell_of_row _ _ 1 _ _ _ HZy.out
      have cy2 := cell_of_row _ _ 2 _ _ _ HZy.out
      have cy3 := cell_of_row _ _ 3 _ _ _ HZy.out
      simp at cy0 cy1 cy2 cy3
      go_wp2_with fail
      clear cx0 cx1 cx2 cx3 cy0 cy1 cy2 cy3
      have HBd4 := Lib.hid (fun key A' c' W (h : SlV W (.slice A' l4 c') cs4) => bounds_any (.agg #[.int .i64 mo4, .int .i64 to4, .int .i64 lo4, .slice A' l4 c']) ⟨mo4, to4, lo4, cs4⟩ key (by have := (HG4.out.small (by have := HM4.out; have := HMb.out; dsimp only; omega) (by have := HTb4.out; dsimp only; omega)).size; dsimp only at this ⊢; omega) (by have h1 := (HG4.out.small (by have := HM4.out; have := HMb.out; dsimp only; omega) (by have := HTb4.out; dsimp only; omega)).gtb key; have h2 := (HG4.out.small (by have := HM4.out; have := HMb.out; dsimp only; omega) (by have := HTb4.out; dsimp only; omega)).lo; dsimp only at h1 h2 ⊢; omega) W ⟨_, rfl, h⟩)
      have HBd6 := Lib.hid (fun key A' c' W (h : SlV W (.slice A' l6 c') cs6) => bounds_any (.agg #[.int .i64 mo6, .int .i64 to6, .int .i64 lo6, .slice A' l6 c']) ⟨mo6, to6, lo6, cs6⟩ key (by have := (HG6.out.small (by have := HM6.out; have := HMb.out; dsimp only; omega) (by have := HTb6.out; dsimp only; omega)).size; dsimp only at this ⊢; omega) (by have h1 := (HG6.out.small (by have := HM6.out; have := HMb.out; dsimp only; omega) (by have := HTb6.out; dsimp only; omega)).gtb key; have h2 := (HG6.out.small (by have := HM6.out; have := HMb.out; dsimp only; omega) (by have := HTb6.out; dsimp only; omega)).lo; dsimp only at h1 h2 ⊢; omega) W ⟨_, rfl, h⟩)
      go_loopw [18, 19, 20, 21, 22, 23, 24] (fun kv _a _b _c _d _e _f wq => ∃ k : Nat, k ≤ 26 ∧ kv = .int .i64 (k : Int) ∧ Hid (Below w.heap.size w wq) ∧ Hid (wq.heap[Xx]? = some (.cells #[.int .i64 mo4, .int .i64 to4, .int .i64 lo4, .slice P4 l4 p4] 24 (0, 0))) ∧ Hid (SlV wq (.slice P4 l4 p4) cs4) ∧ Hid (wq.heap[Xy]? = some (.cells #[.int .i64 mo6, .int .i64 to6, .int .i64 lo6, .slice P6 l6 p6] 24 (0, 0))) ∧ Hid (SlV wq (.slice P6 l6 p6) cs6)) (fun kv _ _ _ _ _ _ _ => 26 - (intOf kv).toNat)
      case atStart => exact ⟨0, Nat.zero_le _, rfl, HBw, HZx, HVx, HZy, HVy⟩
      case round =>
        obtain ⟨k', hk', rfl, HBq, HZx, HVx, HZy, HVy⟩ := hrel
        have hk0 : (0 : Int) ≤ (k' : Int) := by omega
        by_cases hlt : k' < 26
        · have hkI : (k' : Int) < 26 := by omega
          have hwk : IntKind.u8.wrap (k' : Int) = (k' : Int) := by simp only [IntKind.wrap_u8]; omega
          have hwk1 : IntKind.i64.wrap ((k' : Int) + 1) = (k' : Int) + 1 := by simp only [IntKind.wrap_i64]; omega
          have HKk : Hid (∀ W, Calls Try.prog 23 #[.agg #[.int .u8 (k' : Int), .int .u8 0]] W fun e w' => e = .returned (.string (kyI k')) ∧ Below W.heap.size W w') := Lib.hid (fun W => key_any (k', 0) (by dsimp only; omega) W)
          have hb4 := HG4.out.bd (kyI k')
          have hb6 := HG6.out.bd (kyI k')
          have he3 := HE3.out (kyI k')
          dsimp only at hb4 hb6
          have HExk := Lib.hid (fun W h => HEx.out A (kyI k') W h)
          rw [HT.out] at HExk
          have HB4k := Lib.hid (fun A' c' W h => HBd4.out (kyI k') A' c' W h)
          have HB6k := Lib.hid (fun A' c' W h => HBd6.out (kyI k') A' c' W h)
          obtain ⟨key, hkey⟩ : ∃ key, key = kyI k' := ⟨_, rfl⟩
          rw [← hkey] at HKk hb4 hb6 he3 HExk HB4k HB6k
          obtain ⟨ew, hew⟩ : ∃ ew, ew = exL L key := ⟨_, rfl⟩
          rw [← hew] at he3 HExk
          obtain ⟨g4, hg4⟩ : ∃ g4, g4 = gt cs4 key := ⟨_, rfl⟩
          obtain ⟨g6, hg6⟩ : ∃ g6, g6 = gt cs6 key := ⟨_, rfl⟩
          dsimp only at HB4k HB6k
          rw [← hg4] at hb4 HB4k
          rw [← hg6] at hb6 HB6k
          obtain ⟨u4, hu4⟩ : ∃ u4, u4 = g4 + lo4 := ⟨_, rfl⟩
          obtain ⟨u6, hu6⟩ : ∃ u6, u6 = g6 + lo6 := ⟨_, rfl⟩
          rw [← hu4] at hb4 HB4k
          rw [← hu6] at hb6 HB6k
          have d1 : decide (ew < g4) = false := by simp; omega
          have d2 : decide (u4 < ew) = false := by simp; omega
          have d3 : decide (ew < g6) = false := by simp; omega
          have d4 : decide (u6 < ew) = false := by simp; omega
          clear hkey hew hg4 hg6 hu4 hu6 hb4 hb6 he3
          go_wp2_with fail
          refine (HKk.out _).mono ?_
          rintro e9 z1 ⟨rfl, hb⟩
          replace HBq := Lib.hid (HBq.out.trans (hb.mono HBq.out.size))
          replace HZx := Lib.hid (blk_carry HZx.out hb)
          replace HVx := Lib.hid (HVx.out.below hb)
          replace HZy := Lib.hid (blk_carry HZy.out hb)
          replace HVy := Lib.hid (HVy.out.below hb)
          clear hb
          go_wp2_with fail
          refine (HExk.out _ (HR.out.below HBq.out)).mono ?_
          rintro e9 z2 ⟨rfl, hb⟩
          replace HBq := Lib.hid (HBq.out.trans (hb.mono HBq.out.size))
          replace HZx := Lib.hid (blk_carry HZx.out hb)
          replace HVx := Lib.hid (HVx.out.below hb)
          replace HZy := Lib.hid (blk_carry HZy.out hb)
          replace HVy := Lib.hid (HVy.out.below hb)
          clear hb
          have cx0 := cell_of_row _ _ 0 _ _ _ HZx.out
          have cx1 := cell_of_row _ _ 1 _ _ _ HZx.out
          have cx2 := cell_of_row _ _ 2 _ _ _ HZx.out
          have cx3 := cell_of_row _ _ 3 _ _ _ HZx.out
          simp at cx0 cx1 cx2 cx3
          go_wp2_with fail
          refine (HB4k.out _ _ _ HVx.out).mono ?_
          rintro e9 z3 ⟨rfl, hb⟩
          replace HBq := Lib.hid (HBq.out.trans (hb.mono HBq.out.size))
          replace HZx := Lib.hid (blk_carry HZx.out hb)
          replace HVx := Lib.hid (HVx.out.below hb)
          replace HZy := Lib.hid (blk_carry HZy.out hb)
          replace HVy := Lib.hid (HVy.out.below hb)
          clear hb
          clear cx0 cx1 cx2 cx3
          have cy0 := cell_of_row _ _ 0 _ _ _ HZy.out
          have cy1 := cell_of_row _ _ 1 _ _ _ HZy.out
          have cy2 := cell_of_row _ _ 2 _ _ _ HZy.out
          have cy3 := cell_of_row _ _ 3 _ _ _ HZy.out
          simp at cy0 cy1 cy2 cy3
          go_wp2_with fail
          refine (HB6k.out _ _ _ HVy.out).mono ?_
          rintro e9 z4 ⟨rfl, hb⟩
          replace HBq := Lib.hid (HBq.out.trans (hb.mono HBq.out.size))
          replace HZx := Lib.hid (blk_carry HZx.out hb)
          replace HVx := Lib.hid (HVx.out.below hb)
          replace HZy := Lib.hid (blk_carry HZy.out hb)
          replace HVy := Lib.hid (HVy.out.below hb)
          clear hb
          clear cy0 cy1 cy2 cy3
          go_wp2_with fail
          go_roundw
          case rel => exact ⟨k' + 1, by omega, by go_num, HBq, HZx, HVx, HZy, HVy⟩
          case measure => simp [intOf] <;> omega
        · have hkI : ¬ (k' : Int) < 26 := by omega
          have hs4 := HG4.out.sum
          have hs6 := HG6.out.sum
          have hn4 := sm_nn HG4.out.ps.nn
          have hn6 := sm_nn HG6.out.ps.nn
          have hl4 := HG4.out.lo
          have hl6 := HG6.out.lo
          have e4 := HM4.out
          have e6 := HM6.out
          have et4 := HTb4.out
          have et6 := HTb6.out
          have hmb := HMb.out
          dsimp only at hs4 hs6 hn4 hn6 hl4 hl6
          rw [e4] at hs4
          rw [e6] at hs6
          obtain ⟨n1, hn1⟩ : ∃ n1, n1 = m + 1 := ⟨_, rfl⟩
          rw [← hn1] at hs4 hs6
          obtain ⟨r4, hr4⟩ : ∃ r4, r4 = lo4 * n1 := ⟨_, rfl⟩
          obtain ⟨r6, hr6⟩ : ∃ r6, r6 = lo6 * n1 := ⟨_, rfl⟩
          have hr40 : 0 ≤ r4 := by rw [hr4]; exact Int.mul_nonneg hl4 (by omega)
          have hr60 : 0 ≤ r6 := by rw [hr6]; exact Int.mul_nonneg hl6 (by omega)
          rw [← hr4] at hs4
          rw [← hr6] at hs6
          have w1 : IntKind.i64.wrap (m + 1) = n1 := by rw [hn1]; simp only [IntKind.wrap_i64]; omega
          have w2 : IntKind.i64.wrap (lo4 * n1) = r4 := by rw [← hr4]; simp only [IntKind.wrap_i64]; omega
          have w3 : IntKind.i64.wrap (lo6 * n1) = r6 := by rw [← hr6]; simp only [IntKind.wrap_i64]; omega
          have d1 : decide (r4 ≤ to4) = true := by simp; omega
          have d2 : decide (r6 ≤ to6) = true := by simp; omega
          clear hs4 hs6 hn4 hn6 hl4 hl6 e4 e6 et4 et6 hmb hn1 hr4 hr6 hr40 hr60
          have HCx : Hid (wr.cell? ⟨Xx, 1, none⟩ = some (.int .i64 to4) ∧ wr.cell? ⟨Xx, 2, none⟩ = some (.int .i64 lo4) ∧ wr.cell? ⟨Xy, 1, none⟩ = some (.int .i64 to6) ∧ wr.cell? ⟨Xy, 2, none⟩ = some (.int .i64 lo6)) := Lib.hid ⟨cell_of_row _ _ 1 _ _ _ HZx.out, cell_of_row _ _ 2 _ _ _ HZx.out, cell_of_row _ _ 1 _ _ _ HZy.out, cell_of_row _ _ 2 _ _ _ HZy.out⟩
          go_wp2_with fail
          go_region_held3 (fun W => W.cell? ⟨Xx, 1, none⟩ = some (.int .i64 to4) ∧ W.cell? ⟨Xx, 2, none⟩ = some (.int .i64 lo4) ∧ W.cell? ⟨Xy, 1, none⟩ = some (.int .i64 to6) ∧ W.cell? ⟨Xy, 2, none⟩ = some (.int .i64 lo6))
              (first | exact HCx.out)
            ((first
              | (go_at_call 22; (with_reducible refine (HMo.out _).mono ?_); rintro e9 w9 ⟨rfl, rfl⟩)
              | fail))
          go_wp2_with fail
          go_ret
          exact ⟨rfl, Below.drew HBq.out⟩
set_option maxRecDepth 100000 in
theorem lifted (os : Os) (started : os.Started) (H : Type) (enc : TypeId × Value → H) :
    ReturnsInHanded {} Try.checked os 7 .any (Rows.heavyhitterPartsSpec.pre6 enc Try.prog Try.f7 Rows.heavyhitterPartsRow.domain false) (Rows.heavyhitterPartsSpec.post enc Try.prog Try.f7 false true false false) := by
  refine returnsInHanded_of_change (C := Try.checked) own started (by kernel_rfl) Try.func7
    (ChangeSpec.witness6 (enc := enc) (C := Try.checked) false ⟨#[], #[.int .u8 0, .slice none 0 0, .agg #[.int .u8 0, .int .u8 0]], []⟩ 8 (by kernel_rfl) (by kernel_rfl) (by kernel_rfl) (by kernel_rfl)) ?_
  intro W base args ds gs before hval0 hW _ _
  have hval : ∀ (j : Nat) t v, Try.f7.params[j]? = some t → args[j]? = some v → Value.okWide Try.prog W .any base t v := hval0
  have hW' := hW
  obtain ⟨p, q, hA0, hV, rfl, _, _⟩ := hW
  have hA : DataW.TrodAll enc Try.prog W 0 (fun _ => true) true Try.f7.params.toList args.toList ds p := hA0
  rw [Try.params7] at hA hval
  obtain ⟨v0, vs0, d0, ds0, p0, q0, hargs0, rfl, rfl, h0, r0⟩ := trodAll_cons hA
  obtain ⟨v1, vs1, d1, ds1, p1, q1, hargs1, rfl, rfl, h1, r1⟩ := trodAll_cons r0
  obtain ⟨v2, vs2, d2, ds2, p2, q2, hargs2, rfl, rfl, h2, r2⟩ := trodAll_cons r1
  obtain ⟨rfl, rfl, rfl⟩ := trodAll_nil r2
  obtain rfl : args = #[v0, v1, v2] := by cases args; simp_all
  obtain ⟨rfl, rfl⟩ := trodVars_none hV
  obtain ⟨a0, rfl, rfl, rfl, wa0⟩ := open_int Try.underlying5 (hval 0 5 v0 rfl rfl) h0
  have lt1 : ∀ x ∈ p1, x.block < W.heap.size := fun x hx => hW'.lt x (by simp [hx])
  obtain ⟨A1, c1, L1, rfl, hL1, hc1, hn1, hs1, hR1⟩ := open_its (hval 1 34 v1 rfl rfl) h1 lt1
  obtain ⟨m20, m21, rfl, rfl, rfl, wm20, wm21⟩ := open_row2 Try.underlying50 Try.underlying5 (by kernel_rfl) (by kernel_rfl) (hval 2 50 v2 rfl rfl) h2
  clear hA0 hval0
  simp only [List.append_nil] at hW'
  refine (walk W a0 wa0 A1 c1 L1 hL1 hc1 hn1 hs1 hR1 m20 wm20 m21 wm21).mono fun e W' ⟨he, hb⟩ => ?_
  subst he
  exact ⟨_, rfl, post_mem hW' hb (fun _ _ _ => trodAll_mk1 (shut_bool Try.underlying4 _)) (fun sp hsp => by
    have t := trodAll_cons_mk (shut_int Try.underlying5 wa0) (trodAll_cons_mk (carry laidOut (by kernel_rfl) (of_decide_eq_true (by kernel_rfl)) h1 hb lt1 sp (fun x hx => hsp x (by simp [hx]))) (trodAll_cons_mk (shut_row2 Try.underlying50 Try.underlying5 (by kernel_rfl) (by kernel_rfl) wm20 wm21) trodAll_mk0))
    simp only [List.append_nil] at t
    exact t) (fun _ => rfl) (ok_one (by kernel_rfl) rfl (okWide_bool_mk Try.underlying4 _))⟩

theorem proved : Rows.HeavyhitterPartsSaid :=
  OpenClaim.holds_of_wide 7 Try.f7 rfl rfl rfl rfl rfl rfl rfl ⟨rfl, rfl, rfl, rfl, rfl⟩ rfl rfl rfl rfl rfl (by kernel_rfl) Try.func7 (by kernel_rfl)
    (of_decide_eq_true (by kernel_rfl)) (by unfold Func.isWrapper; first | (rw [if_pos (by decide +kernel)]; kernel_rfl) | (rw [if_neg (by decide +kernel)]; exact ⟨rfl, rfl⟩))
    (fun os started H enc _ => lifted os started H enc)
end Go.Proofs.Ytdcfhnpnfamdaaa.lawParts
