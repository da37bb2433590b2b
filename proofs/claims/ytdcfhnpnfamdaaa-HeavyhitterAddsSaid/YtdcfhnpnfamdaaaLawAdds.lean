/- HeavyhitterAdds: for any items, key and two numbers the law returns true (written by wip/bin/gen_la22.py). No condition. -/
import Derived.Test.YtdcfhnpnfamdaaaHu
import Derived.Deep.RegionHeld3
namespace Go.Proofs.Ytdcfhnpnfamdaaa.lawAdds
open Go.ChangeShapes Go.WideShapes Go.ChangeAt Go.RowKit Go.Joins

set_option maxRecDepth 100000 in
set_option maxHeartbeats 8000000 in
theorem walk (w : World) (A : Option Addr) (c : Nat) (L : List It) (hL : L.length ≤ 9223372036854775807) (_hc : L.length ≤ c) (_hn : A = none → c = 0) (hok : ∀ x ∈ L, ItOk x) (hR : IR w A L) (s : ByteArray) (_hs : s.size ≤ 9223372036854775807) (n : Int) (_wn : (Lit.int .i64 n).wf = true) (q : Int) (_wq : (Lit.int .i64 q).wf = true) :
    Calls Try.prog 4 #[.slice A L.length c, .string s, .agg #[.int .i64 n, .int .i64 q]] w fun e w' => e = .returned (.bool true) ∧ Below w.heap.size w w' := by
  have HB : Hid (Below w.heap.size w w) := Lib.hid (Below.refl _ _)
  have HIL := Lib.hid hR
  have HOk := Lib.hid hok
  obtain ⟨ln, hln⟩ : ∃ ln, ln = L.length := ⟨_, rfl⟩
  have HLn := Lib.hid hln
  have HL := Lib.hid hL
  rw [← hln] at hL ⊢
  obtain ⟨r, hr⟩ : ∃ r, r = q % 8 := ⟨_, rfl⟩
  have hr7 : 0 ≤ r ∧ r ≤ 7 := by omega
  have hband : bits .and .i64 q 7 = r := by rw [i64_and7, hr]
  obtain ⟨m, hm⟩ : ∃ m, m = 1 + r := ⟨_, rfl⟩
  have hwm2 : wrap64 (1 + r) = m := by rw [hm]; unfold wrap64; omega
  clear hr
  have hmo : 1 ≤ m ∧ m ≤ 8 := by omega
  have hwm : IntKind.i64.wrap (1 + r) = m := by rw [hm]; simp only [IntKind.wrap_i64]; omega
  clear hR hok hln hm
  go_enter Try.func4, Try.ntmps4
  obtain ⟨w1, hw1⟩ : ∃ w1, w1 = w.alloc (.cells #[.int .i64 n, .int .i64 q] 35) := ⟨_, rfl⟩
  have hb : Below w.heap.size w w1 := by rw [hw1]; exact (Below.refl _ _).alloc (Nat.le_refl _) _
  replace HIL := Lib.hid (HIL.out.below hb)
  replace HB := Lib.hid (HB.out.trans (hb.mono HB.out.size))
  have HZ5 : Hid (w1.heap[w.heap.size]? = some (.cells #[.int .i64 n, .int .i64 q] 35 (0, 0))) := Lib.hid (by rw [hw1]; exact Deep.blk_alloc_new _ _)
  have Hw1 := Lib.hid hw1
  clear hb hw1
  go_wp2_with fail
  try rw [← Hw1.out]
  with_reducible refine (known_any _).mono ?_
  rintro e w2 ⟨rfl, hb⟩
  replace HIL := Lib.hid (HIL.out.below hb)
  replace HZ5 := Lib.hid (blk_carry HZ5.out hb)
  replace HB := Lib.hid (HB.out.trans (hb.mono HB.out.size))
  clear hb
  have ha := HZ5.out
  have a0 := cell_of_row _ _ 0 _ _ _ ha
  have a1 := cell_of_row _ _ 1 _ _ _ ha
  simp at a0 a1
  clear ha
  by_cases h80 : (80 : Int) < (s.size : Int)
  · have d80 : decide ((80 : Int) < (s.size : Int)) = true := by simpa using h80
    clear h80
    go_wp2_with fail
    with_reducible refine (known_any _).mono ?_
    rintro e w3 ⟨rfl, hb⟩
    replace HIL := Lib.hid (HIL.out.below hb)
    replace HZ5 := Lib.hid (blk_carry HZ5.out hb)
    replace HB := Lib.hid (HB.out.trans (hb.mono HB.out.size))
    clear hb
    go_wp2_with fail
    go_ret
    exact ⟨rfl, HB.out⟩
  · have d80 : decide ((80 : Int) < (s.size : Int)) = false := by simpa using h80
    have HKs : Hid (s.size ≤ 80) := Lib.hid (by omega)
    clear h80
    obtain ⟨mo, to, lo, cs, hq, hsl, hgd, q1, q2, q3, hcl⟩ := stream_let m ⟨hmo.1, by omega⟩ A c L HL.out HOk.out _ HIL.out
    rw [← HLn.out] at hcl
    have HCl := Lib.hid hcl
    have HSl := Lib.hid hsl
    have HGd := Lib.hid hgd
    have HMo : Hid (mo = m) := Lib.hid q1
    have HTo : Hid (to ≤ 1920) := Lib.hid q3
    have HMm := Lib.hid hmo
    have HNm := Lib.hid (fun W => name_any s (by have := HKs.out; omega) W)
    clear hcl hsl hgd hq q1 q2 q3 hmo
    go_wp2_with fail
    with_reducible refine (HCl.out).mono ?_
    rintro e w3 ⟨⟨A2, c2, rfl, hv, hf⟩, hb⟩
    replace HIL := Lib.hid (HIL.out.below hb)
    replace HZ5 := Lib.hid (blk_carry HZ5.out hb)
    replace HB := Lib.hid (HB.out.trans (hb.mono HB.out.size))
    clear hb
    have HV := Lib.hid hv
    have HF := Lib.hid hf
    clear hv HCl hf a0 a1
    obtain ⟨l2, hl2⟩ : ∃ l2, l2 = cs.length := ⟨_, rfl⟩
    have HL2 := Lib.hid hl2
    rw [← hl2] at HV ⊢
    clear hl2
    obtain ⟨w4, hw4⟩ : ∃ w4, w4 = w3.alloc (.cells #[.int .i64 mo, .int .i64 to, .int .i64 lo, .slice A2 l2 c2] 24) := ⟨_, rfl⟩
    have hb : Below w3.heap.size w3 w4 := by rw [hw4]; exact (Below.refl _ _).alloc (Nat.le_refl _) _
    replace HIL := Lib.hid (HIL.out.below hb)
    replace HZ5 := Lib.hid (blk_carry HZ5.out hb)
    replace HV := Lib.hid (HV.out.below hb)
    replace HB := Lib.hid (HB.out.trans (hb.mono HB.out.size))
    have HZs : Hid (w4.heap[w3.heap.size]? = some (.cells #[.int .i64 mo, .int .i64 to, .int .i64 lo, .slice A2 l2 c2] 24 (0, 0))) := Lib.hid (by rw [hw4]; exact Deep.blk_alloc_new _ _)
    have Hw4 := Lib.hid hw4
    clear hb hw4
    have HSV : Hid (∀ W, SlV W (.slice A2 l2 c2) cs → SuV W (.agg #[.int .i64 mo, .int .i64 to, .int .i64 lo, .slice A2 l2 c2]) ⟨mo, to, lo, cs⟩) := Lib.hid (fun W h => ⟨_, rfl, h⟩)
    have ha := HZ5.out
    have a0 := cell_of_row _ _ 0 _ _ _ ha
    have a1 := cell_of_row _ _ 1 _ _ _ ha
    simp at a0 a1
    clear ha
    have ha5 := (Array.getElem?_eq_some_iff.1 HZ5.out).1
    try rw [Hw4.out] at a0 a1 ha5
    go_wp2_with fail
    try rw [← Hw4.out]
    clear a0 a1 ha5
    cases hnm : nmK s with
    | false =>
      rw [hnm] at HNm
      have HZe : Hid (adR ⟨mo, to, lo, cs⟩ s n = (su0, 11)) := Lib.hid (by unfold adR; rw [if_pos hnm])
      with_reducible refine (add_err _ HSl.out s n (by have := HKs.out; omega) _ HZe.out _ _ (HSV.out _ HV.out)).mono ?_
      rintro e w5 ⟨⟨A9, c9, rfl, hx⟩, hb⟩
      replace HIL := Lib.hid (HIL.out.below hb)
      replace HZ5 := Lib.hid (blk_carry HZ5.out hb)
      replace HV := Lib.hid (HV.out.below hb)
      replace HZs := Lib.hid (blk_carry HZs.out hb)
      replace HB := Lib.hid (HB.out.trans (hb.mono HB.out.size))
      clear hb
      have HX := Lib.hid hx
      clear hx
      obtain ⟨w6, hw6⟩ : ∃ w6, w6 = w5.alloc (.cells #[.int .i64 0, .int .i64 0, .int .i64 0, .slice A9 0 c9] 24) := ⟨_, rfl⟩
      have hb : Below w5.heap.size w5 w6 := by rw [hw6]; exact (Below.refl _ _).alloc (Nat.le_refl _) _
      replace HIL := Lib.hid (HIL.out.below hb)
      replace HZ5 := Lib.hid (blk_carry HZ5.out hb)
      replace HV := Lib.hid (HV.out.below hb)
      replace HZs := Lib.hid (blk_carry HZs.out hb)
      replace HX := Lib.hid (HX.out.below hb)
      replace HB := Lib.hid (HB.out.trans (hb.mono HB.out.size))
      have HZx : Hid (w6.heap[w5.heap.size]? = some (.cells #[.int .i64 0, .int .i64 0, .int .i64 0, .slice A9 0 c9] 24 (0, 0))) := Lib.hid (by rw [hw6]; exact Deep.blk_alloc_new _ _)
      have Hw6 := Lib.hid hw6
      clear hb hw6
      go_wp2_with fail
      try rw [← Hw6.out]
      with_reducible refine (HNm.out _).mono ?_
      rintro e w7 ⟨rfl, hb⟩
      replace HIL := Lib.hid (HIL.out.below hb)
      replace HZ5 := Lib.hid (blk_carry HZ5.out hb)
      replace HV := Lib.hid (HV.out.below hb)
      replace HZs := Lib.hid (blk_carry HZs.out hb)
      replace HX := Lib.hid (HX.out.below hb)
      replace HZx := Lib.hid (blk_carry HZx.out hb)
      replace HB := Lib.hid (HB.out.trans (hb.mono HB.out.size))
      clear hb
      have hx := HZx.out
      have x0 := cell_of_row _ _ 0 _ _ _ hx
      have x1 := cell_of_row _ _ 1 _ _ _ hx
      have x2 := cell_of_row _ _ 2 _ _ _ hx
      have x3 := cell_of_row _ _ 3 _ _ _ hx
      simp at x0 x1 x2 x3
      clear hx
      have hb := HZ5.out
      have b0 := cell_of_row _ _ 0 _ _ _ hb
      simp at b0
      clear hb
      go_wp2_with fail
      with_reducible refine (eq_none 0 _ _ _ HX.out).mono ?_
      rintro e w8 ⟨rfl, hb⟩
      replace HIL := Lib.hid (HIL.out.below hb)
      replace HZ5 := Lib.hid (blk_carry HZ5.out hb)
      replace HV := Lib.hid (HV.out.below hb)
      replace HZs := Lib.hid (blk_carry HZs.out hb)
      replace HX := Lib.hid (HX.out.below hb)
      replace HZx := Lib.hid (blk_carry HZx.out hb)
      replace HB := Lib.hid (HB.out.trans (hb.mono HB.out.size))
      clear hb
      go_wp2_with fail
      go_ret
      exact ⟨by first | rfl | simp, HB.out⟩
    | true =>
      rw [hnm] at HNm
      by_cases hn1 : n < 1
      · have e1 : decide (n < 1) = true := by simpa using hn1
        have HZe : Hid (adR ⟨mo, to, lo, cs⟩ s n = (su0, 2)) := Lib.hid (by unfold adR; rw [if_neg (by rw [hnm]; decide), if_pos (by omega)])
        with_reducible refine (add_err _ HSl.out s n (by have := HKs.out; omega) _ HZe.out _ _ (HSV.out _ HV.out)).mono ?_
        rintro e w5 ⟨⟨A9, c9, rfl, hx⟩, hb⟩
        replace HIL := Lib.hid (HIL.out.below hb)
        replace HZ5 := Lib.hid (blk_carry HZ5.out hb)
        replace HV := Lib.hid (HV.out.below hb)
        replace HZs := Lib.hid (blk_carry HZs.out hb)
        replace HB := Lib.hid (HB.out.trans (hb.mono HB.out.size))
        clear hb
        have HX := Lib.hid hx
        clear hx
        obtain ⟨w6, hw6⟩ : ∃ w6, w6 = w5.alloc (.cells #[.int .i64 0, .int .i64 0, .int .i64 0, .slice A9 0 c9] 24) := ⟨_, rfl⟩
        have hb : Below w5.heap.size w5 w6 := by rw [hw6]; exact (Below.refl _ _).alloc (Nat.le_refl _) _
        replace HIL := Lib.hid (HIL.out.below hb)
        replace HZ5 := Lib.hid (blk_carry HZ5.out hb)
        replace HV := Lib.hid (HV.out.below hb)
        replace HZs := Lib.hid (blk_carry HZs.out hb)
        replace HX := Lib.hid (HX.out.below hb)
        replace HB := Lib.hid (HB.out.trans (hb.mono HB.out.size))
        have HZx : Hid (w6.heap[w5.heap.size]? = some (.cells #[.int .i64 0, .int .i64 0, .int .i64 0, .slice A9 0 c9] 24 (0, 0))) := Lib.hid (by rw [hw6]; exact Deep.blk_alloc_new _ _)
        have Hw6 := Lib.hid hw6
        clear hb hw6
        go_wp2_with fail
        try rw [← Hw6.out]
        with_reducible refine (HNm.out _).mono ?_
        rintro e w7 ⟨rfl, hb⟩
        replace HIL := Lib.hid (HIL.out.below hb)
        replace HZ5 := Lib.hid (blk_carry HZ5.out hb)
        replace HV := Lib.hid (HV.out.below hb)
        replace HZs := Lib.hid (blk_carry HZs.out hb)
        replace HX := Lib.hid (HX.out.below hb)
        replace HZx := Lib.hid (blk_carry HZx.out hb)
        replace HB := Lib.hid (HB.out.trans (hb.mono HB.out.size))
        clear hb
        have hx := HZx.out
        have x0 := cell_of_row _ _ 0 _ _ _ hx
        have x1 := cell_of_row _ _ 1 _ _ _ hx
        have x2 := cell_of_row _ _ 2 _ _ _ hx
        have x3 := cell_of_row _ _ 3 _ _ _ hx
        simp at x0 x1 x2 x3
        clear hx
        have hb := HZ5.out
        have b0 := cell_of_row _ _ 0 _ _ _ hb
        simp at b0
        clear hb
        clear hn1
        go_wp2_with fail
        with_reducible refine (eq_none 0 _ _ _ HX.out).mono ?_
        rintro e w8 ⟨rfl, hb⟩
        replace HIL := Lib.hid (HIL.out.below hb)
        replace HZ5 := Lib.hid (blk_carry HZ5.out hb)
        replace HV := Lib.hid (HV.out.below hb)
        replace HZs := Lib.hid (blk_carry HZs.out hb)
        replace HX := Lib.hid (HX.out.below hb)
        replace HZx := Lib.hid (blk_carry HZx.out hb)
        replace HB := Lib.hid (HB.out.trans (hb.mono HB.out.size))
        clear hb
        go_wp2_with fail
        go_ret
        exact ⟨by first | rfl | simp, HB.out⟩
      · have e1 : decide (n < 1) = false := by simpa using hn1
        by_cases hn2 : 1099511627776 < n
        · have e2 : decide (1099511627776 < n) = true := by simpa using hn2
          have HZe : Hid (adR ⟨mo, to, lo, cs⟩ s n = (su0, 2)) := Lib.hid (by unfold adR; rw [if_neg (by rw [hnm]; decide), if_pos (by omega)])
          with_reducible refine (add_err _ HSl.out s n (by have := HKs.out; omega) _ HZe.out _ _ (HSV.out _ HV.out)).mono ?_
          rintro e w5 ⟨⟨A9, c9, rfl, hx⟩, hb⟩
          replace HIL := Lib.hid (HIL.out.below hb)
          replace HZ5 := Lib.hid (blk_carry HZ5.out hb)
          replace HV := Lib.hid (HV.out.below hb)
          replace HZs := Lib.hid (blk_carry HZs.out hb)
          replace HB := Lib.hid (HB.out.trans (hb.mono HB.out.size))
          clear hb
          have HX := Lib.hid hx
          clear hx
          obtain ⟨w6, hw6⟩ : ∃ w6, w6 = w5.alloc (.cells #[.int .i64 0, .int .i64 0, .int .i64 0, .slice A9 0 c9] 24) := ⟨_, rfl⟩
          have hb : Below w5.heap.size w5 w6 := by rw [hw6]; exact (Below.refl _ _).alloc (Nat.le_refl _) _
          replace HIL := Lib.hid (HIL.out.below hb)
          replace HZ5 := Lib.hid (blk_carry HZ5.out hb)
          replace HV := Lib.hid (HV.out.below hb)
          replace HZs := Lib.hid (blk_carry HZs.out hb)
          replace HX := Lib.hid (HX.out.below hb)
          replace HB := Lib.hid (HB.out.trans (hb.mono HB.out.size))
          have HZx : Hid (w6.heap[w5.heap.size]? = some (.cells #[.int .i64 0, .int .i64 0, .int .i64 0, .slice A9 0 c9] 24 (0, 0))) := Lib.hid (by rw [hw6]; exact Deep.blk_alloc_new _ _)
          have Hw6 := Lib.hid hw6
          clear hb hw6
          go_wp2_with fail
          try rw [← Hw6.out]
          with_reducible refine (HNm.out _).mono ?_
          rintro e w7 ⟨rfl, hb⟩
          replace HIL := Lib.hid (HIL.out.below hb)
          replace HZ5 := Lib.hid (blk_carry HZ5.out hb)
          replace HV := Lib.hid (HV.out.below hb)
          replace HZs := Lib.hid (blk_carry HZs.out hb)
          replace HX := Lib.hid (HX.out.below hb)
          replace HZx := Lib.hid (blk_carry HZx.out hb)
          replace HB := Lib.hid (HB.out.trans (hb.mono HB.out.size))
          clear hb
          have hx := HZx.out
          have x0 := cell_of_row _ _ 0 _ _ _ hx
          have x1 := cell_of_row _ _ 1 _ _ _ hx
          have x2 := cell_of_row _ _ 2 _ _ _ hx
          have x3 := cell_of_row _ _ 3 _ _ _ hx
          simp at x0 x1 x2 x3
          clear hx
          have hb := HZ5.out
          have b0 := cell_of_row _ _ 0 _ _ _ hb
          simp at b0
          clear hb
          clear hn1 hn2
          go_wp2_with fail
          with_reducible refine (eq_none 0 _ _ _ HX.out).mono ?_
          rintro e w8 ⟨rfl, hb⟩
          replace HIL := Lib.hid (HIL.out.below hb)
          replace HZ5 := Lib.hid (blk_carry HZ5.out hb)
          replace HV := Lib.hid (HV.out.below hb)
          replace HZs := Lib.hid (blk_carry HZs.out hb)
          replace HX := Lib.hid (HX.out.below hb)
          replace HZx := Lib.hid (blk_carry HZx.out hb)
          replace HB := Lib.hid (HB.out.trans (hb.mono HB.out.size))
          clear hb
          go_wp2_with fail
          go_ret
          exact ⟨by first | rfl | simp, HB.out⟩
        · have e2 : decide (1099511627776 < n) = false := by simpa using hn2
          have hn12 : 1 ≤ n ∧ n ≤ 1099511627776 := by omega
          have HN := Lib.hid hn12
          have HNk := Lib.hid hnm
          have HAk := Lib.hid (fun W v h => add_ok ⟨mo, to, lo, cs⟩ HSl.out s n HNk.out HN.out v W h)
          have HRa := Lib.hid (fun W v h => radd_any v ⟨mo, to, lo, cs⟩ s n HSl.out (by have := HN.out; omega) W h)
          have hg2 := HGd.out.add hnm hn12.1 HSl.out.mo.1
          have hm2 := adS_mo ⟨mo, to, lo, cs⟩ s n
          have ht2 := adS_to ⟨mo, to, lo, cs⟩ s n
          dsimp only at hm2 ht2
          obtain ⟨s2, hs2⟩ : ∃ s2, s2 = adS ⟨mo, to, lo, cs⟩ s n := ⟨_, rfl⟩
          rw [← hs2] at HAk HRa hg2 hm2 ht2
          obtain ⟨mo2, to2, lo2, cs2⟩ := s2
          dsimp only at hm2 ht2
          have hck := fun v W h => pck_ok ⟨mo2, to2, lo2, cs2⟩ _ hg2 (by have := HMm.out; have := HMo.out; dsimp only; omega) (by have := HTo.out; dsimp only; omega) v W h
          have HCk := Lib.hid hck
          have hel := hg2.len
          have HEq := Lib.hid (fun v u W h1 h2 => eq_self ⟨mo2, to2, lo2, cs2⟩ (by have := HMm.out; have := HMo.out; dsimp only at hel ⊢; omega) v u W h1 h2)
          have HV2 : Hid (∀ W A' c', SlV W (.slice A' cs2.length c') cs2 → SuV W (.agg #[.int .i64 mo2, .int .i64 to2, .int .i64 lo2, .slice A' cs2.length c']) ⟨mo2, to2, lo2, cs2⟩) := Lib.hid (fun W A' c' h => ⟨_, rfl, h⟩)
          have HSF : Hid (∀ W, SlV W (.slice A2 l2 c2) cs → SuF W (.agg #[.int .i64 mo, .int .i64 to, .int .i64 lo, .slice A2 l2 c2]) ⟨mo, to, lo, cs⟩) := Lib.hid (fun W h => by
            rw [HL2.out] at h ⊢
            exact ⟨A2, c2, rfl, h, HF.out⟩)
          have HAk2 : Hid (∀ W v, SuV W v ⟨mo, to, lo, cs⟩ → Calls Try.prog 19 #[v, .string s, .int .i64 n] W fun e w' => (∃ A' c', e = .returned (.tuple #[.agg #[.int .i64 mo2, .int .i64 to2, .int .i64 lo2, .slice A' cs2.length c'], .int .i64 0]) ∧ SlV w' (.slice A' cs2.length c') cs2) ∧ Below W.heap.size W w') := Lib.hid (fun W v h => by
            refine (HAk.out W v h).mono ?_
            rintro e w' ⟨⟨u, rfl, u', rfl, h⟩, hb⟩
            obtain ⟨A', c', rfl, _⟩ := id h
            exact ⟨⟨A', c', rfl, h⟩, hb⟩)
          have HRa2 : Hid (∀ W v, SuF W v ⟨mo, to, lo, cs⟩ → Calls Try.prog 21 #[v, .string s, .int .i64 n] W fun e w' => (∃ A' c', e = .returned (.agg #[.int .i64 mo2, .int .i64 to2, .int .i64 lo2, .slice A' cs2.length c']) ∧ SlV w' (.slice A' cs2.length c') cs2) ∧ Below W.heap.size W w') := Lib.hid (fun W v h => by
            refine (HRa.out W v h).mono ?_
            rintro e w' ⟨⟨u, rfl, A', c', rfl, h, _⟩, hb⟩
            exact ⟨⟨A', c', rfl, h⟩, hb⟩)
          clear hn1 hn2 hn12 hnm hg2 hm2 ht2 hs2 hck hel
          with_reducible refine (HAk2.out _ _ (HSV.out _ HV.out)).mono ?_
          rintro e w5 ⟨⟨A9, c9, rfl, hx⟩, hb⟩
          replace HIL := Lib.hid (HIL.out.below hb)
          replace HZ5 := Lib.hid (blk_carry HZ5.out hb)
          replace HV := Lib.hid (HV.out.below hb)
          replace HZs := Lib.hid (blk_carry HZs.out hb)
          replace HB := Lib.hid (HB.out.trans (hb.mono HB.out.size))
          clear hb
          have HX := Lib.hid hx
          clear hx
          obtain ⟨l9, hl9⟩ : ∃ l9, l9 = cs2.length := ⟨_, rfl⟩
          have HL9 := Lib.hid hl9
          rw [← hl9] at HX HV2 HRa2 ⊢
          clear hl9
          obtain ⟨w6, hw6⟩ : ∃ w6, w6 = w5.alloc (.cells #[.int .i64 mo2, .int .i64 to2, .int .i64 lo2, .slice A9 l9 c9] 24) := ⟨_, rfl⟩
          have hb : Below w5.heap.size w5 w6 := by rw [hw6]; exact (Below.refl _ _).alloc (Nat.le_refl _) _
          replace HIL := Lib.hid (HIL.out.below hb)
          replace HZ5 := Lib.hid (blk_carry HZ5.out hb)
          replace HV := Lib.hid (HV.out.below hb)
          replace HZs := Lib.hid (blk_carry HZs.out hb)
          replace HX := Lib.hid (HX.out.below hb)
          replace HB := Lib.hid (HB.out.trans (hb.mono HB.out.size))
          have HZx : Hid (w6.heap[w5.heap.size]? = some (.cells #[.int .i64 mo2, .int .i64 to2, .int .i64 lo2, .slice A9 l9 c9] 24 (0, 0))) := Lib.hid (by rw [hw6]; exact Deep.blk_alloc_new _ _)
          have Hw6 := Lib.hid hw6
          clear hb hw6
          go_wp2_with fail
          try rw [← Hw6.out]
          with_reducible refine (HNm.out _).mono ?_
          rintro e w7 ⟨rfl, hb⟩
          replace HIL := Lib.hid (HIL.out.below hb)
          replace HZ5 := Lib.hid (blk_carry HZ5.out hb)
          replace HV := Lib.hid (HV.out.below hb)
          replace HZs := Lib.hid (blk_carry HZs.out hb)
          replace HX := Lib.hid (HX.out.below hb)
          replace HZx := Lib.hid (blk_carry HZx.out hb)
          replace HB := Lib.hid (HB.out.trans (hb.mono HB.out.size))
          clear hb
          have hb := HZ5.out
          have b0 := cell_of_row _ _ 0 _ _ _ hb
          simp at b0
          clear hb
          have HKc : Hid (∀ W, Below w7.heap.size w7 W → W.cell? ⟨w5.heap.size, 0, none⟩ = some (.int .i64 mo2) ∧ W.cell? ⟨w5.heap.size, 1, none⟩ = some (.int .i64 to2) ∧ W.cell? ⟨w5.heap.size, 2, none⟩ = some (.int .i64 lo2) ∧ W.cell? ⟨w5.heap.size, 3, none⟩ = some (.slice A9 l9 c9) ∧ W.cell? ⟨w3.heap.size, 0, none⟩ = some (.int .i64 mo) ∧ W.cell? ⟨w3.heap.size, 1, none⟩ = some (.int .i64 to) ∧ W.cell? ⟨w3.heap.size, 2, none⟩ = some (.int .i64 lo) ∧ W.cell? ⟨w3.heap.size, 3, none⟩ = some (.slice A2 l2 c2) ∧ W.cell? ⟨w.heap.size, 0, none⟩ = some (.int .i64 n)) := Lib.hid (fun W h => by
            have gx := (h.block _ (Array.getElem?_eq_some_iff.1 HZx.out).1).trans HZx.out
            have gs := (h.block _ (Array.getElem?_eq_some_iff.1 HZs.out).1).trans HZs.out
            have g5 := (h.block _ (Array.getElem?_eq_some_iff.1 HZ5.out).1).trans HZ5.out
            exact ⟨cell_of_row _ _ 0 _ _ _ gx, cell_of_row _ _ 1 _ _ _ gx, cell_of_row _ _ 2 _ _ _ gx, cell_of_row _ _ 3 _ _ _ gx, cell_of_row _ _ 0 _ _ _ gs, cell_of_row _ _ 1 _ _ _ gs, cell_of_row _ _ 2 _ _ _ gs, cell_of_row _ _ 3 _ _ _ gs, cell_of_row _ _ 0 _ _ _ g5⟩)
          have HD0 : Hid (Below w7.heap.size w7 w7.drew) := Lib.hid (Below.refl _ _).drew
          have sent1 : True := trivial
          have sent2 : True := trivial
          have sent3 : True := trivial
          go_wp2_with fail
          go_region_held3 (fun W => W.cell? ⟨w5.heap.size, 0, none⟩ = some (.int .i64 mo2) ∧ W.cell? ⟨w5.heap.size, 1, none⟩ = some (.int .i64 to2) ∧ W.cell? ⟨w5.heap.size, 2, none⟩ = some (.int .i64 lo2) ∧ W.cell? ⟨w5.heap.size, 3, none⟩ = some (.slice A9 l9 c9) ∧ W.cell? ⟨w3.heap.size, 0, none⟩ = some (.int .i64 mo) ∧ W.cell? ⟨w3.heap.size, 1, none⟩ = some (.int .i64 to) ∧ W.cell? ⟨w3.heap.size, 2, none⟩ = some (.int .i64 lo) ∧ W.cell? ⟨w3.heap.size, 3, none⟩ = some (.slice A2 l2 c2) ∧ W.cell? ⟨w.heap.size, 0, none⟩ = some (.int .i64 n))
              (first | exact HKc.out _ HD3.out | exact HKc.out _ HD2.out | exact HKc.out _ HD1.out | exact HKc.out _ HD0.out)
            ((first
              | (clear sent1; go_at_call 21; (with_reducible refine (HRa2.out _ _ (HSF.out _ (HV.out.below HD0.out))).mono ?_); rintro e u1 ⟨⟨B1, e1', rfl, hy⟩, hb⟩; have HD1 : Hid (Below w7.heap.size w7 u1) := Lib.hid (HD0.out.trans (hb.mono HD0.out.size)); have HY := Lib.hid hy; clear hb hy)
              | (clear sent2; go_at_call 15; (with_reducible refine (HEq.out _ _ _ (HV2.out _ _ _ (HX.out.below HD1.out)) (HV2.out _ _ _ HY.out)).mono ?_); rintro e u2 ⟨rfl, hb⟩; have HD2 : Hid (Below w7.heap.size w7 u2) := Lib.hid (HD1.out.trans (hb.mono HD1.out.size)); clear hb)
              | (clear sent3; go_at_call 16; (with_reducible refine (HCk.out _ _ (HV2.out _ _ _ (HX.out.below HD2.out))).mono ?_); rintro e u3 ⟨rfl, hb⟩; have HD3 : Hid (Below w7.heap.size w7 u3) := Lib.hid (HD2.out.trans (hb.mono HD2.out.size)); clear hb)
              | fail))
          go_wp2_with fail
          go_ret
          exact ⟨by first | rfl | simp, HB.out.trans (HD3.out.mono HB.out.size)⟩
set_option maxRecDepth 100000 in
theorem lifted (os : Os) (started : os.Started) (H : Type) (enc : TypeId × Value → H) :
    ReturnsInHanded {} Try.checked os 4 .any (Rows.heavyhitterAddsSpec.pre6 enc Try.prog Try.f4 Rows.heavyhitterAddsRow.domain false) (Rows.heavyhitterAddsSpec.post enc Try.prog Try.f4 false true false false) := by
  refine returnsInHanded_of_change (C := Try.checked) own started (by kernel_rfl) Try.func4
    (ChangeSpec.witness6 (enc := enc) (C := Try.checked) false ⟨#[], #[.slice none 0 0, .string ByteArray.empty, .agg #[.int .i64 0, .int .i64 0]], []⟩ 8 (by kernel_rfl) (by kernel_rfl) (by kernel_rfl) (by kernel_rfl)) ?_
  intro W base args ds gs before hval0 hW _ _
  have hval : ∀ (j : Nat) t v, Try.f4.params[j]? = some t → args[j]? = some v → Value.okWide Try.prog W .any base t v := hval0
  have hW' := hW
  obtain ⟨p, q, hA0, hV, rfl, _, _⟩ := hW
  have hA : DataW.TrodAll enc Try.prog W 0 (fun _ => true) true Try.f4.params.toList args.toList ds p := hA0
  rw [Try.params4] at hA hval
  obtain ⟨v0, vs0, d0, ds0, p0, q0, hargs0, rfl, rfl, h0, r0⟩ := trodAll_cons hA
  obtain ⟨v1, vs1, d1, ds1, p1, q1, hargs1, rfl, rfl, h1, r1⟩ := trodAll_cons r0
  obtain ⟨v2, vs2, d2, ds2, p2, q2, hargs2, rfl, rfl, h2, r2⟩ := trodAll_cons r1
  obtain ⟨rfl, rfl, rfl⟩ := trodAll_nil r2
  obtain rfl : args = #[v0, v1, v2] := by cases args; simp_all
  obtain ⟨rfl, rfl⟩ := trodVars_none hV
  have lt0 : ∀ x ∈ p0, x.block < W.heap.size := fun x hx => hW'.lt x (by simp [hx])
  obtain ⟨A0, c0, L0, rfl, hL0, hc0, hn0, hs0, hR0⟩ := open_its (hval 0 34 v0 rfl rfl) h0 lt0
  obtain ⟨s1, rfl, rfl, rfl, ws1⟩ := Go.ChangeMaps.open_string Try.underlying9 (hval 1 9 v1 rfl rfl) h1
  obtain ⟨m20, m21, rfl, rfl, rfl, wm20, wm21⟩ := open_row2 Try.underlying35 Try.underlying3 (by kernel_rfl) (by kernel_rfl) (hval 2 35 v2 rfl rfl) h2
  clear hA0 hval0
  simp only [List.append_nil] at hW'
  refine (walk W A0 c0 L0 hL0 hc0 hn0 hs0 hR0 s1 ws1 m20 wm20 m21 wm21).mono fun e W' ⟨he, hb⟩ => ?_
  subst he
  exact ⟨_, rfl, post_mem hW' hb (fun _ _ _ => trodAll_mk1 (shut_bool Try.underlying4 _)) (fun sp hsp => by
    have t := trodAll_cons_mk (carry laidOut (by kernel_rfl) (of_decide_eq_true (by kernel_rfl)) h0 hb lt0 sp (fun x hx => hsp x (by simp [hx]))) (trodAll_cons_mk (Go.ChangeMaps.shut_string Try.underlying9 ws1) (trodAll_cons_mk (shut_row2 Try.underlying35 Try.underlying3 (by kernel_rfl) (by kernel_rfl) wm20 wm21) trodAll_mk0))
    simp only [List.append_nil] at t
    exact t) (fun _ => rfl) (ok_one (by kernel_rfl) rfl (okWide_bool_mk Try.underlying4 _))⟩

theorem proved : Rows.HeavyhitterAddsSaid :=
  OpenClaim.holds_of_wide 4 Try.f4 rfl rfl rfl rfl rfl rfl rfl ⟨rfl, rfl, rfl, rfl, rfl⟩ rfl rfl rfl rfl rfl (by kernel_rfl) Try.func4 (by kernel_rfl)
    (of_decide_eq_true (by kernel_rfl)) (by unfold Func.isWrapper; first | (rw [if_pos (by decide +kernel)]; kernel_rfl) | (rw [if_neg (by decide +kernel)]; exact ⟨rfl, rfl⟩))
    (fun os started H enc _ => lifted os started H enc)
end Go.Proofs.Ytdcfhnpnfamdaaa.lawAdds
