/- HeavyhitterLists: for any number of counters, items and number the law returns true (written by wip/bin/gen_ll22.py). No condition. -/
import Derived.Test.YtnpjakgdfjaglaaHx
import Derived.Test.YtnpjakgdfjaglaaHr
import Derived.Test.YtnpjakgdfjaglaaIw
import Derived.Test.YtnpjakgdfjaglaaIe
import Derived.Deep.RegionHeld3
import Derived.Deep.DeepCutAuto
namespace Go.Proofs.Ytnpjakgdfjaglaa.lawLists
open Go.ChangeShapes Go.WideShapes Go.ChangeAt Go.RowKit Go.Joins

theorem top_sl (v : Value) (L : List Ct) (hl : L.length ≤ 1000) (w : World) (hv : SlV w v L) :
    Calls Try.prog 35 #[v] w fun e w' => (∃ u, e = .returned u ∧ SlV w' u (rkS L)) ∧ Below w.heap.size w w' := by
  refine (top_any v L hl w hv).mono ?_
  rintro e w' ⟨⟨u, rfl, ho⟩, hb⟩
  refine ⟨⟨u, rfl, ?_⟩, hb⟩
  rw [← top_eq L]
  rw [← top_len L] at ho
  exact SlV.own ho
theorem top2_sl (v : Value) (s : Su) (hl : s.cs.length ≤ 1000000) (w : World) (hv : SuV w v s) :
    Calls Try.prog 34 #[v] w fun e w' => (∃ u, e = .returned u ∧ SlV w' u (rkS s.cs)) ∧ Below w.heap.size w w' := by
  refine (top22_any v s hl w hv).mono ?_
  rintro e w' ⟨⟨u, rfl, ho⟩, hb⟩
  refine ⟨⟨u, rfl, ?_⟩, hb⟩
  rw [← (rkS_ok s.cs).1.length_eq] at ho
  exact SlV.own ho
theorem least_sl (v : Value) (L : List Ct) (hl : L.length ≤ 1000) (n : Int) (w : World) (hv : SlV w v L) :
    Calls Try.prog 33 #[v, .int .i64 n] w fun e w' => (∃ u, e = .returned u ∧ SlV w' u (lsW (rkS L) n)) ∧ Below w.heap.size w w' := by
  rw [← top_eq L]
  exact lleast_any v L hl n w hv
theorem ls_len {L : List Ct} {n : Int} (hl : L.length ≤ 256) : (lsW (rkS L) n).length ≤ 256 := by
  have h1 : (lsW (rkS L) n).length ≤ (rkS L).length := by unfold lsW; exact (List.takeWhile_sublist _).length_le
  have h2 := (rkS_ok L).1.length_eq
  omega
theorem same_self (v u : Value) (L : List Ct) (hl : L.length ≤ 1000000) (w : World) (hv : SlV w v L) (hu : SlV w u L) :
    Calls Try.prog 32 #[v, u] w fun e w' => e = .returned (.bool true) ∧ Below w.heap.size w w' := by
  refine (same_any v u L L hl w hv hu).mono ?_
  rintro e w' ⟨rfl, hb⟩
  exact ⟨by simp, hb⟩

set_option maxRecDepth 100000 in
set_option maxHeartbeats 16000000 in
theorem walk (w : World) (a0 : Int) (wa0 : (Lit.int .u8 a0).wf = true) (A : Option Addr) (c : Nat) (L : List It) (hL : L.length ≤ 9223372036854775807) (_hc : L.length ≤ c) (_hn : A = none → c = 0) (hok : ∀ x ∈ L, ItOk x) (hR : IR w A L) (q : Int) (wq : (Lit.int .i64 q).wf = true) :
    Calls Try.prog 10 #[.int .u8 a0, .slice A L.length c, .int .i64 q] w fun e w' => e = .returned (.bool true) ∧ Below w.heap.size w w' := by
  obtain ⟨n, rfl⟩ : ∃ n : Nat, a0 = (n : Int) := ⟨a0.toNat, by have := bd8 wa0; omega⟩
  have hn8 : n ≤ 255 := by have := bd8 wa0; omega
  have hqb := bd64 wq
  clear wa0 wq
  have HB : Hid (Below w.heap.size w w) := Lib.hid (Below.refl _ _)
  have HIL := Lib.hid hR
  have HOk := Lib.hid hok
  have HMo := Lib.hid (fun W => most_any n hn8 W)
  have hmo := mo_bd n
  obtain ⟨m, hm⟩ : ∃ m, m = moN n := ⟨_, rfl⟩
  rw [← hm] at HMo hmo
  have HEx := Lib.hid (fun key W h => exact_any A c L hL hok key W h)
  have HE60 := Lib.hid (fun key => ex_small L key 60 (Nat.le_refl _))
  obtain ⟨mo, tk, lo, cs, hq, hsl, hgd, q1, q2, q3, hcl⟩ := stream_let m ⟨hmo.1, by omega⟩ A c L hL hok w hR
  have HCl := Lib.hid (fun W h => stream_let m ⟨hmo.1, by omega⟩ A c L hL hok W h)
  have HCl' : Hid (∀ W, IR W A L → Calls Try.prog 18 #[.int .i64 m, .slice A L.length c] W fun e w' => (∃ A' c', e = .returned (.agg #[.int .i64 mo, .int .i64 tk, .int .i64 lo, .slice A' cs.length c']) ∧ SlV w' (.slice A' cs.length c') cs ∧ Flat A') ∧ Below W.heap.size W w') := Lib.hid (fun W h => by
    obtain ⟨x0, x1, x2, x3, y0, _, _, _, _, _, hc⟩ := HCl.out W h
    have e := y0.trans hq.symm
    injection e with e0 e1 e2 e3
    subst e0 e1 e2 e3
    exact hc)
  have hsz := hsl.size
  have hlo0 := hsl.lo
  dsimp only at hsz hlo0
  have HSd := Lib.hid hgd.sd
  have HGb : Hid (∀ key, gt cs key ≤ exL (L.take 60) key ∧ exL (L.take 60) key ≤ gt cs key + lo) := Lib.hid (fun key => hgd.bd key)
  have HGn := Lib.hid (fun key => hsl.gtb key)
  dsimp only at HGn
  have HGu := Lib.hid (fun v W h => guar_any v ⟨mo, tk, lo, cs⟩ q (by dsimp only; omega) W h)
  have HLe1 := Lib.hid (fun v W h => least_sl v cs (by omega) q W h)
  have HTo := Lib.hid (fun v W h => top2_sl v ⟨mo, tk, lo, cs⟩ (by dsimp only; omega) W h)
  have HTl := Lib.hid (fun v W h => top_sl v cs (by omega) W h)
  have hl1 : (lsW (rkS cs) q).length ≤ 256 := ls_len hsz
  have hlr : (rkS cs).length ≤ 256 := by have := (rkS_ok cs).1.length_eq; omega
  have HSa1 := Lib.hid (fun v u W h1 h2 => same_self v u (lsW (rkS cs) q) (by omega) W h1 h2)
  have HSr := Lib.hid (fun v u W h1 h2 => same_self v u (rkS cs) (by omega) W h1 h2)
  have HGq : Hid (∀ key, gt (lsW (rkS cs) q) key = if q ≤ gt cs key then gt cs key else 0) := Lib.hid (fun key => gt_ls HSd.out q key)
  have HCq := Lib.hid (fun v key W h => count_any v (lsW (rkS cs) q) key (by omega) W h)
  have HCsz := Lib.hid hsz
  dsimp only at HGu HTo
  obtain ⟨G, hG⟩ : ∃ G, G = lsW (rkS cs) q := ⟨_, rfl⟩
  rw [← hG] at HGu HLe1 HSa1 HGq HCq
  have HSV : Hid (∀ W A' c', SlV W (.slice A' cs.length c') cs → SuV W (.agg #[.int .i64 mo, .int .i64 tk, .int .i64 lo, .slice A' cs.length c']) ⟨mo, tk, lo, cs⟩) := Lib.hid (fun W A' c' h => ⟨_, rfl, h⟩)
  obtain ⟨ln, hln⟩ : ∃ ln, ln = L.length := ⟨_, rfl⟩
  have HLn := Lib.hid hln
  rw [← hln] at HCl' HEx ⊢
  have HLo := Lib.hid hlo0
  clear hR hok hm hln hL HCl hq hsl hgd q1 q2 q3 hcl hsz hl1 hlr hmo hG hlo0
  go_enter Try.func10, Try.ntmps10
  go_wp2_with fail
  with_reducible refine (known_any _).mono ?_
  rintro e w1 ⟨rfl, hb⟩
  replace HIL := Lib.hid (HIL.out.below hb)
  replace HB := Lib.hid (HB.out.trans (hb.mono HB.out.size))
  clear hb
  go_wp2_with fail
  with_reducible refine (HMo.out _).mono ?_
  rintro e w9 ⟨rfl, rfl⟩
  clear HMo
  go_wp2_with fail
  with_reducible refine (HCl'.out _ HIL.out).mono ?_
  rintro e w2 ⟨⟨A2, c2, rfl, hv, _⟩, hb⟩
  replace HIL := Lib.hid (HIL.out.below hb)
  replace HB := Lib.hid (HB.out.trans (hb.mono HB.out.size))
  clear hb
  have HV := Lib.hid hv
  clear hv HCl'
  obtain ⟨l2, hl2⟩ : ∃ l2, l2 = cs.length := ⟨_, rfl⟩
  rw [← hl2] at HV HSV ⊢
  have HL2 := Lib.hid hl2
  clear hl2
  obtain ⟨w3, hw3⟩ : ∃ w3, w3 = w2.alloc (.cells #[.int .i64 mo, .int .i64 tk, .int .i64 lo, .slice A2 l2 c2] 24) := ⟨_, rfl⟩
  have hb : Below w2.heap.size w2 w3 := by rw [hw3]; exact (Below.refl _ _).alloc (Nat.le_refl _) _
  replace HIL := Lib.hid (HIL.out.below hb)
  replace HV := Lib.hid (HV.out.below hb)
  replace HB := Lib.hid (HB.out.trans (hb.mono HB.out.size))
  have HZs : Hid (w3.heap[w2.heap.size]? = some (.cells #[.int .i64 mo, .int .i64 tk, .int .i64 lo, .slice A2 l2 c2] 24 (0, 0))) := Lib.hid (by rw [hw3]; exact Deep.blk_alloc_new _ _)
  have Hw3 := Lib.hid hw3
  clear hb hw3
  go_wp2_with fail
  try rw [← Hw3.out]
  with_reducible refine (HGu.out _ _ (HSV.out _ _ _ HV.out)).mono ?_
  rintro e w4 ⟨⟨G1, rfl, hg1⟩, hb⟩
  replace HIL := Lib.hid (HIL.out.below hb)
  replace HV := Lib.hid (HV.out.below hb)
  replace HZs := Lib.hid (blk_carry HZs.out hb)
  replace HB := Lib.hid (HB.out.trans (hb.mono HB.out.size))
  clear hb
  have HG1 := Lib.hid hg1
  clear hg1 HGu
  obtain ⟨Xs, hXs⟩ : ∃ Xs, Xs = w2.heap.size := ⟨_, rfl⟩
  rw [← hXs] at HZs ⊢
  have HXs := Lib.hid hXs
  clear hXs
  have hc := HZs.out
  have c0 := cell_of_row _ _ 0 _ _ _ hc
  have c1 := cell_of_row _ _ 1 _ _ _ hc
  have c2 := cell_of_row _ _ 2 _ _ _ hc
  have c3 := cell_of_row _ _ 3 _ _ _ hc
  simp at c0 c1 c2 c3
  clear hc
  by_cases hlq : q ≤ lo
  · have dlq : decide (q ≤ lo) = true := by simpa using hlq
    have HPo := Lib.hid (fun v W h => poss_any v ⟨mo, tk, lo, cs⟩ q (by dsimp only; have := HCsz.out; omega) (fun h => absurd hlq h) W h)
    dsimp only at HPo
    simp only [if_pos hlq] at HPo
    clear hlq
    go_wp2_with fail
    with_reducible refine (HPo.out _ _ (HSV.out _ _ _ HV.out)).mono ?_
    rintro e w5 ⟨rfl, hb⟩
    replace HIL := Lib.hid (HIL.out.below hb)
    replace HV := Lib.hid (HV.out.below hb)
    replace HZs := Lib.hid (blk_carry HZs.out hb)
    replace HG1 := Lib.hid (HG1.out.below hb)
    replace HB := Lib.hid (HB.out.trans (hb.mono HB.out.size))
    clear hb
    clear HPo c0 c1 c2 c3
    have HKc : Hid (∀ W, Below w5.heap.size w5 W → W.cell? ⟨Xs, 0, none⟩ = some (.int .i64 mo) ∧ W.cell? ⟨Xs, 1, none⟩ = some (.int .i64 tk) ∧ W.cell? ⟨Xs, 2, none⟩ = some (.int .i64 lo) ∧ W.cell? ⟨Xs, 3, none⟩ = some (.slice A2 l2 c2)) := Lib.hid (fun W h => by
      have gs := (h.block _ (Array.getElem?_eq_some_iff.1 HZs.out).1).trans HZs.out
      exact ⟨cell_of_row _ _ 0 _ _ _ gs, cell_of_row _ _ 1 _ _ _ gs, cell_of_row _ _ 2 _ _ _ gs, cell_of_row _ _ 3 _ _ _ gs⟩)
    have HD0 : Hid (Below w5.heap.size w5 w5.drew) := Lib.hid (Below.refl _ _).drew
    have sent1 : True := trivial
    have sent2 : True := trivial
    have sent3 : True := trivial
    have sent4 : True := trivial
    have sent5 : True := trivial
    go_wp2_with fail
    go_region_held3 (fun W => W.cell? ⟨Xs, 0, none⟩ = some (.int .i64 mo) ∧ W.cell? ⟨Xs, 1, none⟩ = some (.int .i64 tk) ∧ W.cell? ⟨Xs, 2, none⟩ = some (.int .i64 lo) ∧ W.cell? ⟨Xs, 3, none⟩ = some (.slice A2 l2 c2))
        (first | exact HKc.out _ HD6.out | exact HKc.out _ HD5.out | exact HKc.out _ HD4.out | exact HKc.out _ HD3.out | exact HKc.out _ HD2.out | exact HKc.out _ HD1.out | exact HKc.out _ HD0.out)
      ((first
        | (clear sent1; go_at_call 33; (with_reducible refine (HLe1.out _ _ (HV.out.below HD0.out)).mono ?_); rintro e u1 ⟨⟨v1, rfl, hy⟩, hb⟩; have HD1 : Hid (Below w5.heap.size w5 u1) := Lib.hid (HD0.out.trans (hb.mono HD0.out.size)); have HY := Lib.hid hy; clear hb hy)
        | (clear sent2; go_at_call 32; (with_reducible refine (HSa1.out _ _ _ (HG1.out.below HD1.out) HY.out).mono ?_); rintro e u2 ⟨rfl, hb⟩; have HD2 : Hid (Below w5.heap.size w5 u2) := Lib.hid (HD1.out.trans (hb.mono HD1.out.size)); clear hb)
        | (clear sent3; go_at_call 34; (first | (with_reducible refine (HTo.out _ _ (HSV.out _ _ _ (HV.out.below HD4.out))).mono ?_) | (with_reducible refine (HTo.out _ _ (HSV.out _ _ _ (HV.out.below HD2.out))).mono ?_)); rintro e u3 ⟨⟨v3, rfl, hy⟩, hb⟩; (first | (have HD5 : Hid (Below w5.heap.size w5 u3) := Lib.hid (HD4.out.trans (hb.mono HD4.out.size)); replace HU := Lib.hid (HU.out.below hb)) | (have HD3 : Hid (Below w5.heap.size w5 u3) := Lib.hid (HD2.out.trans (hb.mono HD2.out.size)))); have HT := Lib.hid hy; clear hb hy)
        | (clear sent4; go_at_call 35; (first | (with_reducible refine (HTl.out _ _ (HV.out.below HD3.out)).mono ?_) | (with_reducible refine (HTl.out _ _ (HV.out.below HD2.out)).mono ?_)); rintro e u4 ⟨⟨v4, rfl, hy⟩, hb⟩; (first | (have HD5 : Hid (Below w5.heap.size w5 u4) := Lib.hid (HD3.out.trans (hb.mono HD3.out.size)); replace HT := Lib.hid (HT.out.below hb)) | (have HD4 : Hid (Below w5.heap.size w5 u4) := Lib.hid (HD2.out.trans (hb.mono HD2.out.size)))); have HU := Lib.hid hy; clear hb hy)
        | (clear sent5; go_at_call 32; (with_reducible refine (HSr.out _ _ _ HT.out HU.out).mono ?_); rintro e u5 ⟨rfl, hb⟩; have HD6 : Hid (Below w5.heap.size w5 u5) := Lib.hid (HD5.out.trans (hb.mono HD5.out.size)); clear hb)
        | fail))
    have hb := HD6.out
    replace HIL := Lib.hid (HIL.out.below hb)
    replace HV := Lib.hid (HV.out.below hb)
    replace HZs := Lib.hid (blk_carry HZs.out hb)
    replace HG1 := Lib.hid (HG1.out.below hb)
    replace HB := Lib.hid (HB.out.trans (hb.mono HB.out.size))
    clear hb HKc HD0 HD1 HD2 HD5 HD6 HT HU
    have hd := HZs.out
    have d2 := cell_of_row _ _ 2 _ _ _ hd
    simp at d2
    clear hd
    go_wp2_with fail
    go_ret
    exact ⟨by first | rfl | simp, HB.out⟩
  · have dlq : decide (q ≤ lo) = false := by simpa using hlq
    have HPo := Lib.hid (fun v W h => poss_any v ⟨mo, tk, lo, cs⟩ q (by dsimp only; have := HCsz.out; omega) (fun _ => by dsimp only; have := HLo.out; omega) W h)
    dsimp only at HPo
    simp only [if_neg hlq] at HPo
    have HNq : Hid (lo < q) := Lib.hid (by omega)
    have HLe2 := Lib.hid (fun v W h => least_sl v cs (by have := HCsz.out; omega) (q - lo) W h)
    have HSa2 := Lib.hid (fun v u W h1 h2 => same_self v u (lsW (rkS cs) (q - lo)) (by have : (lsW (rkS cs) (q - lo)).length ≤ 256 := ls_len HCsz.out; omega) W h1 h2)
    have HGp : Hid (∀ key, gt (lsW (rkS cs) (q - lo)) key = if q - lo ≤ gt cs key then gt cs key else 0) := Lib.hid (fun key => gt_ls HSd.out (q - lo) key)
    have HCp := Lib.hid (fun v key W h => count_any v (lsW (rkS cs) (q - lo)) key (by have : (lsW (rkS cs) (q - lo)).length ≤ 256 := ls_len HCsz.out; omega) W h)
    obtain ⟨P, hP⟩ : ∃ P, P = lsW (rkS cs) (q - lo) := ⟨_, rfl⟩
    rw [← hP] at HPo HLe2 HSa2 HGp HCp
    obtain ⟨ql, hql⟩ : ∃ ql, ql = q - lo := ⟨_, rfl⟩
    rw [← hql] at HLe2 HGp
    have HQl := Lib.hid hql
    have hwq : IntKind.i64.wrap (q - lo) = ql := by rw [hql]; have := HLo.out; simp only [IntKind.wrap_i64]; omega
    clear hlq hP hql
    go_wp2_with fail
    with_reducible refine (HPo.out _ _ (HSV.out _ _ _ HV.out)).mono ?_
    rintro e w5 ⟨⟨P1, rfl, hp1⟩, hb⟩
    replace HIL := Lib.hid (HIL.out.below hb)
    replace HV := Lib.hid (HV.out.below hb)
    replace HZs := Lib.hid (blk_carry HZs.out hb)
    replace HG1 := Lib.hid (HG1.out.below hb)
    replace HB := Lib.hid (HB.out.trans (hb.mono HB.out.size))
    clear hb
    have HP1 := Lib.hid hp1
    clear hp1
    clear HPo c0 c1 c2 c3
    have HKc : Hid (∀ W, Below w5.heap.size w5 W → W.cell? ⟨Xs, 0, none⟩ = some (.int .i64 mo) ∧ W.cell? ⟨Xs, 1, none⟩ = some (.int .i64 tk) ∧ W.cell? ⟨Xs, 2, none⟩ = some (.int .i64 lo) ∧ W.cell? ⟨Xs, 3, none⟩ = some (.slice A2 l2 c2)) := Lib.hid (fun W h => by
      have gs := (h.block _ (Array.getElem?_eq_some_iff.1 HZs.out).1).trans HZs.out
      exact ⟨cell_of_row _ _ 0 _ _ _ gs, cell_of_row _ _ 1 _ _ _ gs, cell_of_row _ _ 2 _ _ _ gs, cell_of_row _ _ 3 _ _ _ gs⟩)
    have HD0 : Hid (Below w5.heap.size w5 w5.drew) := Lib.hid (Below.refl _ _).drew
    have sent1 : True := trivial
    have sent2 : True := trivial
    have sent3 : True := trivial
    have sent4 : True := trivial
    have sent5 : True := trivial
    go_wp2_with fail
    go_region_held3 (fun W => W.cell? ⟨Xs, 0, none⟩ = some (.int .i64 mo) ∧ W.cell? ⟨Xs, 1, none⟩ = some (.int .i64 tk) ∧ W.cell? ⟨Xs, 2, none⟩ = some (.int .i64 lo) ∧ W.cell? ⟨Xs, 3, none⟩ = some (.slice A2 l2 c2))
        (first | exact HKc.out _ HD6.out | exact HKc.out _ HD5.out | exact HKc.out _ HD4.out | exact HKc.out _ HD3.out | exact HKc.out _ HD2.out | exact HKc.out _ HD1.out | exact HKc.out _ HD0.out)
      ((first
        | (clear sent1; go_at_call 33; (with_reducible refine (HLe1.out _ _ (HV.out.below HD0.out)).mono ?_); rintro e u1 ⟨⟨v1, rfl, hy⟩, hb⟩; have HD1 : Hid (Below w5.heap.size w5 u1) := Lib.hid (HD0.out.trans (hb.mono HD0.out.size)); have HY := Lib.hid hy; clear hb hy)
        | (clear sent2; go_at_call 32; (with_reducible refine (HSa1.out _ _ _ (HG1.out.below HD1.out) HY.out).mono ?_); rintro e u2 ⟨rfl, hb⟩; have HD2 : Hid (Below w5.heap.size w5 u2) := Lib.hid (HD1.out.trans (hb.mono HD1.out.size)); clear hb)
        | (clear sent3; go_at_call 34; (first | (with_reducible refine (HTo.out _ _ (HSV.out _ _ _ (HV.out.below HD4.out))).mono ?_) | (with_reducible refine (HTo.out _ _ (HSV.out _ _ _ (HV.out.below HD2.out))).mono ?_)); rintro e u3 ⟨⟨v3, rfl, hy⟩, hb⟩; (first | (have HD5 : Hid (Below w5.heap.size w5 u3) := Lib.hid (HD4.out.trans (hb.mono HD4.out.size)); replace HU := Lib.hid (HU.out.below hb)) | (have HD3 : Hid (Below w5.heap.size w5 u3) := Lib.hid (HD2.out.trans (hb.mono HD2.out.size)))); have HT := Lib.hid hy; clear hb hy)
        | (clear sent4; go_at_call 35; (first | (with_reducible refine (HTl.out _ _ (HV.out.below HD3.out)).mono ?_) | (with_reducible refine (HTl.out _ _ (HV.out.below HD2.out)).mono ?_)); rintro e u4 ⟨⟨v4, rfl, hy⟩, hb⟩; (first | (have HD5 : Hid (Below w5.heap.size w5 u4) := Lib.hid (HD3.out.trans (hb.mono HD3.out.size)); replace HT := Lib.hid (HT.out.below hb)) | (have HD4 : Hid (Below w5.heap.size w5 u4) := Lib.hid (HD2.out.trans (hb.mono HD2.out.size)))); have HU := Lib.hid hy; clear hb hy)
        | (clear sent5; go_at_call 32; (with_reducible refine (HSr.out _ _ _ HT.out HU.out).mono ?_); rintro e u5 ⟨rfl, hb⟩; have HD6 : Hid (Below w5.heap.size w5 u5) := Lib.hid (HD5.out.trans (hb.mono HD5.out.size)); clear hb)
        | fail))
    have hb := HD6.out
    replace HIL := Lib.hid (HIL.out.below hb)
    replace HV := Lib.hid (HV.out.below hb)
    replace HZs := Lib.hid (blk_carry HZs.out hb)
    replace HG1 := Lib.hid (HG1.out.below hb)
    replace HP1 := Lib.hid (HP1.out.below hb)
    replace HB := Lib.hid (HB.out.trans (hb.mono HB.out.size))
    clear hb HKc HD0 HD1 HD2 HD5 HD6 HT HU
    have hd := HZs.out
    have d2 := cell_of_row _ _ 2 _ _ _ hd
    have d3 := cell_of_row _ _ 3 _ _ _ hd
    simp at d2 d3
    clear hd
    go_wp2_with fail
    with_reducible refine (HLe2.out _ _ HV.out).mono ?_
    rintro e w6 ⟨⟨v6, rfl, hy⟩, hb⟩
    replace HIL := Lib.hid (HIL.out.below hb)
    replace HV := Lib.hid (HV.out.below hb)
    replace HZs := Lib.hid (blk_carry HZs.out hb)
    replace HG1 := Lib.hid (HG1.out.below hb)
    replace HP1 := Lib.hid (HP1.out.below hb)
    replace HB := Lib.hid (HB.out.trans (hb.mono HB.out.size))
    clear hb
    have HY6 := Lib.hid hy
    clear hy
    clear d2 d3
    go_wp2_with fail
    with_reducible refine (HSa2.out _ _ _ HP1.out HY6.out).mono ?_
    rintro e w7 ⟨rfl, hb⟩
    replace HIL := Lib.hid (HIL.out.below hb)
    replace HV := Lib.hid (HV.out.below hb)
    replace HZs := Lib.hid (blk_carry HZs.out hb)
    replace HG1 := Lib.hid (HG1.out.below hb)
    replace HP1 := Lib.hid (HP1.out.below hb)
    replace HY6 := Lib.hid (HY6.out.below hb)
    replace HB := Lib.hid (HB.out.trans (hb.mono HB.out.size))
    clear hb
    go_wp2_with fail
    go_loopw [11, 12, 13] (fun kv _a _b wq => ∃ k : Nat, k ≤ 26 ∧ kv = .int .i64 (k : Int) ∧ Hid (Below w.heap.size w wq) ∧ Hid (IR wq A L) ∧ Hid (SlV wq G1 G) ∧ Hid (SlV wq P1 P)) (fun kv _ _ _ => 26 - (intOf kv).toNat)
    case atStart => exact ⟨0, Nat.zero_le _, rfl, HB, HIL, HG1, HP1⟩
    case round =>
      obtain ⟨k', hk', rfl, HBq, HILq, HGq1, HPq1⟩ := hrel
      have hk0 : (0 : Int) ≤ (k' : Int) := by omega
      by_cases hlt : k' < 26
      · have hkI : (k' : Int) < 26 := by omega
        have hwk : IntKind.u8.wrap (k' : Int) = (k' : Int) := by simp only [IntKind.wrap_u8]; omega
        have hwk1 : IntKind.i64.wrap ((k' : Int) + 1) = (k' : Int) + 1 := by simp only [IntKind.wrap_i64]; omega
        have HKk : Hid (∀ W, Calls Try.prog 23 #[.agg #[.int .u8 (k' : Int), .int .u8 0]] W fun e w' => e = .returned (.string (kyI k')) ∧ Below W.heap.size W w') := Lib.hid (fun W => key_any (k', 0) (by dsimp only; omega) W)
        obtain ⟨key, hkey⟩ : ∃ key, key = kyI k' := ⟨_, rfl⟩
        rw [← hkey] at HKk
        have hgb := HGb.out key
        have hgn := HGn.out key
        have hgq := HGq.out key
        have hgp := HGp.out key
        have hql := HQl.out
        have hnq := HNq.out
        have hlo := HLo.out
        have HExk := Lib.hid (fun W h => HEx.out key W h)
        have HCqk := Lib.hid (fun v W h => HCq.out v key W h)
        have HCpk := Lib.hid (fun v W h => HCp.out v key W h)
        obtain ⟨ew, hew⟩ : ∃ ew, ew = exL (L.take 60) key := ⟨_, rfl⟩
        rw [← hew] at hgb HExk
        obtain ⟨g1, hg1⟩ : ∃ g1, g1 = gt G key := ⟨_, rfl⟩
        rw [← hg1] at hgq HCqk
        obtain ⟨p1, hp1⟩ : ∃ p1, p1 = gt P key := ⟨_, rfl⟩
        rw [← hp1] at hgp HCpk
        obtain ⟨x, hx⟩ : ∃ x, x = gt cs key := ⟨_, rfl⟩
        rw [← hx] at hgb hgn hgq hgp
        have hA : q ≤ ew → p1 ≠ 0 := fun h => by
          rw [if_pos (by omega)] at hgp; omega
        have hB9 : ¬ q ≤ ew → ¬ 0 < g1 := fun h => by
          rw [if_neg (by omega)] at hgq; omega
        clear hkey hgb hgn hgq hgp hql hnq hlo hew hg1 hp1 hx
        go_wp2_with fail
        refine (HKk.out _).mono ?_
        rintro e9 z1 ⟨rfl, hb⟩
        replace HBq := Lib.hid (HBq.out.trans (hb.mono HBq.out.size))
        replace HILq := Lib.hid (HILq.out.below hb)
        replace HGq1 := Lib.hid (HGq1.out.below hb)
        replace HPq1 := Lib.hid (HPq1.out.below hb)
        clear hb
        go_wp2_with fail
        refine (HExk.out _ HILq.out).mono ?_
        rintro e9 z2 ⟨rfl, hb⟩
        replace HBq := Lib.hid (HBq.out.trans (hb.mono HBq.out.size))
        replace HILq := Lib.hid (HILq.out.below hb)
        replace HGq1 := Lib.hid (HGq1.out.below hb)
        replace HPq1 := Lib.hid (HPq1.out.below hb)
        clear hb
        by_cases hh : q ≤ ew
        · have dh : decide (q ≤ ew) = true := by simpa using hh
          have dp : decide (p1 = 0) = false := by simpa using hA hh
          have dp2 : (p1 == 0) = false := by simpa using hA hh
          clear hA hB9 hh
          go_wp2_with fail
          refine (HCpk.out _ _ HPq1.out).mono ?_
          rintro e9 z3 ⟨rfl, hb⟩
          replace HBq := Lib.hid (HBq.out.trans (hb.mono HBq.out.size))
          replace HILq := Lib.hid (HILq.out.below hb)
          replace HGq1 := Lib.hid (HGq1.out.below hb)
          replace HPq1 := Lib.hid (HPq1.out.below hb)
          clear hb
          go_wp2_with fail
          go_roundw
          case rel => exact ⟨k' + 1, by omega, by go_num, HBq, HILq, HGq1, HPq1⟩
          case measure => simp [intOf] <;> omega
        · have dh : decide (q ≤ ew) = false := by simpa using hh
          have dp : decide (0 < g1) = false := by
            have hb9 := hB9 (by omega)
            simp; omega
          clear hA hB9 hh
          go_wp2_with fail
          refine (HCqk.out _ _ HGq1.out).mono ?_
          rintro e9 z3 ⟨rfl, hb⟩
          replace HBq := Lib.hid (HBq.out.trans (hb.mono HBq.out.size))
          replace HILq := Lib.hid (HILq.out.below hb)
          replace HGq1 := Lib.hid (HGq1.out.below hb)
          replace HPq1 := Lib.hid (HPq1.out.below hb)
          clear hb
          go_wp2_with fail
          go_roundw
          case rel => exact ⟨k' + 1, by omega, by go_num, HBq, HILq, HGq1, HPq1⟩
          case measure => simp [intOf] <;> omega
      · have hkI : ¬ (k' : Int) < 26 := by omega
        go_wp2_with fail
        go_ret
        exact ⟨rfl, HBq.out⟩
set_option maxRecDepth 100000 in
theorem lifted (os : Os) (started : os.Started) (H : Type) (enc : TypeId × Value → H) :
    ReturnsInHanded {} Try.checked os 10 .any (Rows.heavyhitterListsSpec.pre6 enc Try.prog Try.f10 Rows.heavyhitterListsRow.domain false) (Rows.heavyhitterListsSpec.post enc Try.prog Try.f10 false true false false) := by
  refine returnsInHanded_of_change (C := Try.checked) own started (by kernel_rfl) Try.func10
    (ChangeSpec.witness6 (enc := enc) (C := Try.checked) false ⟨#[], #[.int .u8 0, .slice none 0 0, .int .i64 0], []⟩ 8 (by kernel_rfl) (by kernel_rfl) (by kernel_rfl) (by kernel_rfl)) ?_
  intro W base args ds gs before hval0 hW _ _
  have hval : ∀ (j : Nat) t v, Try.f10.params[j]? = some t → args[j]? = some v → Value.okWide Try.prog W .any base t v := hval0
  have hW' := hW
  obtain ⟨p, q, hA0, hV, rfl, _, _⟩ := hW
  have hA : DataW.TrodAll enc Try.prog W 0 (fun _ => true) true Try.f10.params.toList args.toList ds p := hA0
  rw [Try.params10] at hA hval
  obtain ⟨v0, vs0, d0, ds0, p0, q0, hargs0, rfl, rfl, h0, r0⟩ := trodAll_cons hA
  obtain ⟨v1, vs1, d1, ds1, p1, q1, hargs1, rfl, rfl, h1, r1⟩ := trodAll_cons r0
  obtain ⟨v2, vs2, d2, ds2, p2, q2, hargs2, rfl, rfl, h2, r2⟩ := trodAll_cons r1
  obtain ⟨rfl, rfl, rfl⟩ := trodAll_nil r2
  obtain rfl : args = #[v0, v1, v2] := by cases args; simp_all
  obtain ⟨rfl, rfl⟩ := trodVars_none hV
  obtain ⟨a0, rfl, rfl, rfl, wa0⟩ := open_int Try.underlying5 (hval 0 5 v0 rfl rfl) h0
  have lt1 : ∀ x ∈ p1, x.block < W.heap.size := fun x hx => hW'.lt x (by simp [hx])
  obtain ⟨A1, c1, L1, rfl, hL1, hc1, hn1, hs1, hR1⟩ := open_its (hval 1 34 v1 rfl rfl) h1 lt1
  obtain ⟨a2, rfl, rfl, rfl, wa2⟩ := open_int Try.underlying3 (hval 2 3 v2 rfl rfl) h2
  clear hA0 hval0
  simp only [List.append_nil] at hW'
  refine (walk W a0 wa0 A1 c1 L1 hL1 hc1 hn1 hs1 hR1 a2 wa2).mono fun e W' ⟨he, hb⟩ => ?_
  subst he
  exact ⟨_, rfl, post_mem hW' hb (fun _ _ _ => trodAll_mk1 (shut_bool Try.underlying4 _)) (fun sp hsp => by
    have t := trodAll_cons_mk (shut_int Try.underlying5 wa0) (trodAll_cons_mk (carry laidOut (by kernel_rfl) (of_decide_eq_true (by kernel_rfl)) h1 hb lt1 sp (fun x hx => hsp x (by simp [hx]))) (trodAll_cons_mk (shut_int Try.underlying3 wa2) trodAll_mk0))
    simp only [List.append_nil] at t
    exact t) (fun _ => rfl) (ok_one (by kernel_rfl) rfl (okWide_bool_mk Try.underlying4 _))⟩

theorem proved : Rows.HeavyhitterListsSaid :=
  OpenClaim.holds_of_wide 10 Try.f10 rfl rfl rfl rfl rfl rfl rfl ⟨rfl, rfl, rfl, rfl, rfl⟩ rfl rfl rfl rfl rfl (by kernel_rfl) Try.func10 (by kernel_rfl)
    (of_decide_eq_true (by kernel_rfl)) (by unfold Func.isWrapper; first | (rw [if_pos (by decide +kernel)]; kernel_rfl) | (rw [if_neg (by decide +kernel)]; exact ⟨rfl, rfl⟩))
    (fun os started H enc _ => lifted os started H enc)
end Go.Proofs.Ytnpjakgdfjaglaa.lawLists
