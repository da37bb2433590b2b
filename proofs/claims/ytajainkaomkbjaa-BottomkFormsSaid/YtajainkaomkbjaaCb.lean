/- Merge. -/
import Derived.Test.YtajainkaomkbjaaCa
import Derived.Deep.RegionWith
namespace Go.Proofs.Ytajainkaomkbjaa
open Go.ChangeShapes Go.WideShapes Go.ChangeAt Go.RowKit Go.Joins Bt

theorem cell_gs {g : Nat} {a b : World} (h : Gs g a b) {p : Addr} (hl : p.block < a.heap.size) (hne : p.block ≠ g) : b.cell? p = a.cell? p := by
  unfold World.cell?
  rw [h.block p.block hl (fun e => hne (by injection e))]
theorem blk_set3 {w : World} {g : Nat} {c0 c1 c2 c3 v : Value} {T : TypeId} (h : w.heap[g]? = some (.cells #[c0, c1, c2, c3] T (0, 0))) : (w.setCell ⟨g, 3, none⟩ v).heap[g]? = some (.cells #[c0, c1, c2, v] T (0, 0)) := by
  rw [blk_set _ h]; simp
set_option maxRecDepth 100000 in
set_option maxHeartbeats 4000000 in
theorem merge_any (g h n : Nat) (sd : Int) (hn : n ≤ 1024) (x y : List Ky × Bool) (hx : x.1.length ≤ n) (hy : y.1.length ≤ n) (w : World) (hk : Sk w g n sd x) (hk2 : Sk w h n sd y) :
    Calls Try.prog 23 #[.pointer (some ⟨g, 0, none⟩), .pointer (some ⟨h, 0, none⟩)] w fun e w' => e = .returned (.int .i64 0) ∧ Sk w' g n sd (kep n (mrg x.1 y.1) (x.2 || y.2)) ∧ Gs g w w' := by
  obtain ⟨xl, xm⟩ := x
  obtain ⟨yl, ym⟩ := y
  dsimp only at hx hy ⊢
  obtain ⟨v, hv, hg⟩ := hk
  obtain ⟨u, hu, hh⟩ := hk2
  dsimp only at hg hh hv hu
  have HSV := Lib.hid hv
  have HSU := Lib.hid hu
  obtain ⟨A, c, rfl, _, _, _⟩ := hv
  obtain ⟨B, d, rfl, _, _, _⟩ := hu
  have hgl := (Array.getElem?_eq_some_iff.1 hg).1
  have hhl := (Array.getElem?_eq_some_iff.1 hh).1
  have HMg := Lib.hid (fun v u W hv hu => merged_any v u xl yl (by omega) (by omega) W hv hu)
  have HLm : Hid ((mrg xl yl).length ≤ 1000000) := Lib.hid (by have := mrg_len xl yl; omega)
  obtain ⟨ln, hln⟩ : ∃ ln, ln = xl.length := ⟨_, rfl⟩
  obtain ⟨lm, hlm⟩ : ∃ lm, lm = yl.length := ⟨_, rfl⟩
  rw [← hln] at HSV hg
  rw [← hlm] at HSU hh
  have x0 := cell_of_row w g 0 _ _ _ hg
  have x1 := cell_of_row w g 1 _ _ _ hg
  have x3 := cell_of_row w g 3 _ _ _ hg
  have y0 := cell_of_row w h 0 _ _ _ hh
  have y1 := cell_of_row w h 1 _ _ _ hh
  have y3 := cell_of_row w h 3 _ _ _ hh
  have f3 := frozen_of_row w g 3 _ _ hg
  simp at x0 x1 x3 y0 y1 y3
  have ne1 : ((n : Int) != (n : Int)) = false := by simp
  have ne2 : (sd != sd) = false := by simp
  have HG := Lib.hid hg
  have HH := Lib.hid hh
  clear hg hh hx hy hln hlm
  go_enter Try.func23, Try.ntmps23
  go_wp2_with fail
  go_quiet (fail)
  cases xm with
  | true =>
    go_wp2_with fail
    obtain ⟨w1, hw1⟩ : ∃ w1, w1 = ((w.drewN nq).setCell ⟨g, 3, none⟩ (.bool true)) := ⟨_, rfl⟩
    have hG1 : Gs g w w1 := by rw [hw1]; exact (Gs.of (below_drewN (Below.refl _ _) nq)).set _
    have hg1 : w1.heap[g]? = some (.cells #[.int .i64 (n : Int), .int .i64 sd, .slice A ln c, .bool true] 59 (0, 0)) := by rw [hw1]; exact blk_set3 (w := w.drewN nq) HG.out
    have hh1 : w1.cell? ⟨h, 2, none⟩ = some (.slice B lm d) := by
      by_cases e : h = g
      · have e1 := cell_of_row w g 2 _ _ _ HG.out
        have e2 := cell_of_row w h 2 _ _ _ HH.out
        rw [e, e1] at e2
        rw [e, cell_of_row w1 g 2 _ _ _ hg1]
        simpa using e2
      · rw [cell_gs hG1 (p := ⟨h, 2, none⟩) hhl e, cell_of_row w h 2 _ _ _ HH.out]
        rfl
    have hc2 := cell_of_row w1 g 2 _ _ _ hg1
    simp at hc2
    have hgl1 : g < w1.heap.size := (Array.getElem?_eq_some_iff.1 hg1).1
    have HW1 := Lib.hid hg1
    have HG1 := Lib.hid hG1
    have HS1 := Lib.hid (HSV.out.gs hG1 HG.out)
    have HS2 := Lib.hid (HSU.out.gs hG1 HG.out)
    have HM1 := Lib.hid (HMg.out _ _ w1.drew HS1.out HS2.out)
    rw [← hw1]
    have HD0 : Hid (Below w1.heap.size w1 w1.drew) := Lib.hid (Below.refl _ _).drew
    clear hg1 hG1 hw1
    go_region_with (first
      | (go_at_call 46; (with_reducible refine HM1.out.mono ?_); rintro e w3 ⟨⟨v, rfl, hown⟩, hb3⟩; have HB3 : Hid (Below w1.heap.size w1 w3) := Lib.hid (HD0.out.trans (hb3.mono HD0.out.size)); have HO3 := Lib.hid hown; clear hown hb3)
      | (go_at_call 45; (with_reducible refine (keep_any g n sd hn true (.slice A ln c) v _ HLm.out w3 ((HB3.out.block g hgl1).trans HW1.out) HO3.out).mono ?_); rintro e w4 ⟨rfl, hsk, hgs⟩; have HS4 := Lib.hid hsk; have HG4 := Lib.hid hgs; clear hsk hgs))
    all_goals
      go_wp2_with fail
      go_ret
      exact ⟨rfl, HS4.out, (HG1.out.trans (Gs.of HB3.out)).trans HG4.out⟩
  | false =>
    go_wp2_with fail
    obtain ⟨w1, hw1⟩ : ∃ w1, w1 = ((w.drewN nq).setCell ⟨g, 3, none⟩ (.bool ym)) := ⟨_, rfl⟩
    have hG1 : Gs g w w1 := by rw [hw1]; exact (Gs.of (below_drewN (Below.refl _ _) nq)).set _
    have hg1 : w1.heap[g]? = some (.cells #[.int .i64 (n : Int), .int .i64 sd, .slice A ln c, .bool ym] 59 (0, 0)) := by rw [hw1]; exact blk_set3 (w := w.drewN nq) HG.out
    have hh1 : w1.cell? ⟨h, 2, none⟩ = some (.slice B lm d) := by
      by_cases e : h = g
      · have e1 := cell_of_row w g 2 _ _ _ HG.out
        have e2 := cell_of_row w h 2 _ _ _ HH.out
        rw [e, e1] at e2
        rw [e, cell_of_row w1 g 2 _ _ _ hg1]
        simpa using e2
      · rw [cell_gs hG1 (p := ⟨h, 2, none⟩) hhl e, cell_of_row w h 2 _ _ _ HH.out]
        rfl
    have hc2 := cell_of_row w1 g 2 _ _ _ hg1
    simp at hc2
    have hgl1 : g < w1.heap.size := (Array.getElem?_eq_some_iff.1 hg1).1
    have HW1 := Lib.hid hg1
    have HG1 := Lib.hid hG1
    have HS1 := Lib.hid (HSV.out.gs hG1 HG.out)
    have HS2 := Lib.hid (HSU.out.gs hG1 HG.out)
    have HM1 := Lib.hid (HMg.out _ _ w1.drew HS1.out HS2.out)
    rw [← hw1]
    have HD0 : Hid (Below w1.heap.size w1 w1.drew) := Lib.hid (Below.refl _ _).drew
    clear hg1 hG1 hw1
    go_region_with (first
      | (go_at_call 46; (with_reducible refine HM1.out.mono ?_); rintro e w3 ⟨⟨v, rfl, hown⟩, hb3⟩; have HB3 : Hid (Below w1.heap.size w1 w3) := Lib.hid (HD0.out.trans (hb3.mono HD0.out.size)); have HO3 := Lib.hid hown; clear hown hb3)
      | (go_at_call 45; (with_reducible refine (keep_any g n sd hn ym (.slice A ln c) v _ HLm.out w3 ((HB3.out.block g hgl1).trans HW1.out) HO3.out).mono ?_); rintro e w4 ⟨rfl, hsk, hgs⟩; have HS4 := Lib.hid hsk; have HG4 := Lib.hid hgs; clear hsk hgs))
    all_goals
      go_wp2_with fail
      go_ret
      exact ⟨rfl, HS4.out, (HG1.out.trans (Gs.of HB3.out)).trans HG4.out⟩
end Go.Proofs.Ytajainkaomkbjaa
