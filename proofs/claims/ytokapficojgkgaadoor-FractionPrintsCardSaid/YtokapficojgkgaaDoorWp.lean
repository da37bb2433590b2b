
/- The walk of FractionPrints. -/
import Derived.Test.YtokapficojgkgaaDoorPx
import Derived.Test.YtokapficojgkgaaDoorKnown
namespace Go.Proofs.YtokapficojgkgaaDoor.lawPrints
open Go.Proofs.YtokapficojgkgaaDoor Go.ChangeShapes Go.WideShapes Go.ChangeAt Go.RowKit Pl

theorem print_any (n d : Int) (h : canon n d) (w : World) (ht : Tb w) :
    Calls Tryd.prog 7 #[.agg #[.int .i64 n, .int .i64 d]] w fun e w' => e = .returned (.string (prB n d)) ∧ Below w.heap.size w w' := by
  obtain ⟨h1, h2, h3, h4, _⟩ := h
  by_cases hd : d = 1
  · subst hd; exact print_one n h3 h4 w ht
  · exact print_two n d hd h3 h4 h1 h2 w ht
set_option maxRecDepth 100000 in
set_option maxHeartbeats 2000000 in
theorem walk (n d : Int) (hn1 : -9223372036854775808 ≤ n) (hn2 : n ≤ 9223372036854775807) (hd1 : -9223372036854775808 ≤ d) (hd2 : d ≤ 9223372036854775807) (w : World) (hT : Tb w) :
    Calls Tryd.prog 3 #[.agg #[.int .i64 n, .int .i64 d]] w fun e w' => e = .returned (.bool true) ∧ Below w.heap.size w w' := by
  have HT := Lib.hid hT
  have HK := Lib.hid (fun W => known_any W)
  have HC := Lib.hid (fun W => rcheck_any n d hn1 hn2 hd1 hd2 W)
  have hb0 : Below w.heap.size w (w.alloc (.cells #[.int .i64 n, .int .i64 d] 23)) := (Below.refl _ _).alloc (Nat.le_refl _) _
  obtain ⟨w0, hw0⟩ : ∃ w0, w0 = w.alloc (.cells #[.int .i64 n, .int .i64 d] 23) := ⟨_, rfl⟩
  have HB0 : Hid (Below w.heap.size w w0) := Lib.hid (by rw [hw0]; exact hb0)
  have HM0 : Hid (w0.heap[w.heap.size]? = some (.cells #[.int .i64 n, .int .i64 d] 23 (0, 0))) := Lib.hid (by rw [hw0]; exact Deep.blk_alloc_new w _)
  clear hT hb0
  by_cases cf : canon n d
  · have hcb : canonB n d = true := by simpa [canonB] using cf
    rw [hcb] at HC
    have HP := Lib.hid (fun (W : World) (h : Below w.heap.size w W) => print_any n d cf W (HT.out.below h))
    have HA := Lib.hid (parse_print n d cf)
    obtain ⟨f1, f2, f3, f4, _⟩ := cf
    have HR := Lib.hid (fun W => rprint_any n d f3 f4 f1 f2 W)
    obtain ⟨S, hS⟩ : ∃ S, S = prB n d := ⟨_, rfl⟩
    rw [← hS] at HP HA HR
    clear hS hcb
    go_enter Tryd.func3, Tryd.ntmps3
    go_wp2_with fail
    rw [← hw0]
    clear hw0
    refine (HK.out _).mono ?_
    rintro e w1 ⟨rfl, hb⟩
    have HB1 := Lib.hid (HB0.out.trans (hb.mono HB0.out.size))
    have HM1 := Lib.hid ((hb.block _ (Array.getElem?_eq_some_iff.1 HM0.out).1).trans HM0.out)
    clear hb HM0 HB0
    have c0 := cell_of_row w1 w.heap.size 0 _ _ _ HM1.out
    have c1 := cell_of_row w1 w.heap.size 1 _ _ _ HM1.out
    simp at c0 c1
    have hz := (Array.getElem?_eq_some_iff.1 HM1.out).1
    go_wp2_with fail
    refine (HC.out _).mono ?_
    rintro e w2 ⟨rfl, hb⟩
    have HB2 := Lib.hid (HB1.out.trans (hb.mono HB1.out.size))
    have HM2 := Lib.hid ((hb.block _ (Array.getElem?_eq_some_iff.1 HM1.out).1).trans HM1.out)
    clear hb HM1 c0 c1 hz
    have c0 := cell_of_row w2 w.heap.size 0 _ _ _ HM2.out
    have c1 := cell_of_row w2 w.heap.size 1 _ _ _ HM2.out
    simp at c0 c1
    have hz := (Array.getElem?_eq_some_iff.1 HM2.out).1
    go_wp2_with fail
    refine (HP.out _ HB2.out).mono ?_
    rintro e w3 ⟨rfl, hb⟩
    have HB3 := Lib.hid (HB2.out.trans (hb.mono HB2.out.size))
    have HM3 := Lib.hid ((hb.block _ (Array.getElem?_eq_some_iff.1 HM2.out).1).trans HM2.out)
    clear hb HM2 c0 c1 hz
    have c0 := cell_of_row w3 w.heap.size 0 _ _ _ HM3.out
    have c1 := cell_of_row w3 w.heap.size 1 _ _ _ HM3.out
    simp at c0 c1
    have hz := (Array.getElem?_eq_some_iff.1 HM3.out).1
    go_wp2_with fail
    refine (HA.out _).mono ?_
    rintro e w4 ⟨rfl, hb⟩
    have HB4 := Lib.hid (HB3.out.trans (hb.mono HB3.out.size))
    have HM4 := Lib.hid ((hb.block _ (Array.getElem?_eq_some_iff.1 HM3.out).1).trans HM3.out)
    clear hb HM3 c0 c1 hz
    have c0 := cell_of_row w4 w.heap.size 0 _ _ _ HM4.out
    have c1 := cell_of_row w4 w.heap.size 1 _ _ _ HM4.out
    simp at c0 c1
    have hz := (Array.getElem?_eq_some_iff.1 HM4.out).1
    obtain ⟨w5, hw5⟩ : ∃ w5, w5 = w4.alloc (.cells #[.int .i64 n, .int .i64 d] 23) := ⟨_, rfl⟩
    have hb : Below w4.heap.size w4 w5 := by rw [hw5]; exact (Below.refl _ _).alloc (Nat.le_refl _) _
    have HB5 := Lib.hid (HB4.out.trans (hb.mono HB4.out.size))
    have HM5 := Lib.hid ((hb.block _ (Array.getElem?_eq_some_iff.1 HM4.out).1).trans HM4.out)
    have HG5 : Hid (w5.heap[w4.heap.size]? = some (.cells #[.int .i64 n, .int .i64 d] 23 (0, 0))) := Lib.hid (by rw [hw5]; exact Deep.blk_alloc_new w4 _)
    clear hb
    go_wp2_with fail
    rw [← hw5]
    clear hw5 HM4 c0 c1 hz
    refine (HR.out _).mono ?_
    rintro e w6 ⟨rfl, hb⟩
    have HB6 := Lib.hid (HB5.out.trans (hb.mono HB5.out.size))
    have HM6 := Lib.hid ((hb.block _ (Array.getElem?_eq_some_iff.1 HM5.out).1).trans HM5.out)
    have HG6 := Lib.hid ((hb.block _ (Array.getElem?_eq_some_iff.1 HG5.out).1).trans HG5.out)
    clear hb HM5 HG5
    have c0 := cell_of_row w6 w.heap.size 0 _ _ _ HM6.out
    have c1 := cell_of_row w6 w.heap.size 1 _ _ _ HM6.out
    have g0 := cell_of_row w6 w4.heap.size 0 _ _ _ HG6.out
    have g1 := cell_of_row w6 w4.heap.size 1 _ _ _ HG6.out
    simp at c0 c1 g0 g1
    go_wp2_with fail
    go_ret
    exact ⟨by simp, HB6.out⟩
  · skip
    have hcb : canonB n d = false := by simpa [canonB] using cf
    rw [hcb] at HC
    clear hcb
    go_enter Tryd.func3, Tryd.ntmps3
    go_wp2_with fail
    rw [← hw0]
    clear hw0
    refine (HK.out _).mono ?_
    rintro e w1 ⟨rfl, hb⟩
    have HB1 := Lib.hid (HB0.out.trans (hb.mono HB0.out.size))
    have HM1 := Lib.hid ((hb.block _ (Array.getElem?_eq_some_iff.1 HM0.out).1).trans HM0.out)
    clear hb HM0 HB0
    have c0 := cell_of_row w1 w.heap.size 0 _ _ _ HM1.out
    have c1 := cell_of_row w1 w.heap.size 1 _ _ _ HM1.out
    simp at c0 c1
    have hz := (Array.getElem?_eq_some_iff.1 HM1.out).1
    go_wp2_with fail
    refine (HC.out _).mono ?_
    rintro e w2 ⟨rfl, hb⟩
    have HB2 := Lib.hid (HB1.out.trans (hb.mono HB1.out.size))
    have HM2 := Lib.hid ((hb.block _ (Array.getElem?_eq_some_iff.1 HM1.out).1).trans HM1.out)
    clear hb HM1 c0 c1 hz
    go_wp2_with fail
    refine (HK.out _).mono ?_
    rintro e w3 ⟨rfl, hb⟩
    have HB3 := Lib.hid (HB2.out.trans (hb.mono HB2.out.size))
    clear hb
    go_wp2_with fail
    go_ret
    exact ⟨rfl, HB3.out⟩
end Go.Proofs.YtokapficojgkgaaDoor.lawPrints
