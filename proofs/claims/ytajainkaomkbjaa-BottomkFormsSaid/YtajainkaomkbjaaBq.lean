/- The reference: agrees. -/
import Derived.Test.YtajainkaomkbjaaBp
namespace Go.Proofs.Ytajainkaomkbjaa
open Go.ChangeShapes Go.WideShapes Go.ChangeAt Go.RowKit Go.Joins Bt

set_option maxRecDepth 100000 in
set_option maxHeartbeats 2000000 in
theorem agrees_any (g n : Nat) (sd : Int) (hn : n ≤ 1024) (S : List Ky) (hS : S.length ≤ 300000) (u : Value) (w : World) (hk : Sk w g n sd (skt n S)) (hu : StV w n sd S u) :
    Calls Try.prog 15 #[u, .pointer (some ⟨g, 0, none⟩)] w fun e w' => e = .returned (.bool true) ∧ Below w.heap.size w w' := by
  have HU := Lib.hid hu
  have hu2 := hu
  obtain ⟨v, rfl, hv⟩ := hu2
  have HV := Lib.hid hv
  obtain ⟨A, c, rfl, _, _, _⟩ := hv
  have HK := Lib.hid hk
  have HSz := Lib.hid (fun W h => size_any (g := g) (n := n) (sd := sd) (x := skt n S) W h)
  have HSd := Lib.hid (fun W h => seed_any (g := g) (n := n) (sd := sd) (x := skt n S) W h)
  have HEx := Lib.hid (fun W h => exact_any (g := g) (n := n) (sd := sd) (x := skt n S) W h)
  have HRx := Lib.hid (fun W u h => rexact_any n sd S (by omega) u W h)
  have HKy := Lib.hid (fun W h => keys_any g n sd (skt n S) (by have := skt_len n S; omega) W h)
  have HKp := Lib.hid (fun W u h => kept_any n sd S (by omega) u W h)
  have HSm := Lib.hid (fun v u W h1 h2 => same_any v u (S.take n) (S.take n) (by rw [List.length_take]; omega) W h1 h2)
  rw [show decide (S.take n = S.take n) = true by simp] at HSm
  obtain ⟨b, hb⟩ : ∃ b, b = !decide (n < S.length) := ⟨_, rfl⟩
  rw [show (!(skt n S).2) = b from hb.symm] at HEx
  rw [← hb] at HRx
  obtain ⟨ln, hln⟩ : ∃ ln, S.length = ln := ⟨_, rfl⟩
  rw [hln] at HU HV ⊢
  have HB0 : Hid (Below w.heap.size w (w.alloc (.cells #[.int .i64 (n : Int), .int .i64 sd, .slice A ln c] 28))) := Lib.hid ((Below.refl _ _).alloc (Nat.le_refl _) _)
  have HG0 := Lib.hid (Deep.blk_alloc_new w (.cells #[.int .i64 (n : Int), .int .i64 sd, .slice A ln c] 28))
  obtain ⟨w0, hw0⟩ : ∃ w0, w0 = w.alloc (.cells #[.int .i64 (n : Int), .int .i64 sd, .slice A ln c] 28) := ⟨_, rfl⟩
  rw [← hw0] at HB0 HG0
  have hl0 : w.heap.size < w0.heap.size := (Array.getElem?_eq_some_iff.1 HG0.out).1
  have HS0 : Hid (∀ W, Below w0.heap.size w0 W → W.cell? ⟨w.heap.size, 0, none⟩ = some (.int .i64 (n : Int)) ∧ W.cell? ⟨w.heap.size, 1, none⟩ = some (.int .i64 sd) ∧ W.cell? ⟨w.heap.size, 2, none⟩ = some (.slice A ln c)) := Lib.hid (fun W hb => ⟨cell_of_row W _ 0 _ _ _ ((hb.block _ hl0).trans HG0.out), cell_of_row W _ 1 _ _ _ ((hb.block _ hl0).trans HG0.out), cell_of_row W _ 2 _ _ _ ((hb.block _ hl0).trans HG0.out)⟩)
  have HSk : Hid (∀ W, Below w0.heap.size w0 W → Sk W g n sd (skt n S)) := Lib.hid (fun W hb => (HK.out.below HB0.out).below hb)
  have HSt : Hid (∀ W, Below w0.heap.size w0 W → StV W n sd S (.agg #[.int .i64 (n : Int), .int .i64 sd, .slice A ln c])) := Lib.hid (fun W hb => (HU.out.below HB0.out).below hb)
  have HD0 : Hid (Below w0.heap.size w0 w0.drew) := Lib.hid (Below.refl _ _).drew
  have hne1 : ((n : Int) != (n : Int)) = false := by simp
  have hne2 : (sd != sd) = false := by simp
  have hne3 : (b != b) = false := by simp
  clear hu hk hb hln hS
  have Hw0 := Lib.hid hw0
  clear hw0
  go_enter Try.func15, Try.ntmps15
  go_wp2_with fail
  rw [← Hw0.out]
  go_region_held3 (fun W => W.cell? ⟨w.heap.size, 0, none⟩ = some (.int .i64 (n : Int)) ∧ W.cell? ⟨w.heap.size, 1, none⟩ = some (.int .i64 sd) ∧ W.cell? ⟨w.heap.size, 2, none⟩ = some (.slice A ln c))
    (first | exact HS0.out _ HD1.out | exact HS0.out _ HD0.out)
    ((first
      | (go_at_call 37; (with_reducible refine (HSz.out _ (HSk.out _ HD0.out)).mono ?_); rintro e w1 ⟨rfl, rfl⟩)
      | (go_at_call 38; (with_reducible refine (HSd.out _ (HSk.out _ HD0.out)).mono ?_); rintro e w1 ⟨rfl, rfl⟩)
      | (go_at_call 31; (with_reducible refine (HEx.out _ (HSk.out _ HD0.out)).mono ?_); rintro e w1 ⟨rfl, rfl⟩)
      | (go_at_call 27; (with_reducible refine (HRx.out _ _ (HSt.out _ HD0.out)).mono ?_); rintro e w1 ⟨rfl, hb1⟩; have HD1 : Hid (Below w0.heap.size w0 w1) := Lib.hid (HD0.out.trans (hb1.mono HD0.out.size)); clear hb1)
      | fail))
  have HDd : Hid (Below w0.heap.size w0 w1.drew) := Lib.hid HD1.out.drew
  go_wp2_with fail
  go_region_held3 (fun W => W.cell? ⟨w.heap.size, 0, none⟩ = some (.int .i64 (n : Int)) ∧ W.cell? ⟨w.heap.size, 1, none⟩ = some (.int .i64 sd) ∧ W.cell? ⟨w.heap.size, 2, none⟩ = some (.slice A ln c))
    (first | exact HS0.out _ HD4.out | exact HS0.out _ HD3.out | exact HS0.out _ HD2.out | exact HS0.out _ HDd.out)
    ((first
      | (go_at_call 25; (with_reducible refine (HKy.out _ (HSk.out _ HDd.out)).mono ?_); rintro e w2 ⟨⟨v2, rfl, ho⟩, hb1⟩; have HD2 : Hid (Below w0.heap.size w0 w2) := Lib.hid (HDd.out.trans (hb1.mono HDd.out.size)); have HV2 : Hid (SlV w2 v2 (S.take n)) := Lib.hid (SlV.own ho); clear hb1 ho)
      | (go_at_call 26; (with_reducible refine (HKp.out _ _ (HSt.out _ HD2.out)).mono ?_); rintro e w3 ⟨⟨v3, rfl, hs3⟩, hb1⟩; have HD3 : Hid (Below w0.heap.size w0 w3) := Lib.hid (HD2.out.trans (hb1.mono HD2.out.size)); have HV3 := Lib.hid hs3; have HV4 := Lib.hid (HV2.out.below hb1); clear hb1 hs3)
      | (go_at_call 39; (with_reducible refine (HSm.out _ _ _ HV4.out HV3.out).mono ?_); rintro e w4 ⟨rfl, hb1⟩; have HD4 : Hid (Below w0.heap.size w0 w4) := Lib.hid (HD3.out.trans (hb1.mono HD3.out.size)); clear hb1)
      | fail))
  go_wp2_with fail
  go_ret
  exact ⟨rfl, HB0.out.trans (HD4.out.mono HB0.out.size)⟩
end Go.Proofs.Ytajainkaomkbjaa
