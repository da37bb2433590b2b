/- HeavyhitterChecks: for any summary and number the law returns true (written by wip/bin/gen_lc22.py). No condition. -/
import Derived.Test.YtdcfhnpnfamdaaaHq
import Derived.Deep.RegionHeld3
namespace Go.Proofs.Ytdcfhnpnfamdaaa.lawChecks
open Go.ChangeShapes Go.WideShapes Go.ChangeAt Go.RowKit Go.Joins

set_option maxRecDepth 100000 in
set_option maxHeartbeats 8000000 in
theorem walk (w : World) (m t l : Int) (A : Option Addr) (c : Nat) (L : List Ct) (hm : -9223372036854775808 ≤ m ∧ m ≤ 9223372036854775807) (_ht : -9223372036854775808 ≤ t ∧ t ≤ 9223372036854775807) (_hl : -9223372036854775808 ≤ l ∧ l ≤ 9223372036854775807) (hL : L.length ≤ 9223372036854775807) (_hc : L.length ≤ c) (_hn : A = none → c = 0) (hs : ∀ x ∈ L, CtOk x) (hR : CW w A L) (n : Int) (_wn : (Lit.int .i64 n).wf = true) :
    Calls Try.prog 3 #[.agg #[.int .i64 m, .int .i64 t, .int .i64 l, .slice A L.length c], .int .i64 n] w fun e w' => e = .returned (.bool true) ∧ Below w.heap.size w w' := by
  have HR := Lib.hid hR
  have HS := Lib.hid hs
  have HM := Lib.hid hm
  obtain ⟨ln, hln⟩ : ∃ ln, ln = L.length := ⟨_, rfl⟩
  have HLn := Lib.hid hln
  rw [← hln] at hL ⊢
  have HB0 : Hid (Below w.heap.size w (w.alloc (.cells #[.int .i64 m, .int .i64 t, .int .i64 l, .slice A ln c] 24))) := Lib.hid ((Below.refl _ _).alloc (Nat.le_refl _) _)
  have HG0 : Hid ((w.alloc (.cells #[.int .i64 m, .int .i64 t, .int .i64 l, .slice A ln c] 24)).heap[w.heap.size]? = some (.cells #[.int .i64 m, .int .i64 t, .int .i64 l, .slice A ln c] 24 (0, 0))) := Lib.hid (Deep.blk_alloc_new _ _)
  clear hR hs hln hm
  go_enter Try.func3, Try.ntmps3
  go_wp2_with fail
  refine (known_any _).mono ?_
  rintro e w1 ⟨rfl, hb⟩
  have HB1 := Lib.hid (HB0.out.trans (hb.mono HB0.out.size))
  have HG1 := Lib.hid ((hb.block _ (Array.getElem?_eq_some_iff.1 HG0.out).1).trans HG0.out)
  have y3 := cell_of_row _ _ 3 _ _ _ HG1.out
  simp at y3
  clear hb HB0 HG0
  by_cases h3 : (300 : Int) < (ln : Int)
  · have d3 : decide ((300 : Int) < (ln : Int)) = true := by simpa using h3
    clear h3
    go_wp2_with fail
    refine (known_any _).mono ?_
    rintro e w2 ⟨rfl, hb⟩
    have HB2 := Lib.hid (HB1.out.trans (hb.mono HB1.out.size))
    clear hb
    go_wp2_with fail
    go_ret
    exact ⟨rfl, HB2.out⟩
  · have d3 : decide ((300 : Int) < (ln : Int)) = false := by simpa using h3
    have h3n : ln ≤ 300 := by omega
    clear h3
    go_wp2_with fail
    go_loopw [5] (fun iv wr => ∃ j : Nat, j ≤ ln ∧ iv = .int .i64 (j : Int) ∧ Hid (∀ i (hi : i < L.length), i < j → L[i].1.size ≤ 80) ∧ Hid (Below w.heap.size w wr) ∧ Hid (wr.heap[w.heap.size]? = some (.cells #[.int .i64 m, .int .i64 t, .int .i64 l, .slice A ln c] 24 (0, 0)))) (fun iv _ => ln - (intOf iv).toNat)
    case atStart => exact ⟨0, Nat.zero_le _, rfl, Lib.hid (fun i _ h => absurd h (by omega)), HB1, HG1⟩
    case round =>
      obtain ⟨j, hj, rfl, HN, HB, HG⟩ := hrel
      have y0 := cell_of_row _ _ 0 _ _ _ HG.out
      have y1 := cell_of_row _ _ 1 _ _ _ HG.out
      have y2 := cell_of_row _ _ 2 _ _ _ HG.out
      have y3 := cell_of_row _ _ 3 _ _ _ HG.out
      simp at y0 y1 y2 y3
      by_cases hlt : j < ln
      · have hj2 : j < L.length := by rw [← HLn.out]; exact hlt
        obtain ⟨b, off, rfl, hb, h0, _⟩ := (HR.out.below HB.out).at j hj2
        have HNx : Hid (∀ x, x = L[j] → x.1.size ≤ 80 → ∀ i (hi : i < L.length), i < j + 1 → L[i].1.size ≤ 80) := Lib.hid (fun x hx hne i hi h => by
          by_cases e : i = j
          · subst e; rw [← hx]; exact hne
          · exact HN.out i hi (by omega))
        obtain ⟨x, hx⟩ : ∃ x, x = L[j] := ⟨_, rfl⟩
        have HX := Lib.hid hx
        rw [← hx] at h0
        clear hx
        obtain ⟨k, v⟩ := x
        dsimp only at h0
        have hjI : (j : Int) < (ln : Int) := by omega
        have hj0 : (0 : Int) ≤ (j : Int) := by omega
        have hw1 : IntKind.i64.wrap ((j : Int) + 1) = (j : Int) + 1 := by simp only [IntKind.wrap_i64]; omega
        by_cases h8 : (80 : Int) < (k.size : Int)
        · have d8 : decide ((80 : Int) < (k.size : Int)) = true := by simpa using h8
          clear h8
          go_wp2_with fail
          go_ret
          exact ⟨rfl, HB.out⟩
        · have d8 : decide ((80 : Int) < (k.size : Int)) = false := by simpa using h8
          have HN2 := Lib.hid (HNx.out _ HX.out (by show k.size ≤ 80; omega))
          clear h8
          go_wp2_with fail
          go_roundw
          case rel => exact ⟨j + 1, by omega, by go_num, HN2, HB, HG⟩
          case measure => simp [intOf] <;> omega
      · have hjI : ¬ (j : Int) < (ln : Int) := by omega
        have HKs : Hid (∀ p ∈ L, p.1.size ≤ 1000000) := Lib.hid (fun p hp => by
          obtain ⟨i, hi, rfl⟩ := List.getElem_of_mem hp
          have := HN.out i hi (by have := HLn.out; omega)
          omega)
        have HCs : Hid (∀ p ∈ L, -9223372036854775808 ≤ p.2 ∧ p.2 ≤ 9223372036854775807) := Lib.hid (fun p hp => (HS.out p hp).2)
        have HPc := Lib.hid (fun A' (W : World) (h : CW W A' L) => pck_any (.agg #[.int .i64 m, .int .i64 t, .int .i64 l, .slice A' L.length c]) ⟨m, t, l, L⟩ (by dsimp only; have := HLn.out; omega) HKs.out HCs.out HM.out W ⟨A', c, rfl, h⟩)
        have HLc := Lib.hid (fun A' (W : World) (h : CW W A' L) => lck_any (.agg #[.int .i64 m, .int .i64 t, .int .i64 l, .slice A' L.length c]) ⟨m, t, l, L⟩ (by dsimp only; have := HLn.out; omega) HKs.out HCs.out HM.out W ⟨A', c, rfl, h⟩)
        rw [← HLn.out] at HPc HLc
        obtain ⟨z, hz⟩ : ∃ z, z = ckS ⟨m, t, l, L⟩ := ⟨_, rfl⟩
        rw [← hz] at HPc HLc
        clear hz hlt HN y0 y1 y2
        by_cases n1 : n < 1
        · have e1 : decide (n < 1) = true := by simpa using n1
          have HNw := Lib.hid (fun W => new_bad n (by omega) W)
          clear n1
          go_wp2_with fail
          refine (HNw.out _).mono ?_
          rintro e w2 ⟨⟨A9, c9, rfl, hv⟩, hb⟩
          have HB2 := Lib.hid (HB.out.trans (hb.mono HB.out.size))
          have HG2 := Lib.hid ((hb.block _ (Array.getElem?_eq_some_iff.1 HG.out).1).trans HG.out)
          have HV2 := Lib.hid hv
          clear hb hv
          obtain ⟨w3, hw3⟩ : ∃ w3, w3 = w2.alloc (.cells #[.int .i64 0, .int .i64 0, .int .i64 0, .slice A9 0 c9] 24) := ⟨_, rfl⟩
          have hb : Below w2.heap.size w2 w3 := by rw [hw3]; exact (Below.refl _ _).alloc (Nat.le_refl _) _
          have HB3 := Lib.hid (HB2.out.trans (hb.mono HB2.out.size))
          have HG3 := Lib.hid ((hb.block _ (Array.getElem?_eq_some_iff.1 HG2.out).1).trans HG2.out)
          have HV3 := Lib.hid (HV2.out.below hb)
          have HW3 := Lib.hid hw3
          clear hb hw3
          go_wp2_with fail
          try rw [← HW3.out]
          refine (eq_none 0 _ _ _ HV3.out).mono ?_
          rintro e w4 ⟨rfl, hb⟩
          have HB4 := Lib.hid (HB3.out.trans (hb.mono HB3.out.size))
          have HG4 := Lib.hid ((hb.block _ (Array.getElem?_eq_some_iff.1 HG3.out).1).trans HG3.out)
          clear hb
          have HKc : Hid (∀ W, Below w4.heap.size w4 W → W.cell? ⟨w.heap.size, 0, none⟩ = some (.int .i64 m) ∧ W.cell? ⟨w.heap.size, 1, none⟩ = some (.int .i64 t) ∧ W.cell? ⟨w.heap.size, 2, none⟩ = some (.int .i64 l) ∧ W.cell? ⟨w.heap.size, 3, none⟩ = some (.slice A ln c)) := Lib.hid (fun W h => by
            have hg := (h.block _ (Array.getElem?_eq_some_iff.1 HG4.out).1).trans HG4.out
            exact ⟨cell_of_row _ _ 0 _ _ _ hg, cell_of_row _ _ 1 _ _ _ hg, cell_of_row _ _ 2 _ _ _ hg, cell_of_row _ _ 3 _ _ _ hg⟩)
          have HD0 : Hid (Below w4.heap.size w4 w4.drew) := Lib.hid (Below.refl _ _).drew
          have HRR := Lib.hid (fun (W : World) (h : Below w4.heap.size w4 W) => HR.out.below (HB4.out.trans (h.mono HB4.out.size)))
          have sent1 : True := trivial
          have sent2 : True := trivial
          go_wp2_with fail
          go_region_held3 (fun W => W.cell? ⟨w.heap.size, 0, none⟩ = some (.int .i64 m) ∧ W.cell? ⟨w.heap.size, 1, none⟩ = some (.int .i64 t) ∧ W.cell? ⟨w.heap.size, 2, none⟩ = some (.int .i64 l) ∧ W.cell? ⟨w.heap.size, 3, none⟩ = some (.slice A ln c))
              (first | exact HKc.out _ HD2.out | exact HKc.out _ HD1.out | exact HKc.out _ HD0.out)
            ((first
              | (clear sent1; go_at_call 16; (with_reducible refine (HPc.out _ _ (HRR.out _ HD0.out)).mono ?_); rintro e w5 ⟨rfl, hb⟩; have HD1 : Hid (Below w4.heap.size w4 w5) := Lib.hid (HD0.out.trans (hb.mono HD0.out.size)); clear hb)
              | (clear sent2; go_at_call 17; (with_reducible refine (HLc.out _ _ (HRR.out _ HD1.out)).mono ?_); rintro e w6 ⟨rfl, hb⟩; have HD2 : Hid (Below w4.heap.size w4 w6) := Lib.hid (HD1.out.trans (hb.mono HD1.out.size)); clear hb)
              | fail))
          go_wp2_with fail
          go_ret
          exact ⟨by first | rfl | simp, HB4.out.trans (HD2.out.mono HB4.out.size)⟩
        · have e1 : decide (n < 1) = false := by simpa using n1
          by_cases n2 : 256 < n
          · have e2 : decide (256 < n) = true := by simpa using n2
            have HNw := Lib.hid (fun W => new_bad n (by omega) W)
            clear n1 n2
            go_wp2_with fail
            refine (HNw.out _).mono ?_
            rintro e w2 ⟨⟨A9, c9, rfl, hv⟩, hb⟩
            have HB2 := Lib.hid (HB.out.trans (hb.mono HB.out.size))
            have HG2 := Lib.hid ((hb.block _ (Array.getElem?_eq_some_iff.1 HG.out).1).trans HG.out)
            have HV2 := Lib.hid hv
            clear hb hv
            obtain ⟨w3, hw3⟩ : ∃ w3, w3 = w2.alloc (.cells #[.int .i64 0, .int .i64 0, .int .i64 0, .slice A9 0 c9] 24) := ⟨_, rfl⟩
            have hb : Below w2.heap.size w2 w3 := by rw [hw3]; exact (Below.refl _ _).alloc (Nat.le_refl _) _
            have HB3 := Lib.hid (HB2.out.trans (hb.mono HB2.out.size))
            have HG3 := Lib.hid ((hb.block _ (Array.getElem?_eq_some_iff.1 HG2.out).1).trans HG2.out)
            have HV3 := Lib.hid (HV2.out.below hb)
            have HW3 := Lib.hid hw3
            clear hb hw3
            go_wp2_with fail
            try rw [← HW3.out]
            refine (eq_none 0 _ _ _ HV3.out).mono ?_
            rintro e w4 ⟨rfl, hb⟩
            have HB4 := Lib.hid (HB3.out.trans (hb.mono HB3.out.size))
            have HG4 := Lib.hid ((hb.block _ (Array.getElem?_eq_some_iff.1 HG3.out).1).trans HG3.out)
            clear hb
            have HKc : Hid (∀ W, Below w4.heap.size w4 W → W.cell? ⟨w.heap.size, 0, none⟩ = some (.int .i64 m) ∧ W.cell? ⟨w.heap.size, 1, none⟩ = some (.int .i64 t) ∧ W.cell? ⟨w.heap.size, 2, none⟩ = some (.int .i64 l) ∧ W.cell? ⟨w.heap.size, 3, none⟩ = some (.slice A ln c)) := Lib.hid (fun W h => by
              have hg := (h.block _ (Array.getElem?_eq_some_iff.1 HG4.out).1).trans HG4.out
              exact ⟨cell_of_row _ _ 0 _ _ _ hg, cell_of_row _ _ 1 _ _ _ hg, cell_of_row _ _ 2 _ _ _ hg, cell_of_row _ _ 3 _ _ _ hg⟩)
            have HD0 : Hid (Below w4.heap.size w4 w4.drew) := Lib.hid (Below.refl _ _).drew
            have HRR := Lib.hid (fun (W : World) (h : Below w4.heap.size w4 W) => HR.out.below (HB4.out.trans (h.mono HB4.out.size)))
            have sent1 : True := trivial
            have sent2 : True := trivial
            go_wp2_with fail
            go_region_held3 (fun W => W.cell? ⟨w.heap.size, 0, none⟩ = some (.int .i64 m) ∧ W.cell? ⟨w.heap.size, 1, none⟩ = some (.int .i64 t) ∧ W.cell? ⟨w.heap.size, 2, none⟩ = some (.int .i64 l) ∧ W.cell? ⟨w.heap.size, 3, none⟩ = some (.slice A ln c))
                (first | exact HKc.out _ HD2.out | exact HKc.out _ HD1.out | exact HKc.out _ HD0.out)
              ((first
                | (clear sent1; go_at_call 16; (with_reducible refine (HPc.out _ _ (HRR.out _ HD0.out)).mono ?_); rintro e w5 ⟨rfl, hb⟩; have HD1 : Hid (Below w4.heap.size w4 w5) := Lib.hid (HD0.out.trans (hb.mono HD0.out.size)); clear hb)
                | (clear sent2; go_at_call 17; (with_reducible refine (HLc.out _ _ (HRR.out _ HD1.out)).mono ?_); rintro e w6 ⟨rfl, hb⟩; have HD2 : Hid (Below w4.heap.size w4 w6) := Lib.hid (HD1.out.trans (hb.mono HD1.out.size)); clear hb)
                | fail))
            go_wp2_with fail
            go_ret
            exact ⟨by first | rfl | simp, HB4.out.trans (HD2.out.mono HB4.out.size)⟩
          · have e2 : decide (256 < n) = false := by simpa using n2
            have HNw := Lib.hid (fun W => new_good n (by omega) W)
            clear n1 n2
            go_wp2_with fail
            refine (HNw.out _).mono ?_
            rintro e w2 ⟨⟨A9, c9, rfl, hv⟩, hb⟩
            have HB2 := Lib.hid (HB.out.trans (hb.mono HB.out.size))
            have HG2 := Lib.hid ((hb.block _ (Array.getElem?_eq_some_iff.1 HG.out).1).trans HG.out)
            have HV2 := Lib.hid hv
            clear hb hv
            obtain ⟨w3, hw3⟩ : ∃ w3, w3 = w2.alloc (.cells #[.int .i64 n, .int .i64 0, .int .i64 0, .slice A9 0 c9] 24) := ⟨_, rfl⟩
            have hb : Below w2.heap.size w2 w3 := by rw [hw3]; exact (Below.refl _ _).alloc (Nat.le_refl _) _
            have HB3 := Lib.hid (HB2.out.trans (hb.mono HB2.out.size))
            have HG3 := Lib.hid ((hb.block _ (Array.getElem?_eq_some_iff.1 HG2.out).1).trans HG2.out)
            have HV3 := Lib.hid (HV2.out.below hb)
            have HW3 := Lib.hid hw3
            clear hb hw3
            go_wp2_with fail
            try rw [← HW3.out]
            refine (eq_none n _ _ _ HV3.out).mono ?_
            rintro e w4 ⟨rfl, hb⟩
            have HB4 := Lib.hid (HB3.out.trans (hb.mono HB3.out.size))
            have HG4 := Lib.hid ((hb.block _ (Array.getElem?_eq_some_iff.1 HG3.out).1).trans HG3.out)
            clear hb
            have HKc : Hid (∀ W, Below w4.heap.size w4 W → W.cell? ⟨w.heap.size, 0, none⟩ = some (.int .i64 m) ∧ W.cell? ⟨w.heap.size, 1, none⟩ = some (.int .i64 t) ∧ W.cell? ⟨w.heap.size, 2, none⟩ = some (.int .i64 l) ∧ W.cell? ⟨w.heap.size, 3, none⟩ = some (.slice A ln c)) := Lib.hid (fun W h => by
              have hg := (h.block _ (Array.getElem?_eq_some_iff.1 HG4.out).1).trans HG4.out
              exact ⟨cell_of_row _ _ 0 _ _ _ hg, cell_of_row _ _ 1 _ _ _ hg, cell_of_row _ _ 2 _ _ _ hg, cell_of_row _ _ 3 _ _ _ hg⟩)
            have HD0 : Hid (Below w4.heap.size w4 w4.drew) := Lib.hid (Below.refl _ _).drew
            have HRR := Lib.hid (fun (W : World) (h : Below w4.heap.size w4 W) => HR.out.below (HB4.out.trans (h.mono HB4.out.size)))
            have sent1 : True := trivial
            have sent2 : True := trivial
            go_wp2_with fail
            go_region_held3 (fun W => W.cell? ⟨w.heap.size, 0, none⟩ = some (.int .i64 m) ∧ W.cell? ⟨w.heap.size, 1, none⟩ = some (.int .i64 t) ∧ W.cell? ⟨w.heap.size, 2, none⟩ = some (.int .i64 l) ∧ W.cell? ⟨w.heap.size, 3, none⟩ = some (.slice A ln c))
                (first | exact HKc.out _ HD2.out | exact HKc.out _ HD1.out | exact HKc.out _ HD0.out)
              ((first
                | (clear sent1; go_at_call 16; (with_reducible refine (HPc.out _ _ (HRR.out _ HD0.out)).mono ?_); rintro e w5 ⟨rfl, hb⟩; have HD1 : Hid (Below w4.heap.size w4 w5) := Lib.hid (HD0.out.trans (hb.mono HD0.out.size)); clear hb)
                | (clear sent2; go_at_call 17; (with_reducible refine (HLc.out _ _ (HRR.out _ HD1.out)).mono ?_); rintro e w6 ⟨rfl, hb⟩; have HD2 : Hid (Below w4.heap.size w4 w6) := Lib.hid (HD1.out.trans (hb.mono HD1.out.size)); clear hb)
                | fail))
            go_wp2_with fail
            go_ret
            exact ⟨by first | rfl | simp, HB4.out.trans (HD2.out.mono HB4.out.size)⟩
set_option maxRecDepth 100000 in
theorem lifted (os : Os) (started : os.Started) (H : Type) (enc : TypeId × Value → H) :
    ReturnsInHanded {} Try.checked os 3 .any (Rows.heavyhitterChecksSpec.pre6 enc Try.prog Try.f3 Rows.heavyhitterChecksRow.domain false) (Rows.heavyhitterChecksSpec.post enc Try.prog Try.f3 false true false false) := by
  refine returnsInHanded_of_change (C := Try.checked) own started (by kernel_rfl) Try.func3
    (ChangeSpec.witness6 (enc := enc) (C := Try.checked) false ⟨#[], #[.agg #[.int .i64 0, .int .i64 0, .int .i64 0, .slice none 0 0], .int .i64 0], []⟩ 8 (by kernel_rfl) (by kernel_rfl) (by kernel_rfl) (by kernel_rfl)) ?_
  intro W base args ds gs before hval0 hW _ _
  have hval : ∀ (j : Nat) t v, Try.f3.params[j]? = some t → args[j]? = some v → Value.okWide Try.prog W .any base t v := hval0
  have hW' := hW
  obtain ⟨p, q, hA0, hV, rfl, _, _⟩ := hW
  have hA : DataW.TrodAll enc Try.prog W 0 (fun _ => true) true Try.f3.params.toList args.toList ds p := hA0
  rw [Try.params3] at hA hval
  obtain ⟨v0, vs0, d0, ds0, p0, q0, hargs0, rfl, rfl, h0, r0⟩ := trodAll_cons hA
  obtain ⟨v1, vs1, d1, ds1, p1, q1, hargs1, rfl, rfl, h1, r1⟩ := trodAll_cons r0
  obtain ⟨rfl, rfl, rfl⟩ := trodAll_nil r1
  obtain rfl : args = #[v0, v1] := by cases args; simp_all
  obtain ⟨rfl, rfl⟩ := trodVars_none hV
  have lt0 : ∀ x ∈ p0, x.block < W.heap.size := fun x hx => hW'.lt x (by simp [hx])
  obtain ⟨m0, t0, l0, A0, c0, L0, rfl, hm0, ht0, hl0, hL0, hc0, hn0, hs0, hR0⟩ := open_sum (hval 0 24 v0 rfl rfl) h0 lt0
  obtain ⟨a1, rfl, rfl, rfl, wa1⟩ := open_int Try.underlying3 (hval 1 3 v1 rfl rfl) h1
  clear hA0 hval0
  simp only [List.append_nil] at hW'
  refine (walk W m0 t0 l0 A0 c0 L0 hm0 ht0 hl0 hL0 hc0 hn0 hs0 hR0 a1 wa1).mono fun e W' ⟨he, hb⟩ => ?_
  subst he
  exact ⟨_, rfl, post_mem hW' hb (fun _ _ _ => trodAll_mk1 (shut_bool Try.underlying4 _)) (fun sp hsp => by
    have t := trodAll_cons_mk (carry laidOut (by kernel_rfl) (of_decide_eq_true (by kernel_rfl)) h0 hb lt0 sp (fun x hx => hsp x (by simp [hx]))) (trodAll_cons_mk (shut_int Try.underlying3 wa1) trodAll_mk0)
    simp only [List.append_nil] at t
    exact t) (fun _ => rfl) (ok_one (by kernel_rfl) rfl (okWide_bool_mk Try.underlying4 _))⟩

theorem proved : Rows.HeavyhitterChecksSaid :=
  OpenClaim.holds_of_wide 3 Try.f3 rfl rfl rfl rfl rfl rfl rfl ⟨rfl, rfl, rfl, rfl, rfl⟩ rfl rfl rfl rfl rfl (by kernel_rfl) Try.func3 (by kernel_rfl)
    (of_decide_eq_true (by kernel_rfl)) (by unfold Func.isWrapper; first | (rw [if_pos (by decide +kernel)]; kernel_rfl) | (rw [if_neg (by decide +kernel)]; exact ⟨rfl, rfl⟩))
    (fun os started H enc _ => lifted os started H enc)
end Go.Proofs.Ytdcfhnpnfamdaaa.lawChecks
