/- Overlap of two sketches. -/
import Derived.Test.YtajainkaomkbjaaCd
namespace Go.Proofs.Ytajainkaomkbjaa
open Go.ChangeShapes Go.WideShapes Go.ChangeAt Go.RowKit Go.Joins Bt

/-- A key that is in both sketches. -/
def inB (xl yl : List Ky) (k : Ky) : Bool := decide (xl[lw xl k]? = some k) && decide (yl[lw yl k]? = some k)
/-- How many of the first j keys are in both. -/
def ovC (xl yl X : List Ky) (j : Nat) : Nat := ((X.take j).filter (inB xl yl)).length
theorem ovC_succ (xl yl X : List Ky) (j : Nat) (h : j < X.length) : ovC xl yl X (j + 1) = ovC xl yl X j + if inB xl yl X[j] = true then 1 else 0 := by
  unfold ovC
  rw [List.take_succ_eq_append_getElem h, List.filter_append, List.length_append]
  congr 1
  by_cases hh : inB xl yl X[j] = true <;> simp [hh]
theorem ovC_le (xl yl X : List Ky) (j : Nat) : ovC xl yl X j ≤ j := by
  unfold ovC
  have := List.length_filter_le (inB xl yl) (X.take j)
  rw [List.length_take] at this
  omega
set_option maxRecDepth 100000 in
set_option maxHeartbeats 4000000 in
theorem overlap_any (g h n : Nat) (sd : Int) (hn : n ≤ 1024) (x y : List Ky × Bool) (hx : x.1.length ≤ n) (hy : y.1.length ≤ n) (sx : Srt x.1) (sy : Srt y.1) (w : World) (hk : Sk w g n sd x) (hk2 : Sk w h n sd y)
    (X : List Ky) (xm : Bool) (hX : kep n (mrg x.1 y.1) (x.2 || y.2) = (X, xm)) (hXl : X.length ≤ 1024) :
    Calls Try.prog 33 #[.pointer (some ⟨g, 0, none⟩), .pointer (some ⟨h, 0, none⟩)] w fun e w' => e = .returned (.tuple #[.int .i64 (if X.length = 0 then 0 else ((ovC x.1 y.1 X X.length * 1000000 / X.length : Nat) : Int)), .int .i64 0]) ∧ Below w.heap.size w w' := by
  have HU := Lib.hid (union_ok g h n sd hn x y hx hy w hk hk2)
  rw [hX] at HU
  have HKx := Lib.hid (fun kh kt W hs => keeps_any g n sd x sx (by omega) kh kt W hs)
  have HKy := Lib.hid (fun kh kt W hs => keeps_any h n sd y sy (by omega) kh kt W hs)
  have HSx := Lib.hid hk
  have HSy := Lib.hid hk2
  obtain ⟨xl, xb⟩ := x
  obtain ⟨yl, yb⟩ := y
  dsimp only at HU HKx HKy HSx HSy ⊢
  have HOs := Lib.hid (ovC_succ xl yl X)
  have HOl := Lib.hid (ovC_le xl yl X)
  clear hk hk2 hX hx hy sx sy
  by_cases h0 : X.length = 0
  · have HX0 := Lib.hid h0
    obtain rfl : X = [] := List.eq_nil_of_length_eq_zero h0
    clear h0 hXl
    go_enter Try.func33, Try.ntmps33
    go_wp2_with fail
    refine HU.out.mono ?_
    rintro e w1 ⟨rfl, ⟨v, ⟨A, c, rfl, _⟩, hg⟩, hb⟩
    have HB := Lib.hid hb
    have x2 := cell_of_row w1 w.heap.size 2 _ _ _ hg
    simp at x2
    clear hb hg
    go_wp2_with fail
    go_ret2
    exact ⟨rfl, HB.out⟩
  · have HR0 : Hid (∀ q : Nat, (if X.length = 0 then (0 : Int) else ((q * 1000000 / X.length : Nat) : Int)) = ((q * 1000000 / X.length : Nat) : Int)) := Lib.hid (fun q => by rw [if_neg h0])
    rw [HR0.out]
    obtain ⟨ln, hln⟩ : ∃ ln, ln = X.length := ⟨_, rfl⟩
    have HLn := Lib.hid hln
    rw [← hln] at h0 hXl ⊢
    clear HR0 hln
    go_enter Try.func33, Try.ntmps33
    go_wp2_with fail
    refine HU.out.mono ?_
    rintro e w1 ⟨rfl, ⟨v, ⟨A, c, rfl, hlc, hnl, hR⟩, hg⟩, hb⟩
    have HB := Lib.hid hb
    have HR := Lib.hid hR
    have HG := Lib.hid hg
    dsimp only at hlc hR hg
    rw [← HLn.out] at hlc hg
    have x2 := cell_of_row w1 w.heap.size 2 _ _ _ hg
    simp at x2
    have hz : w.heap.size < w1.heap.size := (Array.getElem?_eq_some_iff.1 hg).1
    have hlnI : (0 : Int) < (ln : Int) := by omega
    have hne0 : ((ln : Int) == 0) = false := by rw [beq_eq_false_iff_ne]; omega
    clear hb hR hnl hg
    go_wp2_with fail
    go_loopw [8, 33] (fun cv iv wr => ∃ j : Nat, j ≤ ln ∧ cv = .int .i64 (ovC xl yl X j : Int) ∧ iv = .int .i64 (j : Int) ∧ Hid (Below w.heap.size w wr) ∧ Hid (Below w1.heap.size w1 wr)) (fun _ iv _ => ln - (intOf iv).toNat)
    case atStart => exact ⟨0, Nat.zero_le _, rfl, rfl, HB, Lib.hid (Below.refl _ _)⟩
    case round =>
      obtain ⟨j, hj, rfl, rfl, HW, HW1⟩ := hrel
      by_cases hlt : j < ln
      · have hj2 : j < X.length := by rw [← HLn.out]; exact hlt
        obtain ⟨b, off, rfl, hbl, h0', h1'⟩ := (HR.out.below HW1.out).at j hj2
        have HS := Lib.hid (HOs.out j hj2)
        have HI : Hid (inB xl yl X[j] = (decide (xl[lw xl X[j]]? = some X[j]) && decide (yl[lw yl X[j]]? = some X[j]))) := Lib.hid rfl
        obtain ⟨⟨kh, kt⟩, hx⟩ : ∃ k, k = X[j] := ⟨_, rfl⟩
        rw [← hx] at h0' h1' HS HI
        dsimp only at h0' h1'
        have HA := Lib.hid (fun W hs => HKx.out kh kt W hs)
        have HC := Lib.hid (fun W hs => HKy.out kh kt W hs)
        obtain ⟨p, hp⟩ : ∃ p, p = decide (xl[lw xl (kh, kt)]? = some (kh, kt)) := ⟨_, rfl⟩
        obtain ⟨q, hq⟩ : ∃ q, q = decide (yl[lw yl (kh, kt)]? = some (kh, kt)) := ⟨_, rfl⟩
        rw [← hp] at HA HI
        rw [← hq] at HC HI
        rw [HI.out] at HS
        have HOj := Lib.hid (HOl.out j)
        obtain ⟨m, hm⟩ : ∃ m, m = ovC xl yl X j := ⟨_, rfl⟩
        rw [← hm] at HS HOj ⊢
        have hmj := HOj.out
        have hjI : (j : Int) < (ln : Int) := by omega
        have hj0 : (0 : Int) ≤ (j : Int) := by omega
        have hm0 : (0 : Int) ≤ (m : Int) := by omega
        have hmI : (m : Int) ≤ 1024 := by omega
        have hw1 : IntKind.i64.wrap ((j : Int) + 1) = (j : Int) + 1 := by simp only [IntKind.wrap_i64]; omega
        have hw2 : IntKind.i64.wrap ((m : Int) + 1) = (m : Int) + 1 := by simp only [IntKind.wrap_i64]; omega
        have HBz := Lib.hid (HW.out.alloc HW.out.size (.cells #[.int .i64 kh, .string kt] 50))
        have HBz1 := Lib.hid (HW1.out.alloc HW1.out.size (.cells #[.int .i64 kh, .string kt] 50))
        have HKz := Lib.hid (Deep.blk_alloc_new wr (.cells #[.int .i64 kh, .string kt] 50))
        clear hx hp hq hm hmj hj2
        go_wp2_with fail
        refine (HA.out _ (HSx.out.below HBz.out)).mono ?_
        rintro e w2 ⟨rfl, hb2⟩
        have HB2 := Lib.hid (HBz.out.trans (hb2.mono HBz.out.size))
        have HB21 := Lib.hid (HBz1.out.trans (hb2.mono HBz1.out.size))
        have hk2 := (hb2.block _ (Array.getElem?_eq_some_iff.1 HKz.out).1).trans HKz.out
        have r0 := cell_of_row w2 wr.heap.size 0 _ _ _ hk2
        have r1 := cell_of_row w2 wr.heap.size 1 _ _ _ hk2
        simp at r0 r1
        clear hb2 hk2 h0' h1'
        cases p with
        | false =>
          have HS2 : Hid (ovC xl yl X (j + 1) = m) := Lib.hid (by rw [HS.out]; simp)
          go_wp2_with fail
          go_roundw
          case rel => exact ⟨j + 1, by omega, by rw [HS2.out], by go_num, HB2, HB21⟩
          case measure => simp [intOf] <;> omega
        | true =>
          go_wp2_with fail
          refine (HC.out _ (HSy.out.below HB2.out)).mono ?_
          rintro e w3 ⟨rfl, hb3⟩
          have HB3 := Lib.hid (HB2.out.trans (hb3.mono HB2.out.size))
          have HB31 := Lib.hid (HB21.out.trans (hb3.mono HB21.out.size))
          clear hb3 r0 r1
          cases q with
          | false =>
            have HS2 : Hid (ovC xl yl X (j + 1) = m) := Lib.hid (by rw [HS.out]; simp)
            go_wp2_with fail
            go_roundw
            case rel => exact ⟨j + 1, by omega, by rw [HS2.out], by go_num, HB3, HB31⟩
            case measure => simp [intOf] <;> omega
          | true =>
            have HS2 : Hid (ovC xl yl X (j + 1) = m + 1) := Lib.hid (by rw [HS.out]; simp)
            go_wp2_with fail
            go_roundw
            case rel => exact ⟨j + 1, by omega, by rw [HS2.out]; go_num, by go_num, HB3, HB31⟩
            case measure => simp [intOf] <;> omega
      · obtain rfl : j = ln := by omega
        have HOj := Lib.hid (HOl.out j)
        obtain ⟨m, hm⟩ : ∃ m, m = ovC xl yl X j := ⟨_, rfl⟩
        have HMj := Lib.hid hm
        rw [← hm] at HOj ⊢
        have hmj := HOj.out
        have hG := (HW1.out.block _ hz).trans HG.out
        rw [← HLn.out] at hG
        have x2 := cell_of_row wr w.heap.size 2 _ _ _ hG
        simp at x2
        obtain ⟨q, hq⟩ : ∃ q, q = m * 1000000 / j := ⟨_, rfl⟩
        have HQ : Hid (m * 1000000 / j = q) := Lib.hid hq.symm
        have hqm : q ≤ m * 1000000 := by rw [hq]; exact Nat.div_le_self _ _
        have hw2 : IntKind.i64.wrap ((m : Int) * 1000000) = (m : Int) * 1000000 := by simp only [IntKind.wrap_i64]; omega
        have hdq : ((m : Int) * 1000000).tdiv (j : Int) = (q : Int) := by
          rw [Int.tdiv_eq_ediv_of_nonneg (by omega), hq, Int.natCast_ediv, Int.natCast_mul]
          rfl
        have hdq2 : ((m : Int) * 1000000) / (j : Int) = (q : Int) := by
          rw [hq, Int.natCast_ediv, Int.natCast_mul]
          rfl
        have hw3 : IntKind.i64.wrap (q : Int) = (q : Int) := by simp only [IntKind.wrap_i64]; omega
        clear hG hmj hm hq hqm
        go_wp2_with fail
        go_ret2
        exact ⟨by rw [← HMj.out, HQ.out]; rfl, HW.out⟩
end Go.Proofs.Ytajainkaomkbjaa
