
/- The walk of FractionDecimals (written by wip/bin/gen_wd.py). -/
import Derived.Test.YtokapficojgkgaaDoorRm
import Derived.Test.YtokapficojgkgaaDoorDe
namespace Go.Proofs.YtokapficojgkgaaDoor.lawDecimals
open Go.Proofs.YtokapficojgkgaaDoor Go.ChangeShapes Go.WideShapes Go.ChangeAt Go.RowKit Pl

def dcV (a d : Int) (k : Nat) : ByteArray := dcB (decide ((10 : Int) ^ k * a / d < 0)) k ((10 : Int) ^ k * a / d).natAbs
theorem decimal_any (a d : Int) (k : Nat) (hk : k ≤ 6) (h3 : -1048576 ≤ a) (h4 : a ≤ 1048576) (h5 : 1 ≤ d) (h6 : d ≤ 1048576) (w : World) (ht : Tb w) :
    Calls Tryd.prog 10 #[.agg #[.int .i64 a, .int .i64 d], .int .i64 (k : Int)] w fun e w' => e = .returned (.tuple #[.string (dcV a d k), .int .i64 0]) ∧ Below w.heap.size w w' := by
  unfold dcV
  obtain ⟨N, hN⟩ : ∃ N, N = (10 : Int) ^ k * a / d := ⟨_, rfl⟩
  rw [← hN]
  by_cases hn : N < 0
  · rw [decide_eq_true hn]
    by_cases hz : k = 0
    · exact decimal_zfn a d k hk h3 h4 h5 h6 N hN hn hz w ht
    · by_cases hm : Lib.nDigits N.natAbs < k + 1
      · exact decimal_pmn a d k hk h3 h4 h5 h6 N hN hn (by omega) hm w ht
      · exact decimal_pfn a d k hk h3 h4 h5 h6 N hN hn (by omega) (by omega) w ht
  · rw [decide_eq_false hn]
    by_cases hz : k = 0
    · exact decimal_zfq a d k hk h3 h4 h5 h6 N hN (by omega) hz w ht
    · by_cases hm : Lib.nDigits N.natAbs < k + 1
      · exact decimal_pmq a d k hk h3 h4 h5 h6 N hN (by omega) (by omega) hm w ht
      · exact decimal_pfq a d k hk h3 h4 h5 h6 N hN (by omega) (by omega) (by omega) w ht
theorem rdecimal_any (a d : Int) (k : Nat) (hk : k ≤ 6) (h3 : -1048576 ≤ a) (h4 : a ≤ 1048576) (h5 : 1 ≤ d) (h6 : d ≤ 1048576) (w : World) :
    Calls Tryd.prog 11 #[.agg #[.int .i64 a, .int .i64 d], .int .i64 (k : Int)] w fun e w' => e = .returned (.string (dcV a d k)) ∧ Below w.heap.size w w' := by
  unfold dcV
  obtain ⟨N, hN⟩ : ∃ N, N = (10 : Int) ^ k * a / d := ⟨_, rfl⟩
  rw [← hN]
  by_cases hn : N < 0
  · rw [decide_eq_true hn]
    by_cases hz : k = 0
    · exact rdecimal_zn a d k hk h3 h4 h5 h6 N hN hn hz w
    · exact rdecimal_pn a d k hk h3 h4 h5 h6 N hN hn (by omega) w
  · rw [decide_eq_false hn]
    by_cases hz : k = 0
    · exact rdecimal_zq a d k hk h3 h4 h5 h6 N hN (by omega) hz w
    · exact rdecimal_pq a d k hk h3 h4 h5 h6 N hN (by omega) (by omega) w
set_option maxRecDepth 100000 in
theorem decimal_out (a d m : Int) (hm : m < 0 ∨ 6 < m) (w : World) :
    Calls Tryd.prog 10 #[.agg #[.int .i64 a, .int .i64 d], .int .i64 m] w fun e w' => e = .returned (.tuple #[.string ⟨#[]⟩, .int .i64 2]) ∧ Below w.heap.size w w' := by
  have HA := Lib.hid ((Below.refl w.heap.size w).alloc (Nat.le_refl _) (.cells #[.int .i64 a, .int .i64 d] 23))
  by_cases h1 : m < 0
  · clear hm
    go_enter Tryd.func10, Tryd.ntmps10
    go_wp2_with fail
    go_ret2
    exact ⟨rfl, HA.out⟩
  · have h2 : 6 < m := by omega
    have h1' : 0 ≤ m := by omega
    have h1f : (m < 0) = False := eq_false h1
    clear hm
    go_enter Tryd.func10, Tryd.ntmps10
    go_wp2_with fail
    go_ret2
    exact ⟨rfl, HA.out⟩
set_option maxRecDepth 100000 in
set_option maxHeartbeats 2000000 in
theorem walkN (n d : Int) (hn1 : -9223372036854775808 ≤ n) (hn2 : n ≤ 9223372036854775807) (hd1 : -9223372036854775808 ≤ d) (hd2 : d ≤ 9223372036854775807) (m : Int) (cf : ¬ canon n d) (w : World) (hT : Tb w) :
    Calls Tryd.prog 4 #[.agg #[.int .i64 n, .int .i64 d], .int .i64 m] w fun e w' => e = .returned (.bool true) ∧ Below w.heap.size w w' := by
  have HT := Lib.hid hT
  have HK := Lib.hid (fun W => known_any W)
  have HC := Lib.hid (fun W => rcheck_any n d hn1 hn2 hd1 hd2 W)
  have hb0 : Below w.heap.size w (w.alloc (.cells #[.int .i64 n, .int .i64 d] 23)) := (Below.refl _ _).alloc (Nat.le_refl _) _
  obtain ⟨w0, hw0⟩ : ∃ w0, w0 = w.alloc (.cells #[.int .i64 n, .int .i64 d] 23) := ⟨_, rfl⟩
  have HB0 : Hid (Below w.heap.size w w0) := Lib.hid (by rw [hw0]; exact hb0)
  have HM0 : Hid (w0.heap[w.heap.size]? = some (.cells #[.int .i64 n, .int .i64 d] 23 (0, 0))) := Lib.hid (by rw [hw0]; exact Deep.blk_alloc_new w _)
  clear hT hb0
  have hcb : canonB n d = false := by simpa [canonB] using cf
  rw [hcb] at HC
  clear hcb cf
  go_enter Tryd.func4, Tryd.ntmps4
  go_wp2_with fail
  rw [← hw0]
  clear hw0
  refine (HK.out _).mono ?_
  rintro e w1 ⟨rfl, hb⟩
  have HB1 := Lib.hid (HB0.out.trans (hb.mono HB0.out.size))
  have HM1 := Lib.hid ((hb.block _ (Array.getElem?_eq_some_iff.1 HM0.out).1).trans HM0.out)
  clear hb HM0 HB0
  have c0 := cell_of_row w1 w.heap.size 0 _ _ _ HM1.out
  have c1 := cell_of_row w1 w.heap.size 1 _ _ _ HM1.out
  simp at c0 c1
  have hz := (Array.getElem?_eq_some_iff.1 HM1.out).1
  go_wp2_with fail
  refine (HC.out _).mono ?_
  rintro e w2 ⟨rfl, hb⟩
  have HB2 := Lib.hid (HB1.out.trans (hb.mono HB1.out.size))
  have HM2 := Lib.hid ((hb.block _ (Array.getElem?_eq_some_iff.1 HM1.out).1).trans HM1.out)
  clear hb HM1 c0 c1 hz
  have c0 := cell_of_row w2 w.heap.size 0 _ _ _ HM2.out
  have c1 := cell_of_row w2 w.heap.size 1 _ _ _ HM2.out
  simp at c0 c1
  have hz := (Array.getElem?_eq_some_iff.1 HM2.out).1
  go_wp2_with fail
  refine (HK.out _).mono ?_
  rintro e w3 ⟨rfl, hb⟩
  have HB3 := Lib.hid (HB2.out.trans (hb.mono HB2.out.size))
  have HM3 := Lib.hid ((hb.block _ (Array.getElem?_eq_some_iff.1 HM2.out).1).trans HM2.out)
  clear hb HM2 c0 c1 hz
  have c0 := cell_of_row w3 w.heap.size 0 _ _ _ HM3.out
  have c1 := cell_of_row w3 w.heap.size 1 _ _ _ HM3.out
  simp at c0 c1
  have hz := (Array.getElem?_eq_some_iff.1 HM3.out).1
  go_wp2_with fail
  go_ret
  exact ⟨by simp, HB3.out⟩
set_option maxRecDepth 100000 in
set_option maxHeartbeats 2000000 in
theorem walkL (n d : Int) (hn1 : -9223372036854775808 ≤ n) (hn2 : n ≤ 9223372036854775807) (hd1 : -9223372036854775808 ≤ d) (hd2 : d ≤ 9223372036854775807) (m : Int) (cf : canon n d) (h1 : m < 0) (w : World) (hT : Tb w) :
    Calls Tryd.prog 4 #[.agg #[.int .i64 n, .int .i64 d], .int .i64 m] w fun e w' => e = .returned (.bool true) ∧ Below w.heap.size w w' := by
  have HT := Lib.hid hT
  have HK := Lib.hid (fun W => known_any W)
  have HC := Lib.hid (fun W => rcheck_any n d hn1 hn2 hd1 hd2 W)
  have hb0 : Below w.heap.size w (w.alloc (.cells #[.int .i64 n, .int .i64 d] 23)) := (Below.refl _ _).alloc (Nat.le_refl _) _
  obtain ⟨w0, hw0⟩ : ∃ w0, w0 = w.alloc (.cells #[.int .i64 n, .int .i64 d] 23) := ⟨_, rfl⟩
  have HB0 : Hid (Below w.heap.size w w0) := Lib.hid (by rw [hw0]; exact hb0)
  have HM0 : Hid (w0.heap[w.heap.size]? = some (.cells #[.int .i64 n, .int .i64 d] 23 (0, 0))) := Lib.hid (by rw [hw0]; exact Deep.blk_alloc_new w _)
  clear hT hb0
  have hcb : canonB n d = true := by simpa [canonB] using cf
  rw [hcb] at HC
  obtain ⟨f1, f2, f3, f4, _⟩ := cf
  have HD := Lib.hid (fun W => decimal_out n d m (by omega) W)
  clear hcb
  go_enter Tryd.func4, Tryd.ntmps4
  go_wp2_with fail
  rw [← hw0]
  clear hw0
  refine (HK.out _).mono ?_
  rintro e w1 ⟨rfl, hb⟩
  have HB1 := Lib.hid (HB0.out.trans (hb.mono HB0.out.size))
  have HM1 := Lib.hid ((hb.block _ (Array.getElem?_eq_some_iff.1 HM0.out).1).trans HM0.out)
  clear hb HM0 HB0
  have c0 := cell_of_row w1 w.heap.size 0 _ _ _ HM1.out
  have c1 := cell_of_row w1 w.heap.size 1 _ _ _ HM1.out
  simp at c0 c1
  have hz := (Array.getElem?_eq_some_iff.1 HM1.out).1
  go_wp2_with fail
  refine (HC.out _).mono ?_
  rintro e w2 ⟨rfl, hb⟩
  have HB2 := Lib.hid (HB1.out.trans (hb.mono HB1.out.size))
  have HM2 := Lib.hid ((hb.block _ (Array.getElem?_eq_some_iff.1 HM1.out).1).trans HM1.out)
  clear hb HM1 c0 c1 hz
  have c0 := cell_of_row w2 w.heap.size 0 _ _ _ HM2.out
  have c1 := cell_of_row w2 w.heap.size 1 _ _ _ HM2.out
  simp at c0 c1
  have hz := (Array.getElem?_eq_some_iff.1 HM2.out).1
  go_wp2_with fail
  refine (HD.out _).mono ?_
  rintro e w3 ⟨rfl, hb⟩
  have HB3 := Lib.hid (HB2.out.trans (hb.mono HB2.out.size))
  have HM3 := Lib.hid ((hb.block _ (Array.getElem?_eq_some_iff.1 HM2.out).1).trans HM2.out)
  clear hb HM2 c0 c1 hz
  have c0 := cell_of_row w3 w.heap.size 0 _ _ _ HM3.out
  have c1 := cell_of_row w3 w.heap.size 1 _ _ _ HM3.out
  simp at c0 c1
  have hz := (Array.getElem?_eq_some_iff.1 HM3.out).1
  go_wp2_with fail
  go_ret
  exact ⟨by simp, HB3.out⟩
set_option maxRecDepth 100000 in
set_option maxHeartbeats 2000000 in
theorem walkH (n d : Int) (hn1 : -9223372036854775808 ≤ n) (hn2 : n ≤ 9223372036854775807) (hd1 : -9223372036854775808 ≤ d) (hd2 : d ≤ 9223372036854775807) (m : Int) (cf : canon n d) (h2 : 6 < m) (w : World) (hT : Tb w) :
    Calls Tryd.prog 4 #[.agg #[.int .i64 n, .int .i64 d], .int .i64 m] w fun e w' => e = .returned (.bool true) ∧ Below w.heap.size w w' := by
  have HT := Lib.hid hT
  have HK := Lib.hid (fun W => known_any W)
  have HC := Lib.hid (fun W => rcheck_any n d hn1 hn2 hd1 hd2 W)
  have hb0 : Below w.heap.size w (w.alloc (.cells #[.int .i64 n, .int .i64 d] 23)) := (Below.refl _ _).alloc (Nat.le_refl _) _
  obtain ⟨w0, hw0⟩ : ∃ w0, w0 = w.alloc (.cells #[.int .i64 n, .int .i64 d] 23) := ⟨_, rfl⟩
  have HB0 : Hid (Below w.heap.size w w0) := Lib.hid (by rw [hw0]; exact hb0)
  have HM0 : Hid (w0.heap[w.heap.size]? = some (.cells #[.int .i64 n, .int .i64 d] 23 (0, 0))) := Lib.hid (by rw [hw0]; exact Deep.blk_alloc_new w _)
  clear hT hb0
  have hcb : canonB n d = true := by simpa [canonB] using cf
  rw [hcb] at HC
  obtain ⟨f1, f2, f3, f4, _⟩ := cf
  have HD := Lib.hid (fun W => decimal_out n d m (by omega) W)
  have h1' : 0 ≤ m := by omega
  have h1f : (m < 0) = False := eq_false (by omega)
  clear hcb
  go_enter Tryd.func4, Tryd.ntmps4
  go_wp2_with fail
  rw [← hw0]
  clear hw0
  refine (HK.out _).mono ?_
  rintro e w1 ⟨rfl, hb⟩
  have HB1 := Lib.hid (HB0.out.trans (hb.mono HB0.out.size))
  have HM1 := Lib.hid ((hb.block _ (Array.getElem?_eq_some_iff.1 HM0.out).1).trans HM0.out)
  clear hb HM0 HB0
  have c0 := cell_of_row w1 w.heap.size 0 _ _ _ HM1.out
  have c1 := cell_of_row w1 w.heap.size 1 _ _ _ HM1.out
  simp at c0 c1
  have hz := (Array.getElem?_eq_some_iff.1 HM1.out).1
  go_wp2_with fail
  refine (HC.out _).mono ?_
  rintro e w2 ⟨rfl, hb⟩
  have HB2 := Lib.hid (HB1.out.trans (hb.mono HB1.out.size))
  have HM2 := Lib.hid ((hb.block _ (Array.getElem?_eq_some_iff.1 HM1.out).1).trans HM1.out)
  clear hb HM1 c0 c1 hz
  have c0 := cell_of_row w2 w.heap.size 0 _ _ _ HM2.out
  have c1 := cell_of_row w2 w.heap.size 1 _ _ _ HM2.out
  simp at c0 c1
  have hz := (Array.getElem?_eq_some_iff.1 HM2.out).1
  go_wp2_with fail
  refine (HD.out _).mono ?_
  rintro e w3 ⟨rfl, hb⟩
  have HB3 := Lib.hid (HB2.out.trans (hb.mono HB2.out.size))
  have HM3 := Lib.hid ((hb.block _ (Array.getElem?_eq_some_iff.1 HM2.out).1).trans HM2.out)
  clear hb HM2 c0 c1 hz
  have c0 := cell_of_row w3 w.heap.size 0 _ _ _ HM3.out
  have c1 := cell_of_row w3 w.heap.size 1 _ _ _ HM3.out
  simp at c0 c1
  have hz := (Array.getElem?_eq_some_iff.1 HM3.out).1
  go_wp2_with fail
  go_ret
  exact ⟨by simp, HB3.out⟩
set_option maxRecDepth 100000 in
set_option maxHeartbeats 2000000 in
theorem walkI (n d : Int) (hn1 : -9223372036854775808 ≤ n) (hn2 : n ≤ 9223372036854775807) (hd1 : -9223372036854775808 ≤ d) (hd2 : d ≤ 9223372036854775807) (m : Int) (cf : canon n d) (k : Nat) (hm : m = (k : Int)) (hk : k ≤ 6) (w : World) (hT : Tb w) :
    Calls Tryd.prog 4 #[.agg #[.int .i64 n, .int .i64 d], .int .i64 m] w fun e w' => e = .returned (.bool true) ∧ Below w.heap.size w w' := by
  have HT := Lib.hid hT
  have HK := Lib.hid (fun W => known_any W)
  have HC := Lib.hid (fun W => rcheck_any n d hn1 hn2 hd1 hd2 W)
  have hb0 : Below w.heap.size w (w.alloc (.cells #[.int .i64 n, .int .i64 d] 23)) := (Below.refl _ _).alloc (Nat.le_refl _) _
  obtain ⟨w0, hw0⟩ : ∃ w0, w0 = w.alloc (.cells #[.int .i64 n, .int .i64 d] 23) := ⟨_, rfl⟩
  have HB0 : Hid (Below w.heap.size w w0) := Lib.hid (by rw [hw0]; exact hb0)
  have HM0 : Hid (w0.heap[w.heap.size]? = some (.cells #[.int .i64 n, .int .i64 d] 23 (0, 0))) := Lib.hid (by rw [hw0]; exact Deep.blk_alloc_new w _)
  clear hT hb0
  have hcb : canonB n d = true := by simpa [canonB] using cf
  rw [hcb] at HC
  obtain ⟨f1, f2, f3, f4, _⟩ := cf
  subst hm
  have HD := Lib.hid (fun (W : World) (h : Below w.heap.size w W) => decimal_any n d k hk f3 f4 f1 f2 W (HT.out.below h))
  have HR := Lib.hid (fun W => rdecimal_any n d k hk f3 f4 f1 f2 W)
  obtain ⟨S, hS⟩ : ∃ S, S = dcV n d k := ⟨_, rfl⟩
  rw [← hS] at HD HR
  have q1 : ¬ (k : Int) < 0 := by omega
  have q2 : ¬ (6 : Int) < (k : Int) := by omega
  have q3 : (0 : Int) ≤ (k : Int) := by omega
  have q4 : (k : Int) ≤ 6 := by omega
  clear hS hcb hk
  go_enter Tryd.func4, Tryd.ntmps4
  go_wp2_with fail
  rw [← hw0]
  clear hw0
  refine (HK.out _).mono ?_
  rintro e w1 ⟨rfl, hb⟩
  have HB1 := Lib.hid (HB0.out.trans (hb.mono HB0.out.size))
  have HM1 := Lib.hid ((hb.block _ (Array.getElem?_eq_some_iff.1 HM0.out).1).trans HM0.out)
  clear hb HM0 HB0
  have c0 := cell_of_row w1 w.heap.size 0 _ _ _ HM1.out
  have c1 := cell_of_row w1 w.heap.size 1 _ _ _ HM1.out
  simp at c0 c1
  have hz := (Array.getElem?_eq_some_iff.1 HM1.out).1
  go_wp2_with fail
  refine (HC.out _).mono ?_
  rintro e w2 ⟨rfl, hb⟩
  have HB2 := Lib.hid (HB1.out.trans (hb.mono HB1.out.size))
  have HM2 := Lib.hid ((hb.block _ (Array.getElem?_eq_some_iff.1 HM1.out).1).trans HM1.out)
  clear hb HM1 c0 c1 hz
  have c0 := cell_of_row w2 w.heap.size 0 _ _ _ HM2.out
  have c1 := cell_of_row w2 w.heap.size 1 _ _ _ HM2.out
  simp at c0 c1
  have hz := (Array.getElem?_eq_some_iff.1 HM2.out).1
  go_wp2_with fail
  refine (HD.out _ HB2.out).mono ?_
  rintro e w3 ⟨rfl, hb⟩
  have HB3 := Lib.hid (HB2.out.trans (hb.mono HB2.out.size))
  have HM3 := Lib.hid ((hb.block _ (Array.getElem?_eq_some_iff.1 HM2.out).1).trans HM2.out)
  clear hb HM2 c0 c1 hz
  have c0 := cell_of_row w3 w.heap.size 0 _ _ _ HM3.out
  have c1 := cell_of_row w3 w.heap.size 1 _ _ _ HM3.out
  simp at c0 c1
  have hz := (Array.getElem?_eq_some_iff.1 HM3.out).1
  go_wp2_with fail
  refine (HR.out _).mono ?_
  rintro e w4 ⟨rfl, hb⟩
  have HB4 := Lib.hid (HB3.out.trans (hb.mono HB3.out.size))
  have HM4 := Lib.hid ((hb.block _ (Array.getElem?_eq_some_iff.1 HM3.out).1).trans HM3.out)
  clear hb HM3 c0 c1 hz
  have c0 := cell_of_row w4 w.heap.size 0 _ _ _ HM4.out
  have c1 := cell_of_row w4 w.heap.size 1 _ _ _ HM4.out
  simp at c0 c1
  have hz := (Array.getElem?_eq_some_iff.1 HM4.out).1
  go_wp2_with fail
  go_ret
  exact ⟨by simp, HB4.out⟩
theorem walk (n d : Int) (hn1 : -9223372036854775808 ≤ n) (hn2 : n ≤ 9223372036854775807) (hd1 : -9223372036854775808 ≤ d) (hd2 : d ≤ 9223372036854775807) (m : Int) (_m1 : -9223372036854775808 ≤ m) (_m2 : m ≤ 9223372036854775807) (w : World) (hT : Tb w) :
    Calls Tryd.prog 4 #[.agg #[.int .i64 n, .int .i64 d], .int .i64 m] w fun e w' => e = .returned (.bool true) ∧ Below w.heap.size w w' := by
  by_cases cf : canon n d
  · by_cases h1 : m < 0
    · exact walkL n d hn1 hn2 hd1 hd2 m cf h1 w hT
    · by_cases h2 : 6 < m
      · exact walkH n d hn1 hn2 hd1 hd2 m cf h2 w hT
      · exact walkI n d hn1 hn2 hd1 hd2 m cf m.toNat (by omega) (by omega) w hT
  · exact walkN n d hn1 hn2 hd1 hd2 m cf w hT
end Go.Proofs.YtokapficojgkgaaDoor.lawDecimals
