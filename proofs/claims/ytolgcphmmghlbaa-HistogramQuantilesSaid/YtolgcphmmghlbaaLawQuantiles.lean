/- HistogramQuantiles: for any numbers and any fraction the law returns true (written by wip/bin/gen_hqua.py). -/
import Derived.Test.YtolgcphmmghlbaaHw
import Derived.Deep.QuietTactic
import Derived.BigQuiet
namespace Go.Proofs.Ytolgcphmmghlbaa.lawQuantiles
open Go.Proofs.Ytolgcphmmghlbaa Go.ChangeShapes Go.WideShapes Go.ChangeAt Go.RowKit Go.Joins Pl

theorem laidOut : laidOutB Try.prog = true := by kernel_rfl
set_option maxRecDepth 100000 in
set_option maxHeartbeats 8000000 in
theorem walk_bad (w : World) (A0 : Option Addr) (c0 : Nat) (L0 : List Int) (hL0 : L0.length ≤ 9223372036854775807) (hs0 : ∀ x ∈ L0, -9223372036854775808 ≤ x ∧ x ≤ 9223372036854775807) (hR0 : Rd (Value.int .i64) w A0 L0) (a d : Int) (ha1 : -9223372036854775808 ≤ a) (ha2 : a ≤ 9223372036854775807) (hd1 : -9223372036854775808 ≤ d) (hd2 : d ≤ 9223372036854775807)
    (hk : canonB a d = false ∨ (canonB a d = true ∧ a < 0) ∨ (canonB a d = true ∧ 0 ≤ a ∧ d < a) ∨ (canonB a d = true ∧ 0 ≤ a ∧ a ≤ d ∧ (vsN L0 40).length = 0)) :
    Calls Try.prog 11 #[.slice A0 L0.length c0, .agg #[.int .i64 a, .int .i64 d]] w fun e w' => e = .returned (.bool true) ∧ Below w.heap.size w w' := by
  have HOf := Lib.hid (fun W h => lof_any A0 c0 L0 hL0 hs0 W h)
  have HVs := Lib.hid (fun W h => values_any A0 c0 L0 hL0 hs0 W h)
  have HR := Lib.hid (fun W (hb : Below w.heap.size w W) => hR0.below hb)
  have HCk := Lib.hid (fun W => rcheck_any a d ha1 ha2 hd1 hd2 W)
  clear hR0 hs0 hL0
  have hln := vsN_len L0 40
  have hok := vsN_ok L0 40
  obtain ⟨M, hM⟩ : ∃ M, M = vsN L0 40 := ⟨_, rfl⟩
  rw [← hM] at HOf HVs hln hok hk
  clear hM
  have hvb := vb_of M (by omega)
  have htt := tot_of M hok
  have hbl := bkN_len (cvN M M.length) 305
  rw [show bkN (cvN M M.length) 305 = bkS M from rfl] at hvb htt hbl
  obtain ⟨B, hB⟩ : ∃ B, B = bkS M := ⟨_, rfl⟩
  rw [← hB] at HOf hvb htt hbl
  have hk2 : ∃ k : Int, (canonB a d = false ∧ k = 3) ∨ (canonB a d = true ∧ a < 0 ∧ k = 2) ∨ (canonB a d = true ∧ 0 ≤ a ∧ d < a ∧ k = 2) ∨ (canonB a d = true ∧ 0 ≤ a ∧ a ≤ d ∧ (M.length : Int) = 0 ∧ k = 7) := by
    rcases hk with h | ⟨h1, h2⟩ | ⟨h1, h2, h3⟩ | ⟨h1, h2, h3, h4⟩
    · exact ⟨3, .inl ⟨h, rfl⟩⟩
    · exact ⟨2, .inr (.inl ⟨h1, h2, rfl⟩)⟩
    · exact ⟨2, .inr (.inr (.inl ⟨h1, h2, h3, rfl⟩))⟩
    · exact ⟨7, .inr (.inr (.inr ⟨h1, h2, h3, by omega, rfl⟩))⟩
  obtain ⟨k, hk2⟩ := hk2
  have HQu := Lib.hid (fun W A c h => quantile_bad A c B hbl hvb _ htt a d ha1 ha2 hd1 hd2 k hk2 W h)
  clear hB hvb htt hbl hok hk
  have HBf : Hid (Below w.heap.size w (w.alloc (.cells #[.int .i64 a, .int .i64 d] 58))) := Lib.hid ((Below.refl _ _).alloc (Nat.le_refl _) _)
  have HQf := Lib.hid (Deep.blk_alloc_new w (.cells #[.int .i64 a, .int .i64 d] 58))
  go_enter Try.func11, Try.ntmps11
  go_wp2_with fail
  refine (known_any _).mono ?_
  rintro e w1 ⟨rfl, hb⟩
  have HB1 := Lib.hid (HBf.out.trans (hb.mono HBf.out.size))
  have HQ1 := Lib.hid ((hb.block w.heap.size ((Array.getElem?_eq_some_iff.1 HQf.out).1)).trans HQf.out)
  clear hb
  go_wp2_with fail
  refine (HOf.out _ (HR.out _ HB1.out)).mono ?_
  rintro e w2 ⟨⟨x, rfl, ho⟩, hb⟩
  obtain ⟨A, c, rfl, _, hrs, _⟩ := rs_own ho
  have HB2 := Lib.hid (HB1.out.trans (hb.mono HB1.out.size))
  have HQ2 := Lib.hid ((hb.block w.heap.size ((Array.getElem?_eq_some_iff.1 HQ1.out).1)).trans HQ1.out)
  have HRs := Lib.hid (fun W (hb : Below w2.heap.size w2 W) => (fun j hj => by
      obtain ⟨b, off, e, h1, h2⟩ := Rs.below hrs hb j hj
      exact ⟨b, off, e, Nat.lt_of_lt_of_le h1 hb.size, h2⟩ : Rs W W.heap.size A (ivCells B)))
  clear ho hb hrs
  go_wp2_with fail
  refine (HVs.out _ (HR.out _ HB2.out)).mono ?_
  rintro e w3 ⟨⟨x, rfl, ho⟩, hb⟩
  obtain ⟨D, dc, rfl, _, hrd⟩ := out_own ho
  have HC3 := Lib.hid hb
  have HQ3 := Lib.hid ((hb.block w.heap.size ((Array.getElem?_eq_some_iff.1 HQ2.out).1)).trans HQ2.out)
  have HRd := Lib.hid (fun W (hb : Below w3.heap.size w3 W) => hrd.below hb)
  have HCa := Lib.hid (HC3.out.alloc HC3.out.size (.cells #[.slice A B.length c] 33))
  have HDa : Hid (Below w3.heap.size w3 (w3.alloc (.cells #[.slice A B.length c] 33))) := Lib.hid ((Below.refl _ _).alloc (Nat.le_refl _) _)
  have HKa := Lib.hid (Deep.blk_alloc_new w3 (.cells #[.slice A B.length c] 33))
  have HQa := Lib.hid ((HDa.out.block w.heap.size ((Array.getElem?_eq_some_iff.1 HQ3.out).1)).trans HQ3.out)
  clear ho hb hrd
  have k0 := cell_of_row _ w3.heap.size 0 _ _ _ HKa.out
  simp at k0
  have q0 := cell_of_row _ w.heap.size 0 _ _ _ HQa.out
  have q1 := cell_of_row _ w.heap.size 1 _ _ _ HQa.out
  simp at q0 q1
  go_wp2_with fail
  refine (HQu.out _ _ _ (HRs.out _ HCa.out)).mono ?_
  rintro e w4 ⟨rfl, hb⟩
  have HD4 := Lib.hid (HDa.out.trans (hb.mono HDa.out.size))
  have HQ4 := Lib.hid ((hb.block w.heap.size ((Array.getElem?_eq_some_iff.1 HQa.out).1)).trans HQa.out)
  clear hb k0 q0 q1
  have q0 := cell_of_row _ w.heap.size 0 _ _ _ HQ4.out
  have q1 := cell_of_row _ w.heap.size 1 _ _ _ HQ4.out
  go_wp2_with fail
  refine (HCk.out _).mono ?_
  rintro e w5 ⟨rfl, hb⟩
  have HD5 := Lib.hid (HD4.out.trans (hb.mono HD4.out.size))
  have HQ5 := Lib.hid ((hb.block w.heap.size ((Array.getElem?_eq_some_iff.1 HQ4.out).1)).trans HQ4.out)
  have HB5 := Lib.hid (HB2.out.trans ((HC3.out.trans (HD5.out.mono HC3.out.size)).mono HB2.out.size))
  clear hb q0 q1 HQf HQ1 HQ2 HQ3 HQa HQ4 HBf HB1 HB2 HC3 HCa HDa HKa HD4 HR HOf HVs HCk HQu HRs
  have q0 := cell_of_row _ w.heap.size 0 _ _ _ HQ5.out
  have q1 := cell_of_row _ w.heap.size 1 _ _ _ HQ5.out
  rcases hk2 with ⟨hc, rfl⟩ | ⟨hc, h1, rfl⟩ | ⟨hc, h1, h2, rfl⟩ | ⟨hc, h1, h2, h3, rfl⟩
  · rw [hc]
    go_wp2_with fail
    go_ret
    exact ⟨by first | rfl | simp, HB5.out⟩
  · rw [hc]
    have d1 : decide (a < 0) = true := by simpa using h1
    go_wp2_with fail
    go_ret
    exact ⟨by first | rfl | simp, HB5.out⟩
  · rw [hc]
    have d1 : decide (a < 0) = false := by simpa using h1
    have d2 : decide (d < a) = true := by simpa using h2
    go_wp2_with fail
    go_ret
    exact ⟨by first | rfl | simp, HB5.out⟩
  · rw [hc]
    have d1 : decide (a < 0) = false := by simpa using h1
    have d2 : decide (d < a) = false := by simpa using h2
    go_wp2_with fail
    go_ret
    exact ⟨by first | rfl | simp, HB5.out⟩
set_option maxRecDepth 100000 in
set_option maxHeartbeats 8000000 in
theorem walk_ok (w : World) (A0 : Option Addr) (c0 : Nat) (L0 : List Int) (hL0 : L0.length ≤ 9223372036854775807) (hs0 : ∀ x ∈ L0, -9223372036854775808 ≤ x ∧ x ≤ 9223372036854775807) (hR0 : Rd (Value.int .i64) w A0 L0) (a d : Int) (ha1 : -9223372036854775808 ≤ a) (ha2 : a ≤ 9223372036854775807) (hd1 : -9223372036854775808 ≤ d) (hd2 : d ≤ 9223372036854775807)
    (hc : canonB a d = true) (h1 : 0 ≤ a) (h2 : a ≤ d) (h3 : 1 ≤ (vsN L0 40).length) :
    Calls Try.prog 11 #[.slice A0 L0.length c0, .agg #[.int .i64 a, .int .i64 d]] w fun e w' => e = .returned (.bool true) ∧ Below w.heap.size w w' := by
  have HOf := Lib.hid (fun W h => lof_any A0 c0 L0 hL0 hs0 W h)
  have HVs := Lib.hid (fun W h => values_any A0 c0 L0 hL0 hs0 W h)
  have HR := Lib.hid (fun W (hb : Below w.heap.size w W) => hR0.below hb)
  have HCk := Lib.hid (fun W => rcheck_any a d ha1 ha2 hd1 hd2 W)
  clear hR0 hs0 hL0
  have hln := vsN_len L0 40
  have hok := vsN_ok L0 40
  obtain ⟨M, hM⟩ : ∃ M, M = vsN L0 40 := ⟨_, rfl⟩
  rw [← hM] at HOf HVs hln hok h3
  clear hM
  have hvb := vb_of M (by omega)
  have htt := tot_of M hok
  have hbl := bkN_len (cvN M M.length) 305
  have hsn := sN_cvN M hok M.length (Nat.le_refl _)
  obtain ⟨c1, c2, c3, c4, _⟩ := of_decide_eq_true hc
  obtain ⟨r1, r2⟩ := rank_bd (M.length : Int) a d (by omega) h1 h2 c1
  have hrq := rank_eq ((M.length : Int) * a) d (Int.mul_nonneg (by omega) h1) c1
  have hmb : 0 ≤ (M.length : Int) * a ∧ (M.length : Int) * a ≤ 41943040 := ⟨Int.mul_nonneg (by omega) h1, by
    have : (M.length : Int) * a ≤ 40 * a := Int.mul_le_mul_of_nonneg_right (by omega) h1
    omega⟩
  obtain ⟨n, hn, hio⟩ := ioL_some (cvN M M.length) (fun k => (cvN_bd M M.length k).1) (max (-(-((M.length : Int) * a) / d)) 1) (by omega) 305 (by rw [hsn]; omega)
  rw [show bkN (cvN M M.length) 305 = bkS M from rfl] at hvb htt hbl hio
  have hra := rank_at M hok
  have HQu := Lib.hid (fun W A c h => quantile_ok A c (bkS M) hbl hvb _ htt (by omega) (by omega) a d hc ⟨h1, h2⟩ n hn (by rw [Int.neg_mul]; exact hio) (by rw [Int.neg_mul]; omega) (by rw [Int.neg_mul]; omega) W h)
  obtain ⟨rk, hrk⟩ : ∃ rk, rk = max (-(-((M.length : Int) * a) / d)) 1 := ⟨_, rfl⟩
  rw [← hrk] at hio
  have HRk := Lib.hid (fun i (hi : i < M.length) (g1 : ltV (M.getD i 0) M M.length < rk) (g2 : rk ≤ ltV (M.getD i 0) M M.length + eqV (M.getD i 0) M M.length) => (by
    have h := hra i hi rk g1 g2
    rw [hio] at h
    omega : ix (M.getD i 0).toNat = n))
  have hrk2 : rk ≤ 40 ∧ 1 ≤ rk := by omega
  obtain ⟨l1, l2⟩ := lo_le_hi n hn
  have HVl := Lib.hid (fun j (hj : j < M.length) => hok _ (List.getElem_mem hj))
  obtain ⟨mu, hmu⟩ : ∃ mu, mu = (M.length : Int) * a := ⟨_, rfl⟩
  rw [← hmu] at hrq hmb hrk
  obtain ⟨qt, hqt⟩ : ∃ qt, qt = (mu + d - 1).tdiv d := ⟨_, rfl⟩
  rw [← hqt] at hrq
  rw [← hrq] at hrk
  have hq0 : 0 ≤ qt ∧ qt ≤ 40 := by rw [hrq, hmu]; omega
  have hwm : IntKind.i64.wrap mu = mu := by simp only [IntKind.wrap_i64]; omega
  have hmu2 : a * (M.length : Int) = mu := by rw [hmu, Int.mul_comm]
  have hwd : IntKind.i64.wrap (mu + d) = mu + d := by simp only [IntKind.wrap_i64]; omega
  have hwe : IntKind.i64.wrap (mu + d - 1) = mu + d - 1 := by simp only [IntKind.wrap_i64]; omega
  have hwq : IntKind.i64.wrap qt = qt := by simp only [IntKind.wrap_i64]; omega
  have hd0 : d ≠ 0 := by omega
  have d1 : decide (a < 0) = false := by simpa using h1
  have d2 : decide (d < a) = false := by simpa using h2
  have d3 : ((M.length : Int) == 0) = false := by rw [beq_eq_false_iff_ne]; omega
  have hrk3 : max 1 qt = rk := by omega
  obtain ⟨B, hB⟩ : ∃ B, B = bkS M := ⟨_, rfl⟩
  rw [← hB] at HOf HQu
  clear hB hvb htt hbl hok hra hio hrq hsn c1 c2 c3 c4 r1 r2 hmu hrk
  have hqt2 := hqt.symm
  clear hqt
  have HBf : Hid (Below w.heap.size w (w.alloc (.cells #[.int .i64 a, .int .i64 d] 58))) := Lib.hid ((Below.refl _ _).alloc (Nat.le_refl _) _)
  have HQf := Lib.hid (Deep.blk_alloc_new w (.cells #[.int .i64 a, .int .i64 d] 58))
  go_enter Try.func11, Try.ntmps11
  go_wp2_with fail
  refine (known_any _).mono ?_
  rintro e w1 ⟨rfl, hb⟩
  have HB1 := Lib.hid (HBf.out.trans (hb.mono HBf.out.size))
  have HQ1 := Lib.hid ((hb.block w.heap.size ((Array.getElem?_eq_some_iff.1 HQf.out).1)).trans HQf.out)
  clear hb
  go_wp2_with fail
  refine (HOf.out _ (HR.out _ HB1.out)).mono ?_
  rintro e w2 ⟨⟨x, rfl, ho⟩, hb⟩
  obtain ⟨A, c, rfl, _, hrs, _⟩ := rs_own ho
  have HB2 := Lib.hid (HB1.out.trans (hb.mono HB1.out.size))
  have HQ2 := Lib.hid ((hb.block w.heap.size ((Array.getElem?_eq_some_iff.1 HQ1.out).1)).trans HQ1.out)
  have HRs := Lib.hid (fun W (hb : Below w2.heap.size w2 W) => (fun j hj => by
      obtain ⟨b, off, e, h1, h2⟩ := Rs.below hrs hb j hj
      exact ⟨b, off, e, Nat.lt_of_lt_of_le h1 hb.size, h2⟩ : Rs W W.heap.size A (ivCells B)))
  clear ho hb hrs
  go_wp2_with fail
  refine (HVs.out _ (HR.out _ HB2.out)).mono ?_
  rintro e w3 ⟨⟨x, rfl, ho⟩, hb⟩
  obtain ⟨D, dc, rfl, _, hrd⟩ := out_own ho
  have HC3 := Lib.hid hb
  have HQ3 := Lib.hid ((hb.block w.heap.size ((Array.getElem?_eq_some_iff.1 HQ2.out).1)).trans HQ2.out)
  have HRd := Lib.hid (fun W (hb : Below w3.heap.size w3 W) => hrd.below hb)
  have HCa := Lib.hid (HC3.out.alloc HC3.out.size (.cells #[.slice A B.length c] 33))
  have HDa : Hid (Below w3.heap.size w3 (w3.alloc (.cells #[.slice A B.length c] 33))) := Lib.hid ((Below.refl _ _).alloc (Nat.le_refl _) _)
  have HKa := Lib.hid (Deep.blk_alloc_new w3 (.cells #[.slice A B.length c] 33))
  have HQa := Lib.hid ((HDa.out.block w.heap.size ((Array.getElem?_eq_some_iff.1 HQ3.out).1)).trans HQ3.out)
  clear ho hb hrd
  have k0 := cell_of_row _ w3.heap.size 0 _ _ _ HKa.out
  simp at k0
  have q0 := cell_of_row _ w.heap.size 0 _ _ _ HQa.out
  have q1 := cell_of_row _ w.heap.size 1 _ _ _ HQa.out
  simp at q0 q1
  go_wp2_with fail
  refine (HQu.out _ _ _ (HRs.out _ HCa.out)).mono ?_
  rintro e w4 ⟨rfl, hb⟩
  have HD4 := Lib.hid (HDa.out.trans (hb.mono HDa.out.size))
  have HQ4 := Lib.hid ((hb.block w.heap.size ((Array.getElem?_eq_some_iff.1 HQa.out).1)).trans HQa.out)
  clear hb k0 q0 q1
  have q0 := cell_of_row _ w.heap.size 0 _ _ _ HQ4.out
  have q1 := cell_of_row _ w.heap.size 1 _ _ _ HQ4.out
  go_wp2_with fail
  refine (HCk.out _).mono ?_
  rintro e w5 ⟨rfl, hb⟩
  have HD5 := Lib.hid (HD4.out.trans (hb.mono HD4.out.size))
  have HQ5 := Lib.hid ((hb.block w.heap.size ((Array.getElem?_eq_some_iff.1 HQ4.out).1)).trans HQ4.out)
  have HB5 := Lib.hid (HB2.out.trans ((HC3.out.trans (HD5.out.mono HC3.out.size)).mono HB2.out.size))
  clear hb q0 q1 HQf HQ1 HQ2 HQ3 HQa HQ4 HBf HB1 HB2 HC3 HCa HDa HKa HD4 HR HOf HVs HCk HQu HRs
  have q0 := cell_of_row _ w.heap.size 0 _ _ _ HQ5.out
  have q1 := cell_of_row _ w.heap.size 1 _ _ _ HQ5.out
  rw [hc]
  clear hc h1 h2
  go_wp2_with fail
  clear hrk3 hqt2 hwm hmu2 hwd hwe hwq hd0 d1 d2 d3 q0 q1 HQ5 hmb
  go_loopw [12, 13, 14, 15] (fun iv _ _ _ wr => ∃ i : Nat, i ≤ M.length ∧ iv = .int .i64 (i : Int) ∧ Hid (Below w5.heap.size w5 wr)) (fun iv _ _ _ _ => M.length - (intOf iv).toNat)
  case atStart => exact ⟨0, Nat.zero_le _, rfl, Lib.hid (Below.refl _ _)⟩
  case round =>
    obtain ⟨i, hi, rfl, HBr⟩ := hrel
    have hi0 : (0 : Int) ≤ (i : Int) := by omega
    by_cases hil : i < M.length
    · have hiI : (i : Int) < (M.length : Int) := by omega
      have hbd := HVl.out i hil
      obtain ⟨u, hu⟩ : ∃ u : Nat, M[i] = (u : Int) := ⟨M[i].toNat, by have := hbd.1; omega⟩
      have hu40 : u ≤ 1099511627776 := by have := hbd.2; omega
      have HRi := Lib.hid (HRk.out i hil)
      have HVi := Lib.hid (fun W (h : Below w5.heap.size w5 W) => int_at (HRd.out _ (HD5.out.trans (h.mono HD5.out.size))) i hil)
      rw [show M.getD i 0 = (u : Int) from by rw [← hu]; simp [List.getD, List.getElem?_eq_getElem hil]] at HRi
      rw [hu] at HVi
      rw [show ((u : Int)).toNat = u by omega] at HRi
      have HI := Lib.hid (fun W => lindex_any u hu40 W)
      have h5 := ix_lt u hu40
      have HLo := Lib.hid (fun W => low_any (ix u) h5 W)
      have HHi := Lib.hid (fun W => high_any (ix u) h5 W)
      obtain ⟨qx, hqx⟩ : ∃ qx, qx = ix u := ⟨_, rfl⟩
      rw [← hqx] at HI HLo HHi HRi
      have HCt := Lib.hid (cnt_bd (u : Int) M)
      have hu0 : (0 : Int) ≤ (u : Int) := by omega
      have hw1 : IntKind.i64.wrap ((i : Int) + 1) = (i : Int) + 1 := by simp only [IntKind.wrap_i64]; omega
      clear hbd hu h5 hqx
      go_wp2_with fail
      go_loopw [13, 14, 15] (fun lv ev kv wi => ∃ k : Nat, k ≤ M.length ∧ kv = .int .i64 (k : Int) ∧ lv = .int .i64 (ltV (u : Int) M k) ∧ ev = .int .i64 (eqV (u : Int) M k) ∧ Hid (Below w5.heap.size w5 wi)) (fun _ _ kv _ => M.length - (intOf kv).toNat)
      case atStart => exact ⟨0, Nat.zero_le _, rfl, rfl, rfl, HBr⟩
      case round =>
        obtain ⟨k, hk, rfl, rfl, rfl, HBi⟩ := hrel
        have hk0 : (0 : Int) ≤ (k : Int) := by omega
        obtain ⟨t1, t2, t3⟩ := HCt.out k
        by_cases hkl : k < M.length
        · have hkI : (k : Int) < (M.length : Int) := by omega
          have hw2 : IntKind.i64.wrap ((k : Int) + 1) = (k : Int) + 1 := by simp only [IntKind.wrap_i64]; omega
          obtain ⟨b, off, rfl, hb, g0⟩ := HVi.out _ HBi.out
          have G0 := Lib.hid (fun n => by obtain ⟨_, _, e, _, h⟩ := HVi.out _ (below_drewN HBi.out n); cases e; exact h : ∀ n, (wr.drewN n).cell? ⟨b, off + i, none⟩ = some (.int .i64 (u : Int)))
          have HVk := Lib.hid (fun n => int_at (HRd.out _ (HD5.out.trans ((below_drewN HBi.out n).mono HD5.out.size))) k hkl)
          have h0 : wr.cell? ⟨b, off + k, none⟩ = some (.int .i64 M[k]) := by
            obtain ⟨_, _, e, _, h⟩ := int_at (HRd.out _ (HD5.out.trans (HBi.out.mono HD5.out.size))) k hkl
            cases e; exact h
          have H0 := Lib.hid (fun n => by obtain ⟨_, _, e, _, h⟩ := HVk.out n; cases e; exact h : ∀ n, (wr.drewN n).cell? ⟨b, off + k, none⟩ = some (.int .i64 M[k]))
          have hS1 : ltV (u : Int) M (k + 1) = ltV (u : Int) M k + (if M[k] < (u : Int) then 1 else 0) := by
            show _ + (if M.getD k 0 < _ then _ else _) = _
            rw [show M.getD k 0 = M[k] by simp [List.getD, List.getElem?_eq_getElem hkl]]
          have hS2 : eqV (u : Int) M (k + 1) = eqV (u : Int) M k + (if M[k] = (u : Int) then 1 else 0) := by
            show _ + (if M.getD k 0 = _ then _ else _) = _
            rw [show M.getD k 0 = M[k] by simp [List.getD, List.getElem?_eq_getElem hkl]]
          have HS1 := Lib.hid hS1
          have HS2 := Lib.hid hS2
          obtain ⟨x, hx⟩ : ∃ x, x = M[k] := ⟨_, rfl⟩
          rw [← hx] at h0 H0 HS1 HS2
          obtain ⟨lt, hlt⟩ : ∃ lt, lt = ltV (u : Int) M k := ⟨_, rfl⟩
          obtain ⟨eq, heq⟩ : ∃ eq, eq = eqV (u : Int) M k := ⟨_, rfl⟩
          rw [← hlt] at t1 t3 HS1
          rw [← heq] at t2 t3 HS2
          have hwl : IntKind.i64.wrap (lt + 1) = lt + 1 := by simp only [IntKind.wrap_i64]; omega
          have hwe : IntKind.i64.wrap (eq + 1) = eq + 1 := by simp only [IntKind.wrap_i64]; omega
          rw [← hlt, ← heq]
          clear hx hlt heq hS1 hS2 HVk t1 t2 t3
          by_cases g1 : x < (u : Int)
          · have g2 : ¬ x = (u : Int) := by omega
            have g3 : (x == (u : Int)) = false := by rw [beq_eq_false_iff_ne]; omega
            rw [if_pos g1] at HS1
            rw [if_neg g2] at HS2
            go_wp2_with fail
            go_quiet (fail)
            go_wp2_with fail
            go_quiet (fail)
            go_wp2_with fail
            go_roundw
            case rel => exact ⟨k + 1, by omega, by go_num, by rw [HS1.out], by rw [HS2.out] <;> simp, Lib.hid (by first | exact below_drewN HBi.out _ | exact below_drewN (below_drewN HBi.out _) _)⟩
            case measure => simp [intOf] <;> omega
          · rw [if_neg g1] at HS1
            by_cases g2 : x = (u : Int)
            · rw [if_pos g2] at HS2
              subst g2
              go_wp2_with fail
              go_quiet (fail)
              go_wp2_with fail
              go_quiet (fail)
              go_wp2_with fail
              go_roundw
              case rel => exact ⟨k + 1, by omega, by go_num, by rw [HS1.out] <;> simp, by rw [HS2.out], Lib.hid (by first | exact below_drewN HBi.out _ | exact below_drewN (below_drewN HBi.out _) _)⟩
              case measure => simp [intOf] <;> omega
            · rw [if_neg g2] at HS2
              have g3 : (x == (u : Int)) = false := by rw [beq_eq_false_iff_ne]; omega
              go_wp2_with fail
              go_quiet (fail)
              go_wp2_with fail
              go_quiet (fail)
              go_wp2_with fail
              go_roundw
              case rel => exact ⟨k + 1, by omega, by go_num, by rw [HS1.out] <;> simp, by rw [HS2.out] <;> simp, Lib.hid (by first | exact below_drewN HBi.out _ | exact below_drewN (below_drewN HBi.out _) _)⟩
              case measure => simp [intOf] <;> omega
        · obtain rfl : k = M.length := by omega
          obtain ⟨lt, hlt⟩ : ∃ lt, lt = ltV (u : Int) M M.length := ⟨_, rfl⟩
          obtain ⟨eq, heq⟩ : ∃ eq, eq = eqV (u : Int) M M.length := ⟨_, rfl⟩
          rw [← hlt] at t1 t3 HRi
          rw [← heq] at t2 t3 HRi
          rw [← hlt, ← heq]
          have hws : IntKind.i64.wrap (lt + eq) = lt + eq := by simp only [IntKind.wrap_i64]; omega
          obtain ⟨b, off, rfl, hb, g0⟩ := HVi.out _ HBi.out
          clear hlt heq
          by_cases g1 : lt < rk
          · by_cases g2 : rk ≤ lt + eq
            · obtain rfl := HRi.out g1 g2
              go_wp2_with (first
                | (go_at_call 15; refine (HI.out _).mono ?_; rintro e w' ⟨rfl, rfl⟩)
                | (go_at_call 16; refine (HLo.out _).mono ?_; rintro e w' ⟨rfl, rfl⟩)
                | (go_at_call 17; refine (HHi.out _).mono ?_; rintro e w' ⟨rfl, rfl⟩))
              go_roundw
              case rel => exact ⟨i + 1, by omega, by go_num, HBi⟩
              case measure => simp [intOf] <;> omega
            · go_wp2_with fail
              go_roundw
              case rel => exact ⟨i + 1, by omega, by go_num, HBi⟩
              case measure => simp [intOf] <;> omega
          · go_wp2_with fail
            go_roundw
            case rel => exact ⟨i + 1, by omega, by go_num, HBi⟩
            case measure => simp [intOf] <;> omega
    · obtain rfl : i = M.length := by omega
      have hll : ((loN n : Nat) : Int) ≤ ((hiN n : Nat) : Int) := by omega
      go_wp2_with fail
      go_ret
      exact ⟨by first | rfl | simp, HB5.out.trans (HBr.out.mono HB5.out.size)⟩
theorem walk (w : World) (A0 : Option Addr) (c0 : Nat) (L0 : List Int) (hL0 : L0.length ≤ 9223372036854775807) (hs0 : ∀ x ∈ L0, -9223372036854775808 ≤ x ∧ x ≤ 9223372036854775807) (hR0 : Rd (Value.int .i64) w A0 L0) (a d : Int) (ha1 : -9223372036854775808 ≤ a) (ha2 : a ≤ 9223372036854775807) (hd1 : -9223372036854775808 ≤ d) (hd2 : d ≤ 9223372036854775807) :
    Calls Try.prog 11 #[.slice A0 L0.length c0, .agg #[.int .i64 a, .int .i64 d]] w fun e w' => e = .returned (.bool true) ∧ Below w.heap.size w w' := by
  by_cases hc : canonB a d = true
  · by_cases h1 : a < 0
    · exact walk_bad w A0 c0 L0 hL0 hs0 hR0 a d ha1 ha2 hd1 hd2 (.inr (.inl ⟨hc, h1⟩))
    · by_cases h2 : d < a
      · exact walk_bad w A0 c0 L0 hL0 hs0 hR0 a d ha1 ha2 hd1 hd2 (.inr (.inr (.inl ⟨hc, by omega, h2⟩)))
      · by_cases h3 : (vsN L0 40).length = 0
        · exact walk_bad w A0 c0 L0 hL0 hs0 hR0 a d ha1 ha2 hd1 hd2 (.inr (.inr (.inr ⟨hc, by omega, by omega, h3⟩)))
        · exact walk_ok w A0 c0 L0 hL0 hs0 hR0 a d ha1 ha2 hd1 hd2 hc (by omega) (by omega) (by omega)
  · exact walk_bad w A0 c0 L0 hL0 hs0 hR0 a d ha1 ha2 hd1 hd2 (.inl (by simpa using hc))
set_option maxRecDepth 100000 in
theorem lifted (os : Os) (started : os.Started) (H : Type) (enc : TypeId × Value → H) :
    ReturnsInHanded {} Try.checked os 11 .any (Rows.histogramQuantilesSpec.pre6 enc Try.prog Try.f11 Rows.histogramQuantilesRow.domain false) (Rows.histogramQuantilesSpec.post enc Try.prog Try.f11 false true false false) := by
  refine returnsInHanded_of_change (C := Try.checked) own started (by kernel_rfl) Try.func11
    (ChangeSpec.witness6 (enc := enc) (C := Try.checked) false ⟨#[], #[.slice none 0 0, .agg #[.int .i64 0, .int .i64 0]], []⟩ 8 (by kernel_rfl) (by kernel_rfl) (by kernel_rfl) (by kernel_rfl)) ?_
  intro W base args ds gs before hval0 hW _ _
  have hval : ∀ (j : Nat) t v, Try.f11.params[j]? = some t → args[j]? = some v → Value.okWide Try.prog W .any base t v := hval0
  have hW' := hW
  obtain ⟨p, q, hA0, hV, rfl, _, _⟩ := hW
  have hA : DataW.TrodAll enc Try.prog W 0 (fun _ => true) true Try.f11.params.toList args.toList ds p := hA0
  rw [Try.params11] at hA hval
  obtain ⟨v0, vs0, d0, ds0, p0, q0, hargs0, rfl, rfl, h0, r0⟩ := trodAll_cons hA
  obtain ⟨v1, vs1, d1, ds1, p1, q1, hargs1, rfl, rfl, h1, r1⟩ := trodAll_cons r0
  obtain ⟨rfl, rfl, rfl⟩ := trodAll_nil r1
  obtain rfl : args = #[v0, v1] := by cases args; simp_all
  obtain ⟨rfl, rfl⟩ := trodVars_none hV
  have lt0 : ∀ x ∈ p0, x.block < W.heap.size := fun x hx => hW'.lt x (by simp [hx])
  obtain ⟨A0, c0, L0, rfl, hL0, hs0, hR0⟩ := open_numb (hval 0 36 v0 rfl rfl) h0 lt0
  obtain ⟨c1, e1, y1, z1, m1, rfl, rfl, rfl, hy1, hz1⟩ := open_agg2 Try.underlying58 (by kernel_rfl) cells_fr (hval 1 58 v1 rfl rfl) h1
  obtain ⟨a1, ea1, rfl, wa1⟩ := DataW.trod_int Try.underlying3 hy1
  obtain ⟨b1, eb1, rfl, wb1⟩ := DataW.trod_int Try.underlying3 hz1
  simp at ea1 eb1
  subst ea1 eb1
  clear hA0 hval0
  simp only [List.append_nil] at hW'
  refine (walk W A0 c0 L0 hL0 hs0 hR0 a1 b1 (bd64 wa1).1 (bd64 wa1).2 (bd64 wb1).1 (bd64 wb1).2).mono fun e W' ⟨he, hb⟩ => ?_
  subst he
  exact ⟨_, rfl, post_mem hW' hb (fun _ _ _ => trodAll_mk1 (shut_bool Try.underlying4 _)) (fun sp hsp => by
    have t := trodAll_cons_mk (carry laidOut (by kernel_rfl) (of_decide_eq_true (by kernel_rfl)) h0 hb lt0 sp (fun x hx => hsp x (by simp [hx]))) (trodAll_cons_mk (fr_reads wa1 wb1 _ sp) trodAll_mk0)
    simp only [List.append_nil] at t
    exact t) (fun _ => rfl) (ok_one (by kernel_rfl) rfl (okWide_bool_mk Try.underlying4 _))⟩

theorem proved : Rows.HistogramQuantilesSaid :=
  OpenClaim.holds_of_wide 11 Try.f11 rfl rfl rfl rfl rfl rfl rfl ⟨rfl, rfl, rfl, rfl, rfl⟩ rfl rfl rfl rfl rfl (by kernel_rfl) Try.func11 (by kernel_rfl)
    (of_decide_eq_true (by kernel_rfl)) (by unfold Func.isWrapper; first | (rw [if_pos (by decide +kernel)]; kernel_rfl) | (rw [if_neg (by decide +kernel)]; exact ⟨rfl, rfl⟩))
    (fun os started H enc _ => lifted os started H enc)

end Go.Proofs.Ytolgcphmmghlbaa.lawQuantiles
