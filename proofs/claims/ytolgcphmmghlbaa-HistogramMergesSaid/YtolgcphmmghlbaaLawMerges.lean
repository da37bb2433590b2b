/- HistogramMerges: for any two lists of numbers the law returns true (written by wip/bin/gen_hmer.py). -/
import Derived.Test.YtolgcphmmghlbaaIc
import Derived.Deep.QuietTactic
import Derived.BigQuiet
namespace Go.Proofs.Ytolgcphmmghlbaa.lawMerges
open Go.Proofs.Ytolgcphmmghlbaa Go.ChangeShapes Go.WideShapes Go.ChangeAt Go.RowKit Go.Joins

set_option linter.unusedSimpArgs false
set_option linter.unusedVariables false

theorem laidOut : laidOutB Try.prog = true := by kernel_rfl
set_option maxRecDepth 100000 in
set_option maxHeartbeats 16000000 in
theorem walk (w : World) (A0 : Option Addr) (c0 : Nat) (L0 : List Int) (hL0 : L0.length ≤ 9223372036854775807) (hs0 : ∀ x ∈ L0, -9223372036854775808 ≤ x ∧ x ≤ 9223372036854775807) (hR0 : Rd (Value.int .i64) w A0 L0) (A1 : Option Addr) (c1 : Nat) (L1 : List Int) (hL1 : L1.length ≤ 9223372036854775807) (hs1 : ∀ x ∈ L1, -9223372036854775808 ≤ x ∧ x ≤ 9223372036854775807) (hR1 : Rd (Value.int .i64) w A1 L1) :
    Calls Try.prog 8 #[.slice A0 L0.length c0, .slice A1 L1.length c1] w fun e w' => e = .returned (.bool true) ∧ Below w.heap.size w w' := by
  obtain ⟨i0, hi0, hz0, hz1, hz2⟩ := info_parts2 info_int1
  have Hi0 := Lib.hid hi0
  have Hz0 := Lib.hid hz0
  have Hz1 := Lib.hid hz1
  have Hz2 := Lib.hid hz2
  clear hi0 hz0 hz1 hz2
  have HOf := Lib.hid (fun W h => lof_any A0 c0 L0 hL0 hs0 W h)
  have HVs := Lib.hid (fun W h => values_any A0 c0 L0 hL0 hs0 W h)
  have HR := Lib.hid (fun W (hb : Below w.heap.size w W) => hR0.below hb)
  have HOg := Lib.hid (fun W h => lof_any A1 c1 L1 hL1 hs1 W h)
  have HVt := Lib.hid (fun W h => values_any A1 c1 L1 hL1 hs1 W h)
  have HQ := Lib.hid (fun W (hb : Below w.heap.size w W) => hR1.below hb)
  have hln := vsN_len L0 40
  have hok := vsN_ok L0 40
  have hlm := vsN_len L1 40
  have hom := vsN_ok L1 40
  clear hR0 hs0 hL0 hR1 hs1 hL1
  obtain ⟨M, hM⟩ : ∃ M, M = vsN L0 40 := ⟨_, rfl⟩
  rw [← hM] at HOf HVs hln hok
  obtain ⟨N, hN⟩ : ∃ N, N = vsN L1 40 := ⟨_, rfl⟩
  rw [← hN] at HOg HVt hlm hom
  clear hM hN
  have hC := Cv.of M (by omega) hok
  have hD := Cv.of N (by omega) hom
  have htc := sN_cvN M hok M.length (Nat.le_refl _)
  have htd := sN_cvN N hom N.length (Nat.le_refl _)
  have HCa := Lib.hid (fun W A c h => count_any A c M (by omega) hok W h)
  have HCb := Lib.hid (fun W A c h => count_any A c N (by omega) hom W h)
  have hlapp : (M ++ N).length ≤ 1000 := by rw [List.length_append]; omega
  have HCab := Lib.hid (fun W A c h => count_any A c (M ++ N) hlapp (fun x hx => by rcases List.mem_append.1 hx with h | h; exact hok x h; exact hom x h) W h)
  rw [cvN_app M N hom] at HCab
  obtain ⟨MN, hMN⟩ : ∃ K, K = M ++ N := ⟨_, rfl⟩
  rw [← hMN] at HCab
  have HMN := Lib.hid hMN
  clear hlapp hMN
  rw [show bkN (cvN M M.length) 305 = bk (cvN M M.length) from rfl] at HCa
  rw [show bkN (cvN N N.length) 305 = bk (cvN N N.length) from rfl] at HCb
  rw [show bkN (mgC (cvN M M.length) (cvN N N.length)) 305 = bk (mgC (cvN M M.length) (cvN N N.length)) from rfl] at HCab
  rw [show bkS M = bk (cvN M M.length) from rfl] at HOf
  rw [show bkS N = bk (cvN N N.length) from rfl] at HOg
  obtain ⟨cv, hcv⟩ : ∃ cv, cv = cvN M M.length := ⟨_, rfl⟩
  obtain ⟨dv, hdv⟩ : ∃ dv, dv = cvN N N.length := ⟨_, rfl⟩
  rw [← hcv] at HOf HCa HCab hC htc
  rw [← hdv] at HOg HCb HCab hD htd
  have hts : sN cv 305 + sN dv 305 ≤ 1048576 := by rw [htc, htd]; omega
  clear hcv hdv hok hom htc htd
  have HM1 := Lib.hid (fun W A c D d h1 h2 => merge_ok A c D d cv dv hC hD hts W h1 h2)
  have HM2 := Lib.hid (fun W A c D d h1 h2 => merge_ok A c D d dv cv hD hC (by omega) W h1 h2)
  rw [mgC_comm hC hD] at HM2
  have hE := hC.merge hD hts
  have HSb := Lib.hid (fun W A c D d h1 h2 => subtract_ok A c D d (mgC cv dv) cv hE hC (fun i _ => by rw [mgC_get _ _ hC.len hD.len]; have := hD.pos i; omega) W h1 h2)
  rw [sb_mg hC hD] at HSb
  obtain ⟨mv, hmv⟩ : ∃ mv, mv = mgC cv dv := ⟨_, rfl⟩
  rw [← hmv] at HM1 HM2 HSb HCab hE
  clear hmv
  have b1 := Cv.bklen cv
  have b2 := Cv.bklen dv
  have b3 := Cv.bklen mv
  have HSm := Lib.hid (fun W A c D d h1 h2 => same_any A D c d (bk mv) (bk mv) (by omega) (by omega) W h1 h2)
  rw [show (decide (bk mv = bk mv)) = true by simp] at HSm
  have HE1 := Lib.hid (fun W A c D d h1 h2 => equal_any A c (bk mv) (by omega) D d (bk mv) (by omega) W h1 h2)
  rw [show (decide (bk mv = bk mv)) = true by simp] at HE1
  have HE2 := Lib.hid (fun W A c D d h1 h2 => equal_any A c (bk dv) (by omega) D d (bk dv) (by omega) W h1 h2)
  rw [show (decide (bk dv = bk dv)) = true by simp] at HE2
  have HE3 := Lib.hid (fun W A c D d h1 h2 => equal_any A c (bk cv) (by omega) D d (bk dv) (by omega) W h1 h2)
  have HSn := Lib.hid (fun W A c D d h1 h2 => same_any A D c d (bk cv) (bk dv) (by omega) (by omega) W h1 h2)
  have HFe : (bk cv).length = (bk dv).length ∨ ((bk cv).length ≠ (bk dv).length ∧ decide (bk cv = bk dv) = false) := by
    by_cases h : (bk cv).length = (bk dv).length
    · exact .inl h
    · exact .inr ⟨h, decide_eq_false (fun e => h (by rw [e]))⟩
  obtain ⟨fe, hfe⟩ : ∃ fe, fe = decide (bk cv = bk dv) := ⟨_, rfl⟩
  rw [← hfe] at HE3 HSn HFe
  clear hfe
  have hcf : (∀ i, i < 305 → dv.getD i 0 ≤ cv.getD i 0) ∨ (∃ i, i < 305 ∧ cv.getD i 0 < dv.getD i 0) := by
    by_cases h : ∃ i, i < 305 ∧ cv.getD i 0 < dv.getD i 0
    · exact .inr h
    · exact .inl (fun i hi => by
        by_cases h2 : dv.getD i 0 ≤ cv.getD i 0
        · exact h2
        · exact absurd ⟨i, hi, by omega⟩ h)
  have HBc := Lib.hid (fun k => hC.bd k)
  have HBe := Lib.hid (fun k => hD.bd k)
  have HAa := Lib.hid (fun W A c k hk h => at_any A c cv k hk W h)
  have HAb := Lib.hid (fun W A c k hk h => at_any A c dv k hk W h)
  clear hE hts
  go_enter Try.func8, Try.ntmps8
  go_wp2_with fail
  refine (known_any _).mono ?_
  rintro e w1 ⟨rfl, hb⟩
  have HB0 := Lib.hid hb
  clear hb
  go_wp2_with fail
  refine (HOf.out _ (HR.out _ HB0.out)).mono ?_
  rintro e w2 ⟨⟨x, rfl, ho⟩, hb⟩
  have HB1 := Lib.hid (HB0.out.trans (hb.mono HB0.out.size))
  obtain ⟨A, c, rfl, _, hrs, _⟩ := rs_own ho
  have HRa := Lib.hid (fun W (hb : Below w2.heap.size w2 W) => (fun j hj => by
        obtain ⟨b, off, e, h1, h2⟩ := Rs.below hrs hb j hj
        exact ⟨b, off, e, Nat.lt_of_lt_of_le h1 hb.size, h2⟩ : Rs W W.heap.size A (ivCells (bk cv))))
  clear ho hrs
  clear hb
  have HB2 : Hid (Below w2.heap.size w2 w2) := Lib.hid (Below.refl _ _)
  go_wp2_with fail
  refine (HOg.out _ (HQ.out _ HB1.out)).mono ?_
  rintro e w3 ⟨⟨x, rfl, ho⟩, hb⟩
  have HB3 := Lib.hid (HB1.out.trans (hb.mono HB1.out.size))
  have HB4 := Lib.hid (HB2.out.trans (hb.mono HB2.out.size))
  obtain ⟨D, d, rfl, _, hrs, _⟩ := rs_own ho
  have HRb := Lib.hid (fun W (hb : Below w3.heap.size w3 W) => (fun j hj => by
        obtain ⟨b, off, e, h1, h2⟩ := Rs.below hrs hb j hj
        exact ⟨b, off, e, Nat.lt_of_lt_of_le h1 hb.size, h2⟩ : Rs W W.heap.size D (ivCells (bk dv))))
  clear ho hrs
  clear hb
  have HB5 : Hid (Below w3.heap.size w3 w3) := Lib.hid (Below.refl _ _)
  have HB6 := Lib.hid ((HB3.out.alloc HB3.out.size (.cells #[Value.slice A (bk cv).length c] 33)).alloc (HB3.out.alloc HB3.out.size (.cells #[Value.slice A (bk cv).length c] 33)).size (.cells #[Value.slice D (bk dv).length d] 33))
  have HB7 := Lib.hid ((HB4.out.alloc HB4.out.size (.cells #[Value.slice A (bk cv).length c] 33)).alloc (HB4.out.alloc HB4.out.size (.cells #[Value.slice A (bk cv).length c] 33)).size (.cells #[Value.slice D (bk dv).length d] 33))
  have HB8 := Lib.hid ((HB5.out.alloc HB5.out.size (.cells #[Value.slice A (bk cv).length c] 33)).alloc (HB5.out.alloc HB5.out.size (.cells #[Value.slice A (bk cv).length c] 33)).size (.cells #[Value.slice D (bk dv).length d] 33))
  have HKa := Lib.hid (blk_under w3 (.cells #[Value.slice A (bk cv).length c] 33) (.cells #[Value.slice D (bk dv).length d] 33))
  have HKb := Lib.hid (blk_over w3 (.cells #[Value.slice A (bk cv).length c] 33) (.cells #[Value.slice D (bk dv).length d] 33))
  have kc9 := cell_of_row _ (w3.heap.size) 0 _ _ _ HKa.out
  try simp at kc9
  have kc10 := cell_of_row _ (w3.heap.size + 1) 0 _ _ _ HKb.out
  try simp at kc10
  go_wp2_with fail
  refine (HM1.out _ _ _ _ _ (HRa.out _ HB7.out) (HRb.out _ HB8.out)).mono ?_
  rintro e w4 ⟨⟨x, rfl, ho⟩, hb⟩
  have HB11 := Lib.hid (HB6.out.trans (hb.mono HB6.out.size))
  have HB12 := Lib.hid (HB7.out.trans (hb.mono HB7.out.size))
  have HB13 := Lib.hid (HB8.out.trans (hb.mono HB8.out.size))
  have HK14 := Lib.hid ((hb.block (w3.heap.size) ((Array.getElem?_eq_some_iff.1 HKa.out).1)).trans HKa.out)
  have HK15 := Lib.hid ((hb.block (w3.heap.size + 1) ((Array.getElem?_eq_some_iff.1 HKb.out).1)).trans HKb.out)
  obtain ⟨Ax, cx, rfl, _, hrs, _⟩ := rs_own ho
  have HRx := Lib.hid (fun W (hb : Below w4.heap.size w4 W) => (fun j hj => by
        obtain ⟨b, off, e, h1, h2⟩ := Rs.below hrs hb j hj
        exact ⟨b, off, e, Nat.lt_of_lt_of_le h1 hb.size, h2⟩ : Rs W W.heap.size Ax (ivCells (bk mv))))
  clear ho hrs
  clear hb
  clear kc9 kc10
  have HB16 : Hid (Below w4.heap.size w4 w4) := Lib.hid (Below.refl _ _)
  have HB17 := Lib.hid (HB11.out.alloc HB11.out.size (.cells #[Value.slice Ax (bk mv).length cx] 33))
  have HB18 := Lib.hid (HB12.out.alloc HB12.out.size (.cells #[Value.slice Ax (bk mv).length cx] 33))
  have HB19 := Lib.hid (HB13.out.alloc HB13.out.size (.cells #[Value.slice Ax (bk mv).length cx] 33))
  have HB20 := Lib.hid (HB16.out.alloc HB16.out.size (.cells #[Value.slice Ax (bk mv).length cx] 33))
  have HK21 := Lib.hid ((Below.heap_alloc w4 (.cells #[Value.slice Ax (bk mv).length cx] 33) (w3.heap.size) ((Array.getElem?_eq_some_iff.1 HK14.out).1)).trans HK14.out)
  have HK22 := Lib.hid ((Below.heap_alloc w4 (.cells #[Value.slice Ax (bk mv).length cx] 33) (w3.heap.size + 1) ((Array.getElem?_eq_some_iff.1 HK15.out).1)).trans HK15.out)
  have HK23 := Lib.hid (Deep.blk_alloc_new w4 (.cells #[Value.slice Ax (bk mv).length cx] 33))
  have kc24 := cell_of_row _ (w3.heap.size) 0 _ _ _ HK21.out
  try simp at kc24
  have kc25 := cell_of_row _ (w3.heap.size + 1) 0 _ _ _ HK22.out
  try simp at kc25
  have kc26 := cell_of_row _ (w4.heap.size) 0 _ _ _ HK23.out
  try simp at kc26
  go_wp2_with fail
  refine (HM2.out _ _ _ _ _ (HRb.out _ HB19.out) (HRa.out _ HB18.out)).mono ?_
  rintro e w5 ⟨⟨x, rfl, ho⟩, hb⟩
  have HB27 := Lib.hid (HB17.out.trans (hb.mono HB17.out.size))
  have HB28 := Lib.hid (HB18.out.trans (hb.mono HB18.out.size))
  have HB29 := Lib.hid (HB19.out.trans (hb.mono HB19.out.size))
  have HB30 := Lib.hid (HB20.out.trans (hb.mono HB20.out.size))
  have HK31 := Lib.hid ((hb.block (w3.heap.size) ((Array.getElem?_eq_some_iff.1 HK21.out).1)).trans HK21.out)
  have HK32 := Lib.hid ((hb.block (w3.heap.size + 1) ((Array.getElem?_eq_some_iff.1 HK22.out).1)).trans HK22.out)
  have HK33 := Lib.hid ((hb.block (w4.heap.size) ((Array.getElem?_eq_some_iff.1 HK23.out).1)).trans HK23.out)
  obtain ⟨Ay, cy, rfl, _, hrs, _⟩ := rs_own ho
  have HRy := Lib.hid (fun W (hb : Below w5.heap.size w5 W) => (fun j hj => by
        obtain ⟨b, off, e, h1, h2⟩ := Rs.below hrs hb j hj
        exact ⟨b, off, e, Nat.lt_of_lt_of_le h1 hb.size, h2⟩ : Rs W W.heap.size Ay (ivCells (bk mv))))
  clear ho hrs
  clear hb
  clear kc24 kc25 kc26
  have HB34 : Hid (Below w5.heap.size w5 w5) := Lib.hid (Below.refl _ _)
  have HB35 := Lib.hid (HB27.out.alloc HB27.out.size (.cells #[Value.slice Ay (bk mv).length cy] 33))
  have HB36 := Lib.hid (HB28.out.alloc HB28.out.size (.cells #[Value.slice Ay (bk mv).length cy] 33))
  have HB37 := Lib.hid (HB29.out.alloc HB29.out.size (.cells #[Value.slice Ay (bk mv).length cy] 33))
  have HB38 := Lib.hid (HB30.out.alloc HB30.out.size (.cells #[Value.slice Ay (bk mv).length cy] 33))
  have HB39 := Lib.hid (HB34.out.alloc HB34.out.size (.cells #[Value.slice Ay (bk mv).length cy] 33))
  have HK40 := Lib.hid ((Below.heap_alloc w5 (.cells #[Value.slice Ay (bk mv).length cy] 33) (w3.heap.size) ((Array.getElem?_eq_some_iff.1 HK31.out).1)).trans HK31.out)
  have HK41 := Lib.hid ((Below.heap_alloc w5 (.cells #[Value.slice Ay (bk mv).length cy] 33) (w3.heap.size + 1) ((Array.getElem?_eq_some_iff.1 HK32.out).1)).trans HK32.out)
  have HK42 := Lib.hid ((Below.heap_alloc w5 (.cells #[Value.slice Ay (bk mv).length cy] 33) (w4.heap.size) ((Array.getElem?_eq_some_iff.1 HK33.out).1)).trans HK33.out)
  have HK43 := Lib.hid (Deep.blk_alloc_new w5 (.cells #[Value.slice Ay (bk mv).length cy] 33))
  have kc44 := cell_of_row _ (w3.heap.size) 0 _ _ _ HK40.out
  try simp at kc44
  have kc45 := cell_of_row _ (w3.heap.size + 1) 0 _ _ _ HK41.out
  try simp at kc45
  have kc46 := cell_of_row _ (w4.heap.size) 0 _ _ _ HK42.out
  try simp at kc46
  have kc47 := cell_of_row _ (w5.heap.size) 0 _ _ _ HK43.out
  try simp at kc47
  go_wp2_with fail
  refine (HSb.out _ _ _ _ _ (HRx.out _ HB38.out) (HRa.out _ HB36.out)).mono ?_
  rintro e w6 ⟨⟨x, rfl, ho⟩, hb⟩
  have HB48 := Lib.hid (HB35.out.trans (hb.mono HB35.out.size))
  have HB49 := Lib.hid (HB36.out.trans (hb.mono HB36.out.size))
  have HB50 := Lib.hid (HB37.out.trans (hb.mono HB37.out.size))
  have HB51 := Lib.hid (HB38.out.trans (hb.mono HB38.out.size))
  have HB52 := Lib.hid (HB39.out.trans (hb.mono HB39.out.size))
  have HK53 := Lib.hid ((hb.block (w3.heap.size) ((Array.getElem?_eq_some_iff.1 HK40.out).1)).trans HK40.out)
  have HK54 := Lib.hid ((hb.block (w3.heap.size + 1) ((Array.getElem?_eq_some_iff.1 HK41.out).1)).trans HK41.out)
  have HK55 := Lib.hid ((hb.block (w4.heap.size) ((Array.getElem?_eq_some_iff.1 HK42.out).1)).trans HK42.out)
  have HK56 := Lib.hid ((hb.block (w5.heap.size) ((Array.getElem?_eq_some_iff.1 HK43.out).1)).trans HK43.out)
  obtain ⟨Az, cz, rfl, _, hrs, _⟩ := rs_own ho
  have HRz := Lib.hid (fun W (hb : Below w6.heap.size w6 W) => (fun j hj => by
        obtain ⟨b, off, e, h1, h2⟩ := Rs.below hrs hb j hj
        exact ⟨b, off, e, Nat.lt_of_lt_of_le h1 hb.size, h2⟩ : Rs W W.heap.size Az (ivCells (bk dv))))
  clear ho hrs
  clear hb
  clear kc44 kc45 kc46 kc47
  have HLb : Hid (w.heap.size ≤ w6.heap.size ∧ w2.heap.size ≤ w6.heap.size ∧ w3.heap.size ≤ w6.heap.size ∧ w4.heap.size ≤ w6.heap.size ∧ w5.heap.size ≤ w6.heap.size ∧ w3.heap.size + 1 < w6.heap.size) := Lib.hid ⟨HB48.out.size, HB49.out.size, HB50.out.size, HB51.out.size, HB52.out.size, (Array.getElem?_eq_some_iff.1 HK54.out).1⟩
  have HB57 : Hid (Below w6.heap.size w6 w6) := Lib.hid (Below.refl _ _)
  have HB58 := Lib.hid (HB48.out.alloc HB48.out.size (.cells #[Value.slice Az (bk dv).length cz] 33))
  have HB59 := Lib.hid (HB49.out.alloc HB49.out.size (.cells #[Value.slice Az (bk dv).length cz] 33))
  have HB60 := Lib.hid (HB50.out.alloc HB50.out.size (.cells #[Value.slice Az (bk dv).length cz] 33))
  have HB61 := Lib.hid (HB51.out.alloc HB51.out.size (.cells #[Value.slice Az (bk dv).length cz] 33))
  have HB62 := Lib.hid (HB52.out.alloc HB52.out.size (.cells #[Value.slice Az (bk dv).length cz] 33))
  have HB63 := Lib.hid (HB57.out.alloc HB57.out.size (.cells #[Value.slice Az (bk dv).length cz] 33))
  have HK64 := Lib.hid ((Below.heap_alloc w6 (.cells #[Value.slice Az (bk dv).length cz] 33) (w3.heap.size) ((Array.getElem?_eq_some_iff.1 HK53.out).1)).trans HK53.out)
  have HK65 := Lib.hid ((Below.heap_alloc w6 (.cells #[Value.slice Az (bk dv).length cz] 33) (w3.heap.size + 1) ((Array.getElem?_eq_some_iff.1 HK54.out).1)).trans HK54.out)
  have HK66 := Lib.hid ((Below.heap_alloc w6 (.cells #[Value.slice Az (bk dv).length cz] 33) (w4.heap.size) ((Array.getElem?_eq_some_iff.1 HK55.out).1)).trans HK55.out)
  have HK67 := Lib.hid ((Below.heap_alloc w6 (.cells #[Value.slice Az (bk dv).length cz] 33) (w5.heap.size) ((Array.getElem?_eq_some_iff.1 HK56.out).1)).trans HK56.out)
  have HK68 := Lib.hid (Deep.blk_alloc_new w6 (.cells #[Value.slice Az (bk dv).length cz] 33))
  have kc69 := cell_of_row _ (w3.heap.size) 0 _ _ _ HK64.out
  try simp at kc69
  have kc70 := cell_of_row _ (w3.heap.size + 1) 0 _ _ _ HK65.out
  try simp at kc70
  have kc71 := cell_of_row _ (w4.heap.size) 0 _ _ _ HK66.out
  try simp at kc71
  have kc72 := cell_of_row _ (w5.heap.size) 0 _ _ _ HK67.out
  try simp at kc72
  have kc73 := cell_of_row _ (w6.heap.size) 0 _ _ _ HK68.out
  try simp at kc73
  go_wp2_with fail
  clear kc69 kc70 kc71 kc72 kc73
  clear HOf HOg HM1 HM2 HSb
  rcases HFe with hle | ⟨hle, hff⟩
  · have hl2 : ((((bk cv).length : Nat) : Int) == (((bk dv).length : Nat) : Int)) = true := by rw [beq_iff_eq]; omega
    have hl3 : (fe != fe) = false := by simp
    clear hle
    have HD74 : Hid (∀ n, Below w.heap.size w (((w6.alloc (.cells #[Value.slice Az (bk dv).length cz] 33))).drewN n)) := Lib.hid (fun n => below_drewN HB58.out n)
    have HD75 : Hid (∀ n, Below w2.heap.size w2 (((w6.alloc (.cells #[Value.slice Az (bk dv).length cz] 33))).drewN n)) := Lib.hid (fun n => below_drewN HB59.out n)
    have HD76 : Hid (∀ n, Below w3.heap.size w3 (((w6.alloc (.cells #[Value.slice Az (bk dv).length cz] 33))).drewN n)) := Lib.hid (fun n => below_drewN HB60.out n)
    have HD77 : Hid (∀ n, Below w4.heap.size w4 (((w6.alloc (.cells #[Value.slice Az (bk dv).length cz] 33))).drewN n)) := Lib.hid (fun n => below_drewN HB61.out n)
    have HD78 : Hid (∀ n, Below w5.heap.size w5 (((w6.alloc (.cells #[Value.slice Az (bk dv).length cz] 33))).drewN n)) := Lib.hid (fun n => below_drewN HB62.out n)
    have HD79 : Hid (∀ n, Below w6.heap.size w6 (((w6.alloc (.cells #[Value.slice Az (bk dv).length cz] 33))).drewN n)) := Lib.hid (fun n => below_drewN HB63.out n)
    have HE80 : Hid (∀ n, (((w6.alloc (.cells #[Value.slice Az (bk dv).length cz] 33))).drewN n).heap[w3.heap.size]? = some (.cells #[Value.slice A (bk cv).length c] 33 (0, 0))) := Lib.hid (fun n => HK64.out)
    have HE81 : Hid (∀ n, (((w6.alloc (.cells #[Value.slice Az (bk dv).length cz] 33))).drewN n).heap[w3.heap.size + 1]? = some (.cells #[Value.slice D (bk dv).length d] 33 (0, 0))) := Lib.hid (fun n => HK65.out)
    have HE82 : Hid (∀ n, (((w6.alloc (.cells #[Value.slice Az (bk dv).length cz] 33))).drewN n).heap[w4.heap.size]? = some (.cells #[Value.slice Ax (bk mv).length cx] 33 (0, 0))) := Lib.hid (fun n => HK66.out)
    have HE83 : Hid (∀ n, (((w6.alloc (.cells #[Value.slice Az (bk dv).length cz] 33))).drewN n).heap[w5.heap.size]? = some (.cells #[Value.slice Ay (bk mv).length cy] 33 (0, 0))) := Lib.hid (fun n => HK67.out)
    have HE84 : Hid (∀ n, (((w6.alloc (.cells #[Value.slice Az (bk dv).length cz] 33))).drewN n).heap[w6.heap.size]? = some (.cells #[Value.slice Az (bk dv).length cz] 33 (0, 0))) := Lib.hid (fun n => HK68.out)
    have sent0 : True := trivial
    have sent1 : True := trivial
    have sent2 : True := trivial
    have sent3 : True := trivial
    have sent4 : True := trivial
    have sent5 : True := trivial
    have sent6 : True := trivial
    have sent7 : True := trivial
    have sent8 : True := trivial
    have sent9 : True := trivial
    have sent10 : True := trivial
    have sent11 : True := trivial
    have sent12 : True := trivial
    have sent13 : True := trivial
    have sent14 : True := trivial
    go_region_held3 (fun W => W.cell? ⟨w3.heap.size, 0, none⟩ = some (Value.slice A (bk cv).length c) ∧ W.cell? ⟨w3.heap.size + 1, 0, none⟩ = some (Value.slice D (bk dv).length d) ∧ W.cell? ⟨w4.heap.size, 0, none⟩ = some (Value.slice Ax (bk mv).length cx) ∧ W.cell? ⟨w5.heap.size, 0, none⟩ = some (Value.slice Ay (bk mv).length cy) ∧ W.cell? ⟨w6.heap.size, 0, none⟩ = some (Value.slice Az (bk dv).length cz))
      (first | exact ⟨cell_of_row _ (w3.heap.size) 0 _ _ _ HK260.out, cell_of_row _ (w3.heap.size + 1) 0 _ _ _ HK261.out, cell_of_row _ (w4.heap.size) 0 _ _ _ HK262.out, cell_of_row _ (w5.heap.size) 0 _ _ _ HK263.out, cell_of_row _ (w6.heap.size) 0 _ _ _ HK264.out⟩ | exact ⟨cell_of_row _ (w3.heap.size) 0 _ _ _ HK248.out, cell_of_row _ (w3.heap.size + 1) 0 _ _ _ HK249.out, cell_of_row _ (w4.heap.size) 0 _ _ _ HK250.out, cell_of_row _ (w5.heap.size) 0 _ _ _ HK251.out, cell_of_row _ (w6.heap.size) 0 _ _ _ HK252.out⟩ | exact ⟨cell_of_row _ (w3.heap.size) 0 _ _ _ HK236.out, cell_of_row _ (w3.heap.size + 1) 0 _ _ _ HK237.out, cell_of_row _ (w4.heap.size) 0 _ _ _ HK238.out, cell_of_row _ (w5.heap.size) 0 _ _ _ HK239.out, cell_of_row _ (w6.heap.size) 0 _ _ _ HK240.out⟩ | exact ⟨cell_of_row _ (w3.heap.size) 0 _ _ _ HK224.out, cell_of_row _ (w3.heap.size + 1) 0 _ _ _ HK225.out, cell_of_row _ (w4.heap.size) 0 _ _ _ HK226.out, cell_of_row _ (w5.heap.size) 0 _ _ _ HK227.out, cell_of_row _ (w6.heap.size) 0 _ _ _ HK228.out⟩ | exact ⟨cell_of_row _ (w3.heap.size) 0 _ _ _ HK212.out, cell_of_row _ (w3.heap.size + 1) 0 _ _ _ HK213.out, cell_of_row _ (w4.heap.size) 0 _ _ _ HK214.out, cell_of_row _ (w5.heap.size) 0 _ _ _ HK215.out, cell_of_row _ (w6.heap.size) 0 _ _ _ HK216.out⟩ | exact ⟨cell_of_row _ (w3.heap.size) 0 _ _ _ HK200.out, cell_of_row _ (w3.heap.size + 1) 0 _ _ _ HK201.out, cell_of_row _ (w4.heap.size) 0 _ _ _ HK202.out, cell_of_row _ (w5.heap.size) 0 _ _ _ HK203.out, cell_of_row _ (w6.heap.size) 0 _ _ _ HK204.out⟩ | exact ⟨cell_of_row _ (w3.heap.size) 0 _ _ _ HK188.out, cell_of_row _ (w3.heap.size + 1) 0 _ _ _ HK189.out, cell_of_row _ (w4.heap.size) 0 _ _ _ HK190.out, cell_of_row _ (w5.heap.size) 0 _ _ _ HK191.out, cell_of_row _ (w6.heap.size) 0 _ _ _ HK192.out⟩ | exact ⟨cell_of_row _ (w3.heap.size) 0 _ _ _ HK176.out, cell_of_row _ (w3.heap.size + 1) 0 _ _ _ HK177.out, cell_of_row _ (w4.heap.size) 0 _ _ _ HK178.out, cell_of_row _ (w5.heap.size) 0 _ _ _ HK179.out, cell_of_row _ (w6.heap.size) 0 _ _ _ HK180.out⟩ | exact ⟨cell_of_row _ (w3.heap.size) 0 _ _ _ HK164.out, cell_of_row _ (w3.heap.size + 1) 0 _ _ _ HK165.out, cell_of_row _ (w4.heap.size) 0 _ _ _ HK166.out, cell_of_row _ (w5.heap.size) 0 _ _ _ HK167.out, cell_of_row _ (w6.heap.size) 0 _ _ _ HK168.out⟩ | exact ⟨cell_of_row _ (w3.heap.size) 0 _ _ _ HK152.out, cell_of_row _ (w3.heap.size + 1) 0 _ _ _ HK153.out, cell_of_row _ (w4.heap.size) 0 _ _ _ HK154.out, cell_of_row _ (w5.heap.size) 0 _ _ _ HK155.out, cell_of_row _ (w6.heap.size) 0 _ _ _ HK156.out⟩ | exact ⟨cell_of_row _ (w3.heap.size) 0 _ _ _ HK140.out, cell_of_row _ (w3.heap.size + 1) 0 _ _ _ HK141.out, cell_of_row _ (w4.heap.size) 0 _ _ _ HK142.out, cell_of_row _ (w5.heap.size) 0 _ _ _ HK143.out, cell_of_row _ (w6.heap.size) 0 _ _ _ HK144.out⟩ | exact ⟨cell_of_row _ (w3.heap.size) 0 _ _ _ HK128.out, cell_of_row _ (w3.heap.size + 1) 0 _ _ _ HK129.out, cell_of_row _ (w4.heap.size) 0 _ _ _ HK130.out, cell_of_row _ (w5.heap.size) 0 _ _ _ HK131.out, cell_of_row _ (w6.heap.size) 0 _ _ _ HK132.out⟩ | exact ⟨cell_of_row _ (w3.heap.size) 0 _ _ _ HK116.out, cell_of_row _ (w3.heap.size + 1) 0 _ _ _ HK117.out, cell_of_row _ (w4.heap.size) 0 _ _ _ HK118.out, cell_of_row _ (w5.heap.size) 0 _ _ _ HK119.out, cell_of_row _ (w6.heap.size) 0 _ _ _ HK120.out⟩ | exact ⟨cell_of_row _ (w3.heap.size) 0 _ _ _ HK104.out, cell_of_row _ (w3.heap.size + 1) 0 _ _ _ HK105.out, cell_of_row _ (w4.heap.size) 0 _ _ _ HK106.out, cell_of_row _ (w5.heap.size) 0 _ _ _ HK107.out, cell_of_row _ (w6.heap.size) 0 _ _ _ HK108.out⟩ | exact ⟨cell_of_row _ (w3.heap.size) 0 _ _ _ HK92.out, cell_of_row _ (w3.heap.size + 1) 0 _ _ _ HK93.out, cell_of_row _ (w4.heap.size) 0 _ _ _ HK94.out, cell_of_row _ (w5.heap.size) 0 _ _ _ HK95.out, cell_of_row _ (w6.heap.size) 0 _ _ _ HK96.out⟩ | exact ⟨cell_of_row _ (w3.heap.size) 0 _ _ _ (HE80.out _), cell_of_row _ (w3.heap.size + 1) 0 _ _ _ (HE81.out _), cell_of_row _ (w4.heap.size) 0 _ _ _ (HE82.out _), cell_of_row _ (w5.heap.size) 0 _ _ _ (HE83.out _), cell_of_row _ (w6.heap.size) 0 _ _ _ (HE84.out _)⟩ | assumption)
      ((first
        | (clear sent0; go_at_call 27; refine (HVs.out _ (HR.out _ (HD74.out _))).mono ?_; rintro e v85 ⟨⟨y, rfl, ho⟩, hb⟩; have HB86 := Lib.hid ((HD74.out _).trans (hb.mono (HD74.out _).size)); have HB87 := Lib.hid ((HD75.out _).trans (hb.mono (HD75.out _).size)); have HB88 := Lib.hid ((HD76.out _).trans (hb.mono (HD76.out _).size)); have HB89 := Lib.hid ((HD77.out _).trans (hb.mono (HD77.out _).size)); have HB90 := Lib.hid ((HD78.out _).trans (hb.mono (HD78.out _).size)); have HB91 := Lib.hid ((HD79.out _).trans (hb.mono (HD79.out _).size)); have HK92 := Lib.hid ((hb.block (w3.heap.size) ((Array.getElem?_eq_some_iff.1 (HE80.out _)).1)).trans (HE80.out _)); have HK93 := Lib.hid ((hb.block (w3.heap.size + 1) ((Array.getElem?_eq_some_iff.1 (HE81.out _)).1)).trans (HE81.out _)); have HK94 := Lib.hid ((hb.block (w4.heap.size) ((Array.getElem?_eq_some_iff.1 (HE82.out _)).1)).trans (HE82.out _)); have HK95 := Lib.hid ((hb.block (w5.heap.size) ((Array.getElem?_eq_some_iff.1 (HE83.out _)).1)).trans (HE83.out _)); have HK96 := Lib.hid ((hb.block (w6.heap.size) ((Array.getElem?_eq_some_iff.1 (HE84.out _)).1)).trans (HE84.out _)); have HOw0 := Lib.hid (own_base (B' := w6.heap.size + 1) ho (by simp)); clear ho; clear hb)
        | (clear sent1; go_at_call 27; refine (HVt.out _ (HQ.out _ HB86.out)).mono ?_; rintro e v97 ⟨⟨y, rfl, ho⟩, hb⟩; have HB98 := Lib.hid (HB86.out.trans (hb.mono HB86.out.size)); have HB99 := Lib.hid (HB87.out.trans (hb.mono HB87.out.size)); have HB100 := Lib.hid (HB88.out.trans (hb.mono HB88.out.size)); have HB101 := Lib.hid (HB89.out.trans (hb.mono HB89.out.size)); have HB102 := Lib.hid (HB90.out.trans (hb.mono HB90.out.size)); have HB103 := Lib.hid (HB91.out.trans (hb.mono HB91.out.size)); have HK104 := Lib.hid ((hb.block (w3.heap.size) ((Array.getElem?_eq_some_iff.1 HK92.out).1)).trans HK92.out); have HK105 := Lib.hid ((hb.block (w3.heap.size + 1) ((Array.getElem?_eq_some_iff.1 HK93.out).1)).trans HK93.out); have HK106 := Lib.hid ((hb.block (w4.heap.size) ((Array.getElem?_eq_some_iff.1 HK94.out).1)).trans HK94.out); have HK107 := Lib.hid ((hb.block (w5.heap.size) ((Array.getElem?_eq_some_iff.1 HK95.out).1)).trans HK95.out); have HK108 := Lib.hid ((hb.block (w6.heap.size) ((Array.getElem?_eq_some_iff.1 HK96.out).1)).trans HK96.out); have HOw := Lib.hid (own_below HOw0.out hb); obtain ⟨E, ec, rfl, _, hrd⟩ := out_own ho; have HNn := Lib.hid (own_none ho); have HNc := Lib.hid (rd_news hrd); clear ho hrd; clear hb)
        | (clear sent2; have hgx := HOw; clear hgx; refine step_append_mw (by rfl) (.tmp 54) (.tmp 56) 36 rfl (w6.heap.size + 1) 3 i0 _ 8 Try.underlying36 Hi0.out Hz0.out Hz1.out Hz2.out rfl _ M.length (M.map (Value.int .i64)) rfl HOw.out _ N.length _ rfl (N.map (Value.int .i64)) (by simp) HNn.out HNc.out (ints_one N) (by omega) (by omega) ((Array.getElem?_eq_some_iff.1 HK108.out).1) ?_; intro ra v109 hown hg; have HB110 := Lib.hid (below_grownBy HB98.out HOw.out hg (by have := HLb.out; omega) (Nat.le_refl _)); have HB111 := Lib.hid (below_grownBy HB99.out HOw.out hg (by have := HLb.out; omega) (Nat.le_refl _)); have HB112 := Lib.hid (below_grownBy HB100.out HOw.out hg (by have := HLb.out; omega) (Nat.le_refl _)); have HB113 := Lib.hid (below_grownBy HB101.out HOw.out hg (by have := HLb.out; omega) (Nat.le_refl _)); have HB114 := Lib.hid (below_grownBy HB102.out HOw.out hg (by have := HLb.out; omega) (Nat.le_refl _)); have HB115 := Lib.hid (below_grownBy HB103.out HOw.out hg (by have := HLb.out; omega) (Nat.le_refl _)); have HK116 := Lib.hid ((hg.block (w3.heap.size) ((Array.getElem?_eq_some_iff.1 HK104.out).1) (fun e => by have := (HOw.out.lt _ e.symm).1; have := HLb.out; omega)).trans HK104.out); have HK117 := Lib.hid ((hg.block (w3.heap.size + 1) ((Array.getElem?_eq_some_iff.1 HK105.out).1) (fun e => by have := (HOw.out.lt _ e.symm).1; have := HLb.out; omega)).trans HK105.out); have HK118 := Lib.hid ((hg.block (w4.heap.size) ((Array.getElem?_eq_some_iff.1 HK106.out).1) (fun e => by have := (HOw.out.lt _ e.symm).1; have := HLb.out; omega)).trans HK106.out); have HK119 := Lib.hid ((hg.block (w5.heap.size) ((Array.getElem?_eq_some_iff.1 HK107.out).1) (fun e => by have := (HOw.out.lt _ e.symm).1; have := HLb.out; omega)).trans HK107.out); have HK120 := Lib.hid ((hg.block (w6.heap.size) ((Array.getElem?_eq_some_iff.1 HK108.out).1) (fun e => by have := (HOw.out.lt _ e.symm).1; have := HLb.out; omega)).trans HK108.out); rw [← List.map_append, ← List.length_append, ← HMN.out] at hown; obtain ⟨Ap, cp, rfl, _, hrd⟩ := out_own hown; have HRp := Lib.hid hrd; clear hown hg hrd HOw HOw0)
        | (clear sent3; go_at_call 23; refine (HCab.out _ _ _ HRp.out).mono ?_; rintro e v121 ⟨⟨y, rfl, ho⟩, hb⟩; have HB122 := Lib.hid (HB110.out.trans (hb.mono HB110.out.size)); have HB123 := Lib.hid (HB111.out.trans (hb.mono HB111.out.size)); have HB124 := Lib.hid (HB112.out.trans (hb.mono HB112.out.size)); have HB125 := Lib.hid (HB113.out.trans (hb.mono HB113.out.size)); have HB126 := Lib.hid (HB114.out.trans (hb.mono HB114.out.size)); have HB127 := Lib.hid (HB115.out.trans (hb.mono HB115.out.size)); have HK128 := Lib.hid ((hb.block (w3.heap.size) ((Array.getElem?_eq_some_iff.1 HK116.out).1)).trans HK116.out); have HK129 := Lib.hid ((hb.block (w3.heap.size + 1) ((Array.getElem?_eq_some_iff.1 HK117.out).1)).trans HK117.out); have HK130 := Lib.hid ((hb.block (w4.heap.size) ((Array.getElem?_eq_some_iff.1 HK118.out).1)).trans HK118.out); have HK131 := Lib.hid ((hb.block (w5.heap.size) ((Array.getElem?_eq_some_iff.1 HK119.out).1)).trans HK119.out); have HK132 := Lib.hid ((hb.block (w6.heap.size) ((Array.getElem?_eq_some_iff.1 HK120.out).1)).trans HK120.out); obtain ⟨E1, e1, rfl, _, hrd, _⟩ := rs_own ho; have HRe1 := Lib.hid hrd; clear ho hrd; clear hb)
        | (clear sent4; go_at_call 22; refine (HSm.out _ _ _ _ _ (HRx.out _ HB125.out) HRe1.out).mono ?_; rintro e v133 ⟨rfl, hb⟩; have HB134 := Lib.hid (HB122.out.trans (hb.mono HB122.out.size)); have HB135 := Lib.hid (HB123.out.trans (hb.mono HB123.out.size)); have HB136 := Lib.hid (HB124.out.trans (hb.mono HB124.out.size)); have HB137 := Lib.hid (HB125.out.trans (hb.mono HB125.out.size)); have HB138 := Lib.hid (HB126.out.trans (hb.mono HB126.out.size)); have HB139 := Lib.hid (HB127.out.trans (hb.mono HB127.out.size)); have HK140 := Lib.hid ((hb.block (w3.heap.size) ((Array.getElem?_eq_some_iff.1 HK128.out).1)).trans HK128.out); have HK141 := Lib.hid ((hb.block (w3.heap.size + 1) ((Array.getElem?_eq_some_iff.1 HK129.out).1)).trans HK129.out); have HK142 := Lib.hid ((hb.block (w4.heap.size) ((Array.getElem?_eq_some_iff.1 HK130.out).1)).trans HK130.out); have HK143 := Lib.hid ((hb.block (w5.heap.size) ((Array.getElem?_eq_some_iff.1 HK131.out).1)).trans HK131.out); have HK144 := Lib.hid ((hb.block (w6.heap.size) ((Array.getElem?_eq_some_iff.1 HK132.out).1)).trans HK132.out); clear hb)
        | (clear sent5; go_at_call 31; refine (HE1.out _ _ _ _ _ (HRx.out _ HB137.out) (HRy.out _ HB138.out)).mono ?_; rintro e v145 ⟨rfl, hb⟩; have HB146 := Lib.hid (HB134.out.trans (hb.mono HB134.out.size)); have HB147 := Lib.hid (HB135.out.trans (hb.mono HB135.out.size)); have HB148 := Lib.hid (HB136.out.trans (hb.mono HB136.out.size)); have HB149 := Lib.hid (HB137.out.trans (hb.mono HB137.out.size)); have HB150 := Lib.hid (HB138.out.trans (hb.mono HB138.out.size)); have HB151 := Lib.hid (HB139.out.trans (hb.mono HB139.out.size)); have HK152 := Lib.hid ((hb.block (w3.heap.size) ((Array.getElem?_eq_some_iff.1 HK140.out).1)).trans HK140.out); have HK153 := Lib.hid ((hb.block (w3.heap.size + 1) ((Array.getElem?_eq_some_iff.1 HK141.out).1)).trans HK141.out); have HK154 := Lib.hid ((hb.block (w4.heap.size) ((Array.getElem?_eq_some_iff.1 HK142.out).1)).trans HK142.out); have HK155 := Lib.hid ((hb.block (w5.heap.size) ((Array.getElem?_eq_some_iff.1 HK143.out).1)).trans HK143.out); have HK156 := Lib.hid ((hb.block (w6.heap.size) ((Array.getElem?_eq_some_iff.1 HK144.out).1)).trans HK144.out); clear hb)
        | (clear sent6; go_at_call 31; refine (HE2.out _ _ _ _ _ (HRz.out _ HB151.out) (HRb.out _ HB148.out)).mono ?_; rintro e v157 ⟨rfl, hb⟩; have HB158 := Lib.hid (HB146.out.trans (hb.mono HB146.out.size)); have HB159 := Lib.hid (HB147.out.trans (hb.mono HB147.out.size)); have HB160 := Lib.hid (HB148.out.trans (hb.mono HB148.out.size)); have HB161 := Lib.hid (HB149.out.trans (hb.mono HB149.out.size)); have HB162 := Lib.hid (HB150.out.trans (hb.mono HB150.out.size)); have HB163 := Lib.hid (HB151.out.trans (hb.mono HB151.out.size)); have HK164 := Lib.hid ((hb.block (w3.heap.size) ((Array.getElem?_eq_some_iff.1 HK152.out).1)).trans HK152.out); have HK165 := Lib.hid ((hb.block (w3.heap.size + 1) ((Array.getElem?_eq_some_iff.1 HK153.out).1)).trans HK153.out); have HK166 := Lib.hid ((hb.block (w4.heap.size) ((Array.getElem?_eq_some_iff.1 HK154.out).1)).trans HK154.out); have HK167 := Lib.hid ((hb.block (w5.heap.size) ((Array.getElem?_eq_some_iff.1 HK155.out).1)).trans HK155.out); have HK168 := Lib.hid ((hb.block (w6.heap.size) ((Array.getElem?_eq_some_iff.1 HK156.out).1)).trans HK156.out); clear hb)
        | (clear sent7; go_at_call 31; refine (HE3.out _ _ _ _ _ (HRa.out _ HB159.out) (HRb.out _ HB160.out)).mono ?_; rintro e v169 ⟨rfl, hb⟩; have HB170 := Lib.hid (HB158.out.trans (hb.mono HB158.out.size)); have HB171 := Lib.hid (HB159.out.trans (hb.mono HB159.out.size)); have HB172 := Lib.hid (HB160.out.trans (hb.mono HB160.out.size)); have HB173 := Lib.hid (HB161.out.trans (hb.mono HB161.out.size)); have HB174 := Lib.hid (HB162.out.trans (hb.mono HB162.out.size)); have HB175 := Lib.hid (HB163.out.trans (hb.mono HB163.out.size)); have HK176 := Lib.hid ((hb.block (w3.heap.size) ((Array.getElem?_eq_some_iff.1 HK164.out).1)).trans HK164.out); have HK177 := Lib.hid ((hb.block (w3.heap.size + 1) ((Array.getElem?_eq_some_iff.1 HK165.out).1)).trans HK165.out); have HK178 := Lib.hid ((hb.block (w4.heap.size) ((Array.getElem?_eq_some_iff.1 HK166.out).1)).trans HK166.out); have HK179 := Lib.hid ((hb.block (w5.heap.size) ((Array.getElem?_eq_some_iff.1 HK167.out).1)).trans HK167.out); have HK180 := Lib.hid ((hb.block (w6.heap.size) ((Array.getElem?_eq_some_iff.1 HK168.out).1)).trans HK168.out); clear hb)
        | (clear sent8; go_at_call 27; refine (HVs.out _ (HR.out _ HB170.out)).mono ?_; rintro e v181 ⟨⟨y, rfl, ho⟩, hb⟩; have HB182 := Lib.hid (HB170.out.trans (hb.mono HB170.out.size)); have HB183 := Lib.hid (HB171.out.trans (hb.mono HB171.out.size)); have HB184 := Lib.hid (HB172.out.trans (hb.mono HB172.out.size)); have HB185 := Lib.hid (HB173.out.trans (hb.mono HB173.out.size)); have HB186 := Lib.hid (HB174.out.trans (hb.mono HB174.out.size)); have HB187 := Lib.hid (HB175.out.trans (hb.mono HB175.out.size)); have HK188 := Lib.hid ((hb.block (w3.heap.size) ((Array.getElem?_eq_some_iff.1 HK176.out).1)).trans HK176.out); have HK189 := Lib.hid ((hb.block (w3.heap.size + 1) ((Array.getElem?_eq_some_iff.1 HK177.out).1)).trans HK177.out); have HK190 := Lib.hid ((hb.block (w4.heap.size) ((Array.getElem?_eq_some_iff.1 HK178.out).1)).trans HK178.out); have HK191 := Lib.hid ((hb.block (w5.heap.size) ((Array.getElem?_eq_some_iff.1 HK179.out).1)).trans HK179.out); have HK192 := Lib.hid ((hb.block (w6.heap.size) ((Array.getElem?_eq_some_iff.1 HK180.out).1)).trans HK180.out); obtain ⟨E2, e2, rfl, _, hrd⟩ := out_own ho; have HRe2 := Lib.hid hrd; clear ho hrd; clear hb)
        | (clear sent9; go_at_call 23; refine (HCa.out _ _ _ HRe2.out).mono ?_; rintro e v193 ⟨⟨y, rfl, ho⟩, hb⟩; have HB194 := Lib.hid (HB182.out.trans (hb.mono HB182.out.size)); have HB195 := Lib.hid (HB183.out.trans (hb.mono HB183.out.size)); have HB196 := Lib.hid (HB184.out.trans (hb.mono HB184.out.size)); have HB197 := Lib.hid (HB185.out.trans (hb.mono HB185.out.size)); have HB198 := Lib.hid (HB186.out.trans (hb.mono HB186.out.size)); have HB199 := Lib.hid (HB187.out.trans (hb.mono HB187.out.size)); have HK200 := Lib.hid ((hb.block (w3.heap.size) ((Array.getElem?_eq_some_iff.1 HK188.out).1)).trans HK188.out); have HK201 := Lib.hid ((hb.block (w3.heap.size + 1) ((Array.getElem?_eq_some_iff.1 HK189.out).1)).trans HK189.out); have HK202 := Lib.hid ((hb.block (w4.heap.size) ((Array.getElem?_eq_some_iff.1 HK190.out).1)).trans HK190.out); have HK203 := Lib.hid ((hb.block (w5.heap.size) ((Array.getElem?_eq_some_iff.1 HK191.out).1)).trans HK191.out); have HK204 := Lib.hid ((hb.block (w6.heap.size) ((Array.getElem?_eq_some_iff.1 HK192.out).1)).trans HK192.out); obtain ⟨E3, e3, rfl, _, _, _⟩ := rs_own ho; clear ho; clear hb)
        | (clear sent10; go_at_call 27; refine (HVt.out _ (HQ.out _ HB194.out)).mono ?_; rintro e v205 ⟨⟨y, rfl, ho⟩, hb⟩; have HB206 := Lib.hid (HB194.out.trans (hb.mono HB194.out.size)); have HB207 := Lib.hid (HB195.out.trans (hb.mono HB195.out.size)); have HB208 := Lib.hid (HB196.out.trans (hb.mono HB196.out.size)); have HB209 := Lib.hid (HB197.out.trans (hb.mono HB197.out.size)); have HB210 := Lib.hid (HB198.out.trans (hb.mono HB198.out.size)); have HB211 := Lib.hid (HB199.out.trans (hb.mono HB199.out.size)); have HK212 := Lib.hid ((hb.block (w3.heap.size) ((Array.getElem?_eq_some_iff.1 HK200.out).1)).trans HK200.out); have HK213 := Lib.hid ((hb.block (w3.heap.size + 1) ((Array.getElem?_eq_some_iff.1 HK201.out).1)).trans HK201.out); have HK214 := Lib.hid ((hb.block (w4.heap.size) ((Array.getElem?_eq_some_iff.1 HK202.out).1)).trans HK202.out); have HK215 := Lib.hid ((hb.block (w5.heap.size) ((Array.getElem?_eq_some_iff.1 HK203.out).1)).trans HK203.out); have HK216 := Lib.hid ((hb.block (w6.heap.size) ((Array.getElem?_eq_some_iff.1 HK204.out).1)).trans HK204.out); obtain ⟨E4, e4, rfl, _, hrd⟩ := out_own ho; have HRe4 := Lib.hid hrd; clear ho hrd; clear hb)
        | (clear sent11; go_at_call 23; refine (HCb.out _ _ _ HRe4.out).mono ?_; rintro e v217 ⟨⟨y, rfl, ho⟩, hb⟩; have HB218 := Lib.hid (HB206.out.trans (hb.mono HB206.out.size)); have HB219 := Lib.hid (HB207.out.trans (hb.mono HB207.out.size)); have HB220 := Lib.hid (HB208.out.trans (hb.mono HB208.out.size)); have HB221 := Lib.hid (HB209.out.trans (hb.mono HB209.out.size)); have HB222 := Lib.hid (HB210.out.trans (hb.mono HB210.out.size)); have HB223 := Lib.hid (HB211.out.trans (hb.mono HB211.out.size)); have HK224 := Lib.hid ((hb.block (w3.heap.size) ((Array.getElem?_eq_some_iff.1 HK212.out).1)).trans HK212.out); have HK225 := Lib.hid ((hb.block (w3.heap.size + 1) ((Array.getElem?_eq_some_iff.1 HK213.out).1)).trans HK213.out); have HK226 := Lib.hid ((hb.block (w4.heap.size) ((Array.getElem?_eq_some_iff.1 HK214.out).1)).trans HK214.out); have HK227 := Lib.hid ((hb.block (w5.heap.size) ((Array.getElem?_eq_some_iff.1 HK215.out).1)).trans HK215.out); have HK228 := Lib.hid ((hb.block (w6.heap.size) ((Array.getElem?_eq_some_iff.1 HK216.out).1)).trans HK216.out); obtain ⟨E5, e5, rfl, _, _, _⟩ := rs_own ho; clear ho; clear hb)
        | (clear sent12; go_at_call 27; refine (HVt.out _ (HQ.out _ HB218.out)).mono ?_; rintro e v229 ⟨⟨y, rfl, ho⟩, hb⟩; have HB230 := Lib.hid (HB218.out.trans (hb.mono HB218.out.size)); have HB231 := Lib.hid (HB219.out.trans (hb.mono HB219.out.size)); have HB232 := Lib.hid (HB220.out.trans (hb.mono HB220.out.size)); have HB233 := Lib.hid (HB221.out.trans (hb.mono HB221.out.size)); have HB234 := Lib.hid (HB222.out.trans (hb.mono HB222.out.size)); have HB235 := Lib.hid (HB223.out.trans (hb.mono HB223.out.size)); have HK236 := Lib.hid ((hb.block (w3.heap.size) ((Array.getElem?_eq_some_iff.1 HK224.out).1)).trans HK224.out); have HK237 := Lib.hid ((hb.block (w3.heap.size + 1) ((Array.getElem?_eq_some_iff.1 HK225.out).1)).trans HK225.out); have HK238 := Lib.hid ((hb.block (w4.heap.size) ((Array.getElem?_eq_some_iff.1 HK226.out).1)).trans HK226.out); have HK239 := Lib.hid ((hb.block (w5.heap.size) ((Array.getElem?_eq_some_iff.1 HK227.out).1)).trans HK227.out); have HK240 := Lib.hid ((hb.block (w6.heap.size) ((Array.getElem?_eq_some_iff.1 HK228.out).1)).trans HK228.out); obtain ⟨E6, e6, rfl, _, hrd⟩ := out_own ho; have HRe6 := Lib.hid hrd; clear ho hrd; clear hb)
        | (clear sent13; go_at_call 23; refine (HCb.out _ _ _ HRe6.out).mono ?_; rintro e v241 ⟨⟨y, rfl, ho⟩, hb⟩; have HB242 := Lib.hid (HB230.out.trans (hb.mono HB230.out.size)); have HB243 := Lib.hid (HB231.out.trans (hb.mono HB231.out.size)); have HB244 := Lib.hid (HB232.out.trans (hb.mono HB232.out.size)); have HB245 := Lib.hid (HB233.out.trans (hb.mono HB233.out.size)); have HB246 := Lib.hid (HB234.out.trans (hb.mono HB234.out.size)); have HB247 := Lib.hid (HB235.out.trans (hb.mono HB235.out.size)); have HK248 := Lib.hid ((hb.block (w3.heap.size) ((Array.getElem?_eq_some_iff.1 HK236.out).1)).trans HK236.out); have HK249 := Lib.hid ((hb.block (w3.heap.size + 1) ((Array.getElem?_eq_some_iff.1 HK237.out).1)).trans HK237.out); have HK250 := Lib.hid ((hb.block (w4.heap.size) ((Array.getElem?_eq_some_iff.1 HK238.out).1)).trans HK238.out); have HK251 := Lib.hid ((hb.block (w5.heap.size) ((Array.getElem?_eq_some_iff.1 HK239.out).1)).trans HK239.out); have HK252 := Lib.hid ((hb.block (w6.heap.size) ((Array.getElem?_eq_some_iff.1 HK240.out).1)).trans HK240.out); obtain ⟨E7, e7, rfl, _, hrd, _⟩ := rs_own ho; have HRe7 := Lib.hid hrd; clear ho hrd; clear hb)
        | (clear sent14; go_at_call 22; refine (HSn.out _ _ _ _ _ (HRa.out _ HB243.out) HRe7.out).mono ?_; rintro e v253 ⟨rfl, hb⟩; have HB254 := Lib.hid (HB242.out.trans (hb.mono HB242.out.size)); have HB255 := Lib.hid (HB243.out.trans (hb.mono HB243.out.size)); have HB256 := Lib.hid (HB244.out.trans (hb.mono HB244.out.size)); have HB257 := Lib.hid (HB245.out.trans (hb.mono HB245.out.size)); have HB258 := Lib.hid (HB246.out.trans (hb.mono HB246.out.size)); have HB259 := Lib.hid (HB247.out.trans (hb.mono HB247.out.size)); have HK260 := Lib.hid ((hb.block (w3.heap.size) ((Array.getElem?_eq_some_iff.1 HK248.out).1)).trans HK248.out); have HK261 := Lib.hid ((hb.block (w3.heap.size + 1) ((Array.getElem?_eq_some_iff.1 HK249.out).1)).trans HK249.out); have HK262 := Lib.hid ((hb.block (w4.heap.size) ((Array.getElem?_eq_some_iff.1 HK250.out).1)).trans HK250.out); have HK263 := Lib.hid ((hb.block (w5.heap.size) ((Array.getElem?_eq_some_iff.1 HK251.out).1)).trans HK251.out); have HK264 := Lib.hid ((hb.block (w6.heap.size) ((Array.getElem?_eq_some_iff.1 HK252.out).1)).trans HK252.out); clear hb)
        | fail))
    clear hl2 hl3
    rcases hcf with hcf | hcf
    · have HSu := Lib.hid (fun W A c D d h1 h2 => subtract_ok A c D d cv dv hC hD hcf W h1 h2)
      have hSC := hC.sub hD hcf
      have HCk := Lib.hid (fun W A c h => hcheck_any A c (bk (sbC cv dv)) (Cv.bklen _) hSC.ivok W h)
      rw [hSC.chk] at HCk
      have HAs := Lib.hid (fun W A c k hk h => at_any A c (sbC cv dv) k hk W h)
      have HSg := Lib.hid (fun k => sbC_get cv dv hC.len hD.len k)
      have HCf := Lib.hid hcf
      obtain ⟨sv, hsv⟩ : ∃ sv, sv = sbC cv dv := ⟨_, rfl⟩
      rw [← hsv] at HSu HCk HAs HSg
      clear hsv hSC hcf hC hD
      have kc1265 := cell_of_row _ (w3.heap.size) 0 _ _ _ HK260.out
      try simp at kc1265
      have kc1266 := cell_of_row _ (w3.heap.size + 1) 0 _ _ _ HK261.out
      try simp at kc1266
      have kc1267 := cell_of_row _ (w4.heap.size) 0 _ _ _ HK262.out
      try simp at kc1267
      have kc1268 := cell_of_row _ (w5.heap.size) 0 _ _ _ HK263.out
      try simp at kc1268
      have kc1269 := cell_of_row _ (w6.heap.size) 0 _ _ _ HK264.out
      try simp at kc1269
      go_wp2_with fail
      refine (HSu.out _ _ _ _ _ (HRa.out _ HB255.out) (HRb.out _ HB256.out)).mono ?_
      rintro e w8 ⟨⟨x, rfl, ho⟩, hb⟩
      have HB1270 := Lib.hid (HB254.out.trans (hb.mono HB254.out.size))
      have HB1271 := Lib.hid (HB255.out.trans (hb.mono HB255.out.size))
      have HB1272 := Lib.hid (HB256.out.trans (hb.mono HB256.out.size))
      have HB1273 := Lib.hid (HB257.out.trans (hb.mono HB257.out.size))
      have HB1274 := Lib.hid (HB258.out.trans (hb.mono HB258.out.size))
      have HB1275 := Lib.hid (HB259.out.trans (hb.mono HB259.out.size))
      have HK1276 := Lib.hid ((hb.block (w3.heap.size) ((Array.getElem?_eq_some_iff.1 HK260.out).1)).trans HK260.out)
      have HK1277 := Lib.hid ((hb.block (w3.heap.size + 1) ((Array.getElem?_eq_some_iff.1 HK261.out).1)).trans HK261.out)
      have HK1278 := Lib.hid ((hb.block (w4.heap.size) ((Array.getElem?_eq_some_iff.1 HK262.out).1)).trans HK262.out)
      have HK1279 := Lib.hid ((hb.block (w5.heap.size) ((Array.getElem?_eq_some_iff.1 HK263.out).1)).trans HK263.out)
      have HK1280 := Lib.hid ((hb.block (w6.heap.size) ((Array.getElem?_eq_some_iff.1 HK264.out).1)).trans HK264.out)
      obtain ⟨As, cs, rfl, _, hrs, _⟩ := rs_own ho
      have HRs := Lib.hid (fun W (hb : Below w8.heap.size w8 W) => (fun j hj => by
            obtain ⟨b, off, e, h1, h2⟩ := Rs.below hrs hb j hj
            exact ⟨b, off, e, Nat.lt_of_lt_of_le h1 hb.size, h2⟩ : Rs W W.heap.size As (ivCells (bk sv))))
      clear ho hrs
      clear hb
      clear kc1265 kc1266 kc1267 kc1268 kc1269
      have BW8w := HB1270
      have BW8w2 := HB1271
      have BW8w3 := HB1272
      have HB1281 : Hid (Below w8.heap.size w8 w8) := Lib.hid (Below.refl _ _)
      have HB1282 := Lib.hid (HB1270.out.alloc HB1270.out.size (.cells #[Value.slice As (bk sv).length cs] 33))
      have HB1283 := Lib.hid (HB1271.out.alloc HB1271.out.size (.cells #[Value.slice As (bk sv).length cs] 33))
      have HB1284 := Lib.hid (HB1272.out.alloc HB1272.out.size (.cells #[Value.slice As (bk sv).length cs] 33))
      have HB1285 := Lib.hid (HB1273.out.alloc HB1273.out.size (.cells #[Value.slice As (bk sv).length cs] 33))
      have HB1286 := Lib.hid (HB1274.out.alloc HB1274.out.size (.cells #[Value.slice As (bk sv).length cs] 33))
      have HB1287 := Lib.hid (HB1275.out.alloc HB1275.out.size (.cells #[Value.slice As (bk sv).length cs] 33))
      have HB1288 := Lib.hid (HB1281.out.alloc HB1281.out.size (.cells #[Value.slice As (bk sv).length cs] 33))
      have HK1289 := Lib.hid ((Below.heap_alloc w8 (.cells #[Value.slice As (bk sv).length cs] 33) (w3.heap.size) ((Array.getElem?_eq_some_iff.1 HK1276.out).1)).trans HK1276.out)
      have HK1290 := Lib.hid ((Below.heap_alloc w8 (.cells #[Value.slice As (bk sv).length cs] 33) (w3.heap.size + 1) ((Array.getElem?_eq_some_iff.1 HK1277.out).1)).trans HK1277.out)
      have HK1291 := Lib.hid ((Below.heap_alloc w8 (.cells #[Value.slice As (bk sv).length cs] 33) (w4.heap.size) ((Array.getElem?_eq_some_iff.1 HK1278.out).1)).trans HK1278.out)
      have HK1292 := Lib.hid ((Below.heap_alloc w8 (.cells #[Value.slice As (bk sv).length cs] 33) (w5.heap.size) ((Array.getElem?_eq_some_iff.1 HK1279.out).1)).trans HK1279.out)
      have HK1293 := Lib.hid ((Below.heap_alloc w8 (.cells #[Value.slice As (bk sv).length cs] 33) (w6.heap.size) ((Array.getElem?_eq_some_iff.1 HK1280.out).1)).trans HK1280.out)
      have HK1294 := Lib.hid (Deep.blk_alloc_new w8 (.cells #[Value.slice As (bk sv).length cs] 33))
      go_wp2_with fail
      go_loopw [15, 16] (fun cv' iv wr => ∃ k : Nat, k ≤ 305 ∧ cv' = .bool false ∧ iv = .int .i64 (k : Int) ∧ Hid (wr.heap[w3.heap.size]? = some (.cells #[Value.slice A (bk cv).length c] 33 (0, 0))) ∧ Hid (wr.heap[w3.heap.size + 1]? = some (.cells #[Value.slice D (bk dv).length d] 33 (0, 0))) ∧ Hid (wr.heap[w8.heap.size]? = some (.cells #[Value.slice As (bk sv).length cs] 33 (0, 0))) ∧ Hid (Below w8.heap.size w8 wr)) (fun _ iv _ => 305 - (intOf iv).toNat)
      case atStart => exact ⟨0, Nat.zero_le _, rfl, rfl, HK1289, HK1290, HK1294, HB1288⟩
      case round =>
        obtain ⟨k, hk, rfl, rfl, HXa, HXb, HXs, HB⟩ := hrel
        have hk0 : (0 : Int) ≤ (k : Int) := by omega
        by_cases hlt : k < 305
        · have hkI : (k : Int) < 305 := by omega
          have hw1 : IntKind.i64.wrap ((k : Int) + 1) = (k : Int) + 1 := by simp only [IntKind.wrap_i64]; omega
          have hb1 := HBc.out k
          have hb2 := HBe.out k
          have HA1 := Lib.hid (fun W A c h => HAa.out W A c k hlt h)
          have HA2 := Lib.hid (fun W A c h => HAb.out W A c k hlt h)
          have hsg := HSg.out k
          have hle2 := HCf.out k hlt
          have HA3 := Lib.hid (fun W A c h => HAs.out W A c k hlt h)
          obtain ⟨y, hy⟩ : ∃ y, y = cv.getD k 0 := ⟨_, rfl⟩
          obtain ⟨x, hx⟩ : ∃ x, x = dv.getD k 0 := ⟨_, rfl⟩
          rw [← hy] at hb1 HA1
          rw [← hx] at hb2 HA2
          obtain ⟨z, hz⟩ : ∃ z, z = sv.getD k 0 := ⟨_, rfl⟩
          rw [← hz] at hsg HA3
          rw [← hy, ← hx] at hsg hle2
          clear hy hx hz
          have hd1 : decide (y < x) = false := by simp; omega
          have hwy : IntKind.i64.wrap (y - x) = y - x := by simp only [IntKind.wrap_i64]; omega
          have hgz : (z != y - x) = false := by rw [hsg]; simp
          go_wp2_with fail
          have HD1795 : Hid (∀ n, Below w.heap.size w ((wr).drewN n)) := Lib.hid (fun n => below_drewN (BW8w.out.trans (HB.out.mono BW8w.out.size)) n)
          have HD1796 : Hid (∀ n, Below w2.heap.size w2 ((wr).drewN n)) := Lib.hid (fun n => below_drewN (BW8w2.out.trans (HB.out.mono BW8w2.out.size)) n)
          have HD1797 : Hid (∀ n, Below w3.heap.size w3 ((wr).drewN n)) := Lib.hid (fun n => below_drewN (BW8w3.out.trans (HB.out.mono BW8w3.out.size)) n)
          have HD1798 : Hid (∀ n, Below w8.heap.size w8 ((wr).drewN n)) := Lib.hid (fun n => below_drewN HB.out n)
          have HE1799 : Hid (∀ n, ((wr).drewN n).heap[w3.heap.size]? = some (.cells #[Value.slice A (bk cv).length c] 33 (0, 0))) := Lib.hid (fun n => HXa.out)
          have HE1800 : Hid (∀ n, ((wr).drewN n).heap[w3.heap.size + 1]? = some (.cells #[Value.slice D (bk dv).length d] 33 (0, 0))) := Lib.hid (fun n => HXb.out)
          have HE1801 : Hid (∀ n, ((wr).drewN n).heap[w8.heap.size]? = some (.cells #[Value.slice As (bk sv).length cs] 33 (0, 0))) := Lib.hid (fun n => HXs.out)
          go_region_held3 (fun W => W.cell? ⟨w3.heap.size + 1, 0, none⟩ = some (Value.slice D (bk dv).length d) ∧ W.cell? ⟨w3.heap.size, 0, none⟩ = some (Value.slice A (bk cv).length c))
            (first | exact ⟨cell_of_row _ (w3.heap.size + 1) 0 _ _ _ HK1816.out, cell_of_row _ (w3.heap.size) 0 _ _ _ HK1815.out⟩ | exact ⟨cell_of_row _ (w3.heap.size + 1) 0 _ _ _ HK1808.out, cell_of_row _ (w3.heap.size) 0 _ _ _ HK1807.out⟩ | exact ⟨cell_of_row _ (w3.heap.size + 1) 0 _ _ _ (HE1800.out _), cell_of_row _ (w3.heap.size) 0 _ _ _ (HE1799.out _)⟩ | assumption)
            ((first
              | (go_at_call 28; have hgd := HB1803; clear hgd; refine (HA1.out _ _ _ (HRa.out _ HB1804.out)).mono ?_; rintro e v1810 ⟨rfl, hb⟩; have HB1811 := Lib.hid (HB1803.out.trans (hb.mono HB1803.out.size)); have HB1812 := Lib.hid (HB1804.out.trans (hb.mono HB1804.out.size)); have HB1813 := Lib.hid (HB1805.out.trans (hb.mono HB1805.out.size)); have HB1814 := Lib.hid (HB1806.out.trans (hb.mono HB1806.out.size)); have HK1815 := Lib.hid ((hb.block (w3.heap.size) ((Array.getElem?_eq_some_iff.1 HK1807.out).1)).trans HK1807.out); have HK1816 := Lib.hid ((hb.block (w3.heap.size + 1) ((Array.getElem?_eq_some_iff.1 HK1808.out).1)).trans HK1808.out); have HK1817 := Lib.hid ((hb.block (w8.heap.size) ((Array.getElem?_eq_some_iff.1 HK1809.out).1)).trans HK1809.out); clear hb)
              | (go_at_call 28; refine (HA2.out _ _ _ (HRb.out _ (HD1797.out _))).mono ?_; rintro e v1802 ⟨rfl, hb⟩; have HB1803 := Lib.hid ((HD1795.out _).trans (hb.mono (HD1795.out _).size)); have HB1804 := Lib.hid ((HD1796.out _).trans (hb.mono (HD1796.out _).size)); have HB1805 := Lib.hid ((HD1797.out _).trans (hb.mono (HD1797.out _).size)); have HB1806 := Lib.hid ((HD1798.out _).trans (hb.mono (HD1798.out _).size)); have HK1807 := Lib.hid ((hb.block (w3.heap.size) ((Array.getElem?_eq_some_iff.1 (HE1799.out _)).1)).trans (HE1799.out _)); have HK1808 := Lib.hid ((hb.block (w3.heap.size + 1) ((Array.getElem?_eq_some_iff.1 (HE1800.out _)).1)).trans (HE1800.out _)); have HK1809 := Lib.hid ((hb.block (w8.heap.size) ((Array.getElem?_eq_some_iff.1 (HE1801.out _)).1)).trans (HE1801.out _)); clear hb)
              | fail))
          go_wp2_with fail
          have HD1818 : Hid (∀ n, Below w.heap.size w ((v1810).drewN n)) := Lib.hid (fun n => below_drewN HB1811.out n)
          have HD1819 : Hid (∀ n, Below w2.heap.size w2 ((v1810).drewN n)) := Lib.hid (fun n => below_drewN HB1812.out n)
          have HD1820 : Hid (∀ n, Below w3.heap.size w3 ((v1810).drewN n)) := Lib.hid (fun n => below_drewN HB1813.out n)
          have HD1821 : Hid (∀ n, Below w8.heap.size w8 ((v1810).drewN n)) := Lib.hid (fun n => below_drewN HB1814.out n)
          have HE1822 : Hid (∀ n, ((v1810).drewN n).heap[w3.heap.size]? = some (.cells #[Value.slice A (bk cv).length c] 33 (0, 0))) := Lib.hid (fun n => HK1815.out)
          have HE1823 : Hid (∀ n, ((v1810).drewN n).heap[w3.heap.size + 1]? = some (.cells #[Value.slice D (bk dv).length d] 33 (0, 0))) := Lib.hid (fun n => HK1816.out)
          have HE1824 : Hid (∀ n, ((v1810).drewN n).heap[w8.heap.size]? = some (.cells #[Value.slice As (bk sv).length cs] 33 (0, 0))) := Lib.hid (fun n => HK1817.out)
          go_region_held3 (fun W => W.cell? ⟨w8.heap.size, 0, none⟩ = some (Value.slice As (bk sv).length cs) ∧ W.cell? ⟨w3.heap.size, 0, none⟩ = some (Value.slice A (bk cv).length c) ∧ W.cell? ⟨w3.heap.size + 1, 0, none⟩ = some (Value.slice D (bk dv).length d))
            (first | exact ⟨cell_of_row _ (w8.heap.size) 0 _ _ _ HK1848.out, cell_of_row _ (w3.heap.size) 0 _ _ _ HK1846.out, cell_of_row _ (w3.heap.size + 1) 0 _ _ _ HK1847.out⟩ | exact ⟨cell_of_row _ (w8.heap.size) 0 _ _ _ HK1840.out, cell_of_row _ (w3.heap.size) 0 _ _ _ HK1838.out, cell_of_row _ (w3.heap.size + 1) 0 _ _ _ HK1839.out⟩ | exact ⟨cell_of_row _ (w8.heap.size) 0 _ _ _ HK1832.out, cell_of_row _ (w3.heap.size) 0 _ _ _ HK1830.out, cell_of_row _ (w3.heap.size + 1) 0 _ _ _ HK1831.out⟩ | exact ⟨cell_of_row _ (w8.heap.size) 0 _ _ _ (HE1824.out _), cell_of_row _ (w3.heap.size) 0 _ _ _ (HE1822.out _), cell_of_row _ (w3.heap.size + 1) 0 _ _ _ (HE1823.out _)⟩ | assumption)
            ((first
              | (go_at_call 28; have hgd := HB1834; clear hgd; refine (HA2.out _ _ _ (HRb.out _ HB1836.out)).mono ?_; rintro e v1841 ⟨rfl, hb⟩; have HB1842 := Lib.hid (HB1834.out.trans (hb.mono HB1834.out.size)); have HB1843 := Lib.hid (HB1835.out.trans (hb.mono HB1835.out.size)); have HB1844 := Lib.hid (HB1836.out.trans (hb.mono HB1836.out.size)); have HB1845 := Lib.hid (HB1837.out.trans (hb.mono HB1837.out.size)); have HK1846 := Lib.hid ((hb.block (w3.heap.size) ((Array.getElem?_eq_some_iff.1 HK1838.out).1)).trans HK1838.out); have HK1847 := Lib.hid ((hb.block (w3.heap.size + 1) ((Array.getElem?_eq_some_iff.1 HK1839.out).1)).trans HK1839.out); have HK1848 := Lib.hid ((hb.block (w8.heap.size) ((Array.getElem?_eq_some_iff.1 HK1840.out).1)).trans HK1840.out); clear hb)
              | (go_at_call 28; have hgd := HB1826; clear hgd; refine (HA1.out _ _ _ (HRa.out _ HB1827.out)).mono ?_; rintro e v1833 ⟨rfl, hb⟩; have HB1834 := Lib.hid (HB1826.out.trans (hb.mono HB1826.out.size)); have HB1835 := Lib.hid (HB1827.out.trans (hb.mono HB1827.out.size)); have HB1836 := Lib.hid (HB1828.out.trans (hb.mono HB1828.out.size)); have HB1837 := Lib.hid (HB1829.out.trans (hb.mono HB1829.out.size)); have HK1838 := Lib.hid ((hb.block (w3.heap.size) ((Array.getElem?_eq_some_iff.1 HK1830.out).1)).trans HK1830.out); have HK1839 := Lib.hid ((hb.block (w3.heap.size + 1) ((Array.getElem?_eq_some_iff.1 HK1831.out).1)).trans HK1831.out); have HK1840 := Lib.hid ((hb.block (w8.heap.size) ((Array.getElem?_eq_some_iff.1 HK1832.out).1)).trans HK1832.out); clear hb)
              | (go_at_call 28; refine (HA3.out _ _ _ (HRs.out _ (HD1821.out _))).mono ?_; rintro e v1825 ⟨rfl, hb⟩; have HB1826 := Lib.hid ((HD1818.out _).trans (hb.mono (HD1818.out _).size)); have HB1827 := Lib.hid ((HD1819.out _).trans (hb.mono (HD1819.out _).size)); have HB1828 := Lib.hid ((HD1820.out _).trans (hb.mono (HD1820.out _).size)); have HB1829 := Lib.hid ((HD1821.out _).trans (hb.mono (HD1821.out _).size)); have HK1830 := Lib.hid ((hb.block (w3.heap.size) ((Array.getElem?_eq_some_iff.1 (HE1822.out _)).1)).trans (HE1822.out _)); have HK1831 := Lib.hid ((hb.block (w3.heap.size + 1) ((Array.getElem?_eq_some_iff.1 (HE1823.out _)).1)).trans (HE1823.out _)); have HK1832 := Lib.hid ((hb.block (w8.heap.size) ((Array.getElem?_eq_some_iff.1 (HE1824.out _)).1)).trans (HE1824.out _)); clear hb)
              | fail))
          go_wp2_with fail
          go_roundw
          case rel => exact ⟨k + 1, by omega, by first | rfl | simp, by go_num, HK1846, HK1847, HK1848, HB1845⟩
          case measure => simp [intOf] <;> omega
        · obtain rfl : k = 305 := by omega
          have kc2295 := cell_of_row _ (w3.heap.size) 0 _ _ _ HXa.out
          try simp at kc2295
          have kc2296 := cell_of_row _ (w3.heap.size + 1) 0 _ _ _ HXb.out
          try simp at kc2296
          have kc2297 := cell_of_row _ (w8.heap.size) 0 _ _ _ HXs.out
          try simp at kc2297
          go_wp2_with fail
          refine (HCk.out _ _ _ (HRs.out _ HB.out)).mono ?_
          rintro e w9 ⟨rfl, hb⟩
          have HB2298 := Lib.hid ((BW8w.out.trans (HB.out.mono BW8w.out.size)).trans (hb.mono (BW8w.out.trans (HB.out.mono BW8w.out.size)).size))
          have HB2299 := Lib.hid ((BW8w2.out.trans (HB.out.mono BW8w2.out.size)).trans (hb.mono (BW8w2.out.trans (HB.out.mono BW8w2.out.size)).size))
          have HB2300 := Lib.hid ((BW8w3.out.trans (HB.out.mono BW8w3.out.size)).trans (hb.mono (BW8w3.out.trans (HB.out.mono BW8w3.out.size)).size))
          have HB2301 := Lib.hid (HB.out.trans (hb.mono HB.out.size))
          have HK2302 := Lib.hid ((hb.block (w3.heap.size) ((Array.getElem?_eq_some_iff.1 HXa.out).1)).trans HXa.out)
          have HK2303 := Lib.hid ((hb.block (w3.heap.size + 1) ((Array.getElem?_eq_some_iff.1 HXb.out).1)).trans HXb.out)
          have HK2304 := Lib.hid ((hb.block (w8.heap.size) ((Array.getElem?_eq_some_iff.1 HXs.out).1)).trans HXs.out)
          clear hb
          clear kc2295 kc2296 kc2297
          go_wp2_with fail
          go_ret
          exact ⟨by first | rfl | simp, HB2298.out⟩
    · have HSu := Lib.hid (fun W A c D d h1 h2 => subtract_bad A c D d cv dv hC hD hcf W h1 h2)
      have HCf := Lib.hid hcf
      clear hcf hC hD
      have kc3265 := cell_of_row _ (w3.heap.size) 0 _ _ _ HK260.out
      try simp at kc3265
      have kc3266 := cell_of_row _ (w3.heap.size + 1) 0 _ _ _ HK261.out
      try simp at kc3266
      have kc3267 := cell_of_row _ (w4.heap.size) 0 _ _ _ HK262.out
      try simp at kc3267
      have kc3268 := cell_of_row _ (w5.heap.size) 0 _ _ _ HK263.out
      try simp at kc3268
      have kc3269 := cell_of_row _ (w6.heap.size) 0 _ _ _ HK264.out
      try simp at kc3269
      go_wp2_with fail
      refine (HSu.out _ _ _ _ _ (HRa.out _ HB255.out) (HRb.out _ HB256.out)).mono ?_
      rintro e w8 ⟨rfl, hb⟩
      have HB3270 := Lib.hid (HB254.out.trans (hb.mono HB254.out.size))
      have HB3271 := Lib.hid (HB255.out.trans (hb.mono HB255.out.size))
      have HB3272 := Lib.hid (HB256.out.trans (hb.mono HB256.out.size))
      have HB3273 := Lib.hid (HB257.out.trans (hb.mono HB257.out.size))
      have HB3274 := Lib.hid (HB258.out.trans (hb.mono HB258.out.size))
      have HB3275 := Lib.hid (HB259.out.trans (hb.mono HB259.out.size))
      have HK3276 := Lib.hid ((hb.block (w3.heap.size) ((Array.getElem?_eq_some_iff.1 HK260.out).1)).trans HK260.out)
      have HK3277 := Lib.hid ((hb.block (w3.heap.size + 1) ((Array.getElem?_eq_some_iff.1 HK261.out).1)).trans HK261.out)
      have HK3278 := Lib.hid ((hb.block (w4.heap.size) ((Array.getElem?_eq_some_iff.1 HK262.out).1)).trans HK262.out)
      have HK3279 := Lib.hid ((hb.block (w5.heap.size) ((Array.getElem?_eq_some_iff.1 HK263.out).1)).trans HK263.out)
      have HK3280 := Lib.hid ((hb.block (w6.heap.size) ((Array.getElem?_eq_some_iff.1 HK264.out).1)).trans HK264.out)
      clear hb
      clear kc3265 kc3266 kc3267 kc3268 kc3269
      have BW8w := HB3270
      have BW8w2 := HB3271
      have BW8w3 := HB3272
      have HB3281 : Hid (Below w8.heap.size w8 w8) := Lib.hid (Below.refl _ _)
      have HB3282 := Lib.hid (HB3270.out.alloc HB3270.out.size (.cells #[Value.slice none 0 0] 33))
      have HB3283 := Lib.hid (HB3271.out.alloc HB3271.out.size (.cells #[Value.slice none 0 0] 33))
      have HB3284 := Lib.hid (HB3272.out.alloc HB3272.out.size (.cells #[Value.slice none 0 0] 33))
      have HB3285 := Lib.hid (HB3273.out.alloc HB3273.out.size (.cells #[Value.slice none 0 0] 33))
      have HB3286 := Lib.hid (HB3274.out.alloc HB3274.out.size (.cells #[Value.slice none 0 0] 33))
      have HB3287 := Lib.hid (HB3275.out.alloc HB3275.out.size (.cells #[Value.slice none 0 0] 33))
      have HB3288 := Lib.hid (HB3281.out.alloc HB3281.out.size (.cells #[Value.slice none 0 0] 33))
      have HK3289 := Lib.hid ((Below.heap_alloc w8 (.cells #[Value.slice none 0 0] 33) (w3.heap.size) ((Array.getElem?_eq_some_iff.1 HK3276.out).1)).trans HK3276.out)
      have HK3290 := Lib.hid ((Below.heap_alloc w8 (.cells #[Value.slice none 0 0] 33) (w3.heap.size + 1) ((Array.getElem?_eq_some_iff.1 HK3277.out).1)).trans HK3277.out)
      have HK3291 := Lib.hid ((Below.heap_alloc w8 (.cells #[Value.slice none 0 0] 33) (w4.heap.size) ((Array.getElem?_eq_some_iff.1 HK3278.out).1)).trans HK3278.out)
      have HK3292 := Lib.hid ((Below.heap_alloc w8 (.cells #[Value.slice none 0 0] 33) (w5.heap.size) ((Array.getElem?_eq_some_iff.1 HK3279.out).1)).trans HK3279.out)
      have HK3293 := Lib.hid ((Below.heap_alloc w8 (.cells #[Value.slice none 0 0] 33) (w6.heap.size) ((Array.getElem?_eq_some_iff.1 HK3280.out).1)).trans HK3280.out)
      have HK3294 := Lib.hid (Deep.blk_alloc_new w8 (.cells #[Value.slice none 0 0] 33))
      go_wp2_with fail
      go_loopw [15, 16] (fun cv' iv wr => ∃ (k : Nat) (cb : Bool), k ≤ 305 ∧ cv' = .bool cb ∧ iv = .int .i64 (k : Int) ∧ Hid (wr.heap[w3.heap.size]? = some (.cells #[Value.slice A (bk cv).length c] 33 (0, 0))) ∧ Hid (wr.heap[w3.heap.size + 1]? = some (.cells #[Value.slice D (bk dv).length d] 33 (0, 0))) ∧ Hid (wr.heap[w8.heap.size]? = some (.cells #[Value.slice none 0 0] 33 (0, 0))) ∧ Hid (Below w8.heap.size w8 wr) ∧ Hid (cb = true ↔ ∃ i, i < k ∧ cv.getD i 0 < dv.getD i 0)) (fun _ iv _ => 305 - (intOf iv).toNat)
      case atStart => exact ⟨0, false, Nat.zero_le _, rfl, rfl, HK3289, HK3290, HK3294, HB3288, Lib.hid ⟨fun h => (by cases h), fun ⟨i, hi, _⟩ => absurd hi (by omega)⟩⟩
      case round =>
        obtain ⟨k, cb, hk, rfl, rfl, HXa, HXb, HXs, HB, HI⟩ := hrel
        have hk0 : (0 : Int) ≤ (k : Int) := by omega
        by_cases hlt : k < 305
        · have hkI : (k : Int) < 305 := by omega
          have hw1 : IntKind.i64.wrap ((k : Int) + 1) = (k : Int) + 1 := by simp only [IntKind.wrap_i64]; omega
          have hb1 := HBc.out k
          have hb2 := HBe.out k
          have HA1 := Lib.hid (fun W A c h => HAa.out W A c k hlt h)
          have HA2 := Lib.hid (fun W A c h => HAb.out W A c k hlt h)
          obtain ⟨y, hy⟩ : ∃ y, y = cv.getD k 0 := ⟨_, rfl⟩
          obtain ⟨x, hx⟩ : ∃ x, x = dv.getD k 0 := ⟨_, rfl⟩
          rw [← hy] at hb1 HA1
          rw [← hx] at hb2 HA2
          have HY := Lib.hid hy
          have HX := Lib.hid hx
          clear hy hx
          have HNx : ∀ t : Bool, (t = true ↔ y < x) → Hid ((cb || t) = true ↔ ∃ i, i < k + 1 ∧ cv.getD i 0 < dv.getD i 0) := fun t ht => Lib.hid (by
            rw [Bool.or_eq_true, HI.out, ht, HY.out, HX.out]
            constructor
            · rintro (⟨i, hi, h⟩ | h)
              · exact ⟨i, by omega, h⟩
              · exact ⟨k, by omega, h⟩
            · rintro ⟨i, hi, h⟩
              by_cases e : i = k
              · subst e; exact .inr h
              · exact .inl ⟨i, by omega, h⟩)
          cases cb
          · by_cases hyx : y < x
            · have hd1 : decide (y < x) = true := by simpa using hyx
              have HN2 := HNx true (by simp [hyx])
              go_wp2_with fail
              have HD3795 : Hid (∀ n, Below w.heap.size w ((wr).drewN n)) := Lib.hid (fun n => below_drewN (BW8w.out.trans (HB.out.mono BW8w.out.size)) n)
              have HD3796 : Hid (∀ n, Below w2.heap.size w2 ((wr).drewN n)) := Lib.hid (fun n => below_drewN (BW8w2.out.trans (HB.out.mono BW8w2.out.size)) n)
              have HD3797 : Hid (∀ n, Below w3.heap.size w3 ((wr).drewN n)) := Lib.hid (fun n => below_drewN (BW8w3.out.trans (HB.out.mono BW8w3.out.size)) n)
              have HD3798 : Hid (∀ n, Below w8.heap.size w8 ((wr).drewN n)) := Lib.hid (fun n => below_drewN HB.out n)
              have HE3799 : Hid (∀ n, ((wr).drewN n).heap[w3.heap.size]? = some (.cells #[Value.slice A (bk cv).length c] 33 (0, 0))) := Lib.hid (fun n => HXa.out)
              have HE3800 : Hid (∀ n, ((wr).drewN n).heap[w3.heap.size + 1]? = some (.cells #[Value.slice D (bk dv).length d] 33 (0, 0))) := Lib.hid (fun n => HXb.out)
              have HE3801 : Hid (∀ n, ((wr).drewN n).heap[w8.heap.size]? = some (.cells #[Value.slice none 0 0] 33 (0, 0))) := Lib.hid (fun n => HXs.out)
              go_region_held3 (fun W => W.cell? ⟨w3.heap.size + 1, 0, none⟩ = some (Value.slice D (bk dv).length d) ∧ W.cell? ⟨w3.heap.size, 0, none⟩ = some (Value.slice A (bk cv).length c))
                (first | exact ⟨cell_of_row _ (w3.heap.size + 1) 0 _ _ _ HK3816.out, cell_of_row _ (w3.heap.size) 0 _ _ _ HK3815.out⟩ | exact ⟨cell_of_row _ (w3.heap.size + 1) 0 _ _ _ HK3808.out, cell_of_row _ (w3.heap.size) 0 _ _ _ HK3807.out⟩ | exact ⟨cell_of_row _ (w3.heap.size + 1) 0 _ _ _ (HE3800.out _), cell_of_row _ (w3.heap.size) 0 _ _ _ (HE3799.out _)⟩ | assumption)
                ((first
                  | (go_at_call 28; have hgd := HB3803; clear hgd; refine (HA1.out _ _ _ (HRa.out _ HB3804.out)).mono ?_; rintro e v3810 ⟨rfl, hb⟩; have HB3811 := Lib.hid (HB3803.out.trans (hb.mono HB3803.out.size)); have HB3812 := Lib.hid (HB3804.out.trans (hb.mono HB3804.out.size)); have HB3813 := Lib.hid (HB3805.out.trans (hb.mono HB3805.out.size)); have HB3814 := Lib.hid (HB3806.out.trans (hb.mono HB3806.out.size)); have HK3815 := Lib.hid ((hb.block (w3.heap.size) ((Array.getElem?_eq_some_iff.1 HK3807.out).1)).trans HK3807.out); have HK3816 := Lib.hid ((hb.block (w3.heap.size + 1) ((Array.getElem?_eq_some_iff.1 HK3808.out).1)).trans HK3808.out); have HK3817 := Lib.hid ((hb.block (w8.heap.size) ((Array.getElem?_eq_some_iff.1 HK3809.out).1)).trans HK3809.out); clear hb)
                  | (go_at_call 28; refine (HA2.out _ _ _ (HRb.out _ (HD3797.out _))).mono ?_; rintro e v3802 ⟨rfl, hb⟩; have HB3803 := Lib.hid ((HD3795.out _).trans (hb.mono (HD3795.out _).size)); have HB3804 := Lib.hid ((HD3796.out _).trans (hb.mono (HD3796.out _).size)); have HB3805 := Lib.hid ((HD3797.out _).trans (hb.mono (HD3797.out _).size)); have HB3806 := Lib.hid ((HD3798.out _).trans (hb.mono (HD3798.out _).size)); have HK3807 := Lib.hid ((hb.block (w3.heap.size) ((Array.getElem?_eq_some_iff.1 (HE3799.out _)).1)).trans (HE3799.out _)); have HK3808 := Lib.hid ((hb.block (w3.heap.size + 1) ((Array.getElem?_eq_some_iff.1 (HE3800.out _)).1)).trans (HE3800.out _)); have HK3809 := Lib.hid ((hb.block (w8.heap.size) ((Array.getElem?_eq_some_iff.1 (HE3801.out _)).1)).trans (HE3801.out _)); clear hb)
                  | fail))
              go_wp2_with fail
              go_quiet (fail)
              go_wp2_with fail
              go_roundw
              case rel => exact ⟨k + 1, true, by omega, by first | rfl | simp, by go_num, HK3815, HK3816, HK3817, Lib.hid (by first | exact HB3814.out | exact below_drewN HB3814.out _), HN2⟩
              case measure => simp [intOf] <;> omega
            · have hd1 : decide (y < x) = false := by simpa using hyx
              have HN2 := HNx false (by simp [hyx])
              go_wp2_with fail
              have HD4095 : Hid (∀ n, Below w.heap.size w ((wr).drewN n)) := Lib.hid (fun n => below_drewN (BW8w.out.trans (HB.out.mono BW8w.out.size)) n)
              have HD4096 : Hid (∀ n, Below w2.heap.size w2 ((wr).drewN n)) := Lib.hid (fun n => below_drewN (BW8w2.out.trans (HB.out.mono BW8w2.out.size)) n)
              have HD4097 : Hid (∀ n, Below w3.heap.size w3 ((wr).drewN n)) := Lib.hid (fun n => below_drewN (BW8w3.out.trans (HB.out.mono BW8w3.out.size)) n)
              have HD4098 : Hid (∀ n, Below w8.heap.size w8 ((wr).drewN n)) := Lib.hid (fun n => below_drewN HB.out n)
              have HE4099 : Hid (∀ n, ((wr).drewN n).heap[w3.heap.size]? = some (.cells #[Value.slice A (bk cv).length c] 33 (0, 0))) := Lib.hid (fun n => HXa.out)
              have HE4100 : Hid (∀ n, ((wr).drewN n).heap[w3.heap.size + 1]? = some (.cells #[Value.slice D (bk dv).length d] 33 (0, 0))) := Lib.hid (fun n => HXb.out)
              have HE4101 : Hid (∀ n, ((wr).drewN n).heap[w8.heap.size]? = some (.cells #[Value.slice none 0 0] 33 (0, 0))) := Lib.hid (fun n => HXs.out)
              go_region_held3 (fun W => W.cell? ⟨w3.heap.size + 1, 0, none⟩ = some (Value.slice D (bk dv).length d) ∧ W.cell? ⟨w3.heap.size, 0, none⟩ = some (Value.slice A (bk cv).length c))
                (first | exact ⟨cell_of_row _ (w3.heap.size + 1) 0 _ _ _ HK4116.out, cell_of_row _ (w3.heap.size) 0 _ _ _ HK4115.out⟩ | exact ⟨cell_of_row _ (w3.heap.size + 1) 0 _ _ _ HK4108.out, cell_of_row _ (w3.heap.size) 0 _ _ _ HK4107.out⟩ | exact ⟨cell_of_row _ (w3.heap.size + 1) 0 _ _ _ (HE4100.out _), cell_of_row _ (w3.heap.size) 0 _ _ _ (HE4099.out _)⟩ | assumption)
                ((first
                  | (go_at_call 28; have hgd := HB4103; clear hgd; refine (HA1.out _ _ _ (HRa.out _ HB4104.out)).mono ?_; rintro e v4110 ⟨rfl, hb⟩; have HB4111 := Lib.hid (HB4103.out.trans (hb.mono HB4103.out.size)); have HB4112 := Lib.hid (HB4104.out.trans (hb.mono HB4104.out.size)); have HB4113 := Lib.hid (HB4105.out.trans (hb.mono HB4105.out.size)); have HB4114 := Lib.hid (HB4106.out.trans (hb.mono HB4106.out.size)); have HK4115 := Lib.hid ((hb.block (w3.heap.size) ((Array.getElem?_eq_some_iff.1 HK4107.out).1)).trans HK4107.out); have HK4116 := Lib.hid ((hb.block (w3.heap.size + 1) ((Array.getElem?_eq_some_iff.1 HK4108.out).1)).trans HK4108.out); have HK4117 := Lib.hid ((hb.block (w8.heap.size) ((Array.getElem?_eq_some_iff.1 HK4109.out).1)).trans HK4109.out); clear hb)
                  | (go_at_call 28; refine (HA2.out _ _ _ (HRb.out _ (HD4097.out _))).mono ?_; rintro e v4102 ⟨rfl, hb⟩; have HB4103 := Lib.hid ((HD4095.out _).trans (hb.mono (HD4095.out _).size)); have HB4104 := Lib.hid ((HD4096.out _).trans (hb.mono (HD4096.out _).size)); have HB4105 := Lib.hid ((HD4097.out _).trans (hb.mono (HD4097.out _).size)); have HB4106 := Lib.hid ((HD4098.out _).trans (hb.mono (HD4098.out _).size)); have HK4107 := Lib.hid ((hb.block (w3.heap.size) ((Array.getElem?_eq_some_iff.1 (HE4099.out _)).1)).trans (HE4099.out _)); have HK4108 := Lib.hid ((hb.block (w3.heap.size + 1) ((Array.getElem?_eq_some_iff.1 (HE4100.out _)).1)).trans (HE4100.out _)); have HK4109 := Lib.hid ((hb.block (w8.heap.size) ((Array.getElem?_eq_some_iff.1 (HE4101.out _)).1)).trans (HE4101.out _)); clear hb)
                  | fail))
              go_wp2_with fail
              go_quiet (fail)
              go_wp2_with fail
              go_roundw
              case rel => exact ⟨k + 1, false, by omega, by first | rfl | simp, by go_num, HK4115, HK4116, HK4117, Lib.hid (by first | exact HB4114.out | exact below_drewN HB4114.out _), HN2⟩
              case measure => simp [intOf] <;> omega
          · have HN2 : Hid (true = true ↔ ∃ i, i < k + 1 ∧ cv.getD i 0 < dv.getD i 0) := Lib.hid ⟨fun _ => (HNx (decide (y < x)) (by simp)).out.1 (by simp), fun _ => rfl⟩
            go_wp2_with fail
            go_quiet (fail)
            go_wp2_with fail
            go_quiet (fail)
            go_wp2_with fail
            go_roundw
            case rel => exact ⟨k + 1, true, by omega, by first | rfl | simp, by go_num, HXa, HXb, HXs, Lib.hid (by first | exact below_drewN HB.out _ | exact below_drewN (below_drewN HB.out _) _), Lib.hid ⟨fun _ => HN2.out.1 (by simp), fun _ => rfl⟩⟩
            case measure => simp [intOf] <;> omega
        · obtain rfl : k = 305 := by omega
          obtain rfl : cb = true := HI.out.2 HCf.out
          have kc4495 := cell_of_row _ (w3.heap.size) 0 _ _ _ HXa.out
          try simp at kc4495
          have kc4496 := cell_of_row _ (w3.heap.size + 1) 0 _ _ _ HXb.out
          try simp at kc4496
          have kc4497 := cell_of_row _ (w8.heap.size) 0 _ _ _ HXs.out
          try simp at kc4497
          go_wp2_with fail
          go_ret
          exact ⟨by first | rfl | simp, (BW8w.out.trans (HB.out.mono BW8w.out.size))⟩
  · have hl2 : ((((bk cv).length : Nat) : Int) == (((bk dv).length : Nat) : Int)) = false := by rw [beq_eq_false_iff_ne]; omega
    have hl4 : ¬ (((bk cv).length : Nat) : Int) = (((bk dv).length : Nat) : Int) := by omega
    have hl5 : ((bk cv).length == (bk dv).length) = false := by rw [beq_eq_false_iff_ne]; exact hle
    have hl6 : decide ((bk cv).length = (bk dv).length) = false := by simpa using hle
    subst hff
    have HD5074 : Hid (∀ n, Below w.heap.size w (((w6.alloc (.cells #[Value.slice Az (bk dv).length cz] 33))).drewN n)) := Lib.hid (fun n => below_drewN HB58.out n)
    have HD5075 : Hid (∀ n, Below w2.heap.size w2 (((w6.alloc (.cells #[Value.slice Az (bk dv).length cz] 33))).drewN n)) := Lib.hid (fun n => below_drewN HB59.out n)
    have HD5076 : Hid (∀ n, Below w3.heap.size w3 (((w6.alloc (.cells #[Value.slice Az (bk dv).length cz] 33))).drewN n)) := Lib.hid (fun n => below_drewN HB60.out n)
    have HD5077 : Hid (∀ n, Below w4.heap.size w4 (((w6.alloc (.cells #[Value.slice Az (bk dv).length cz] 33))).drewN n)) := Lib.hid (fun n => below_drewN HB61.out n)
    have HD5078 : Hid (∀ n, Below w5.heap.size w5 (((w6.alloc (.cells #[Value.slice Az (bk dv).length cz] 33))).drewN n)) := Lib.hid (fun n => below_drewN HB62.out n)
    have HD5079 : Hid (∀ n, Below w6.heap.size w6 (((w6.alloc (.cells #[Value.slice Az (bk dv).length cz] 33))).drewN n)) := Lib.hid (fun n => below_drewN HB63.out n)
    have HE5080 : Hid (∀ n, (((w6.alloc (.cells #[Value.slice Az (bk dv).length cz] 33))).drewN n).heap[w3.heap.size]? = some (.cells #[Value.slice A (bk cv).length c] 33 (0, 0))) := Lib.hid (fun n => HK64.out)
    have HE5081 : Hid (∀ n, (((w6.alloc (.cells #[Value.slice Az (bk dv).length cz] 33))).drewN n).heap[w3.heap.size + 1]? = some (.cells #[Value.slice D (bk dv).length d] 33 (0, 0))) := Lib.hid (fun n => HK65.out)
    have HE5082 : Hid (∀ n, (((w6.alloc (.cells #[Value.slice Az (bk dv).length cz] 33))).drewN n).heap[w4.heap.size]? = some (.cells #[Value.slice Ax (bk mv).length cx] 33 (0, 0))) := Lib.hid (fun n => HK66.out)
    have HE5083 : Hid (∀ n, (((w6.alloc (.cells #[Value.slice Az (bk dv).length cz] 33))).drewN n).heap[w5.heap.size]? = some (.cells #[Value.slice Ay (bk mv).length cy] 33 (0, 0))) := Lib.hid (fun n => HK67.out)
    have HE5084 : Hid (∀ n, (((w6.alloc (.cells #[Value.slice Az (bk dv).length cz] 33))).drewN n).heap[w6.heap.size]? = some (.cells #[Value.slice Az (bk dv).length cz] 33 (0, 0))) := Lib.hid (fun n => HK68.out)
    have sent0 : True := trivial
    have sent1 : True := trivial
    have sent2 : True := trivial
    have sent3 : True := trivial
    have sent4 : True := trivial
    have sent5 : True := trivial
    have sent6 : True := trivial
    have sent7 : True := trivial
    have sent8 : True := trivial
    have sent9 : True := trivial
    have sent10 : True := trivial
    have sent11 : True := trivial
    refine wp_region_held_drew (S := fun W => W.cell? ⟨w3.heap.size, 0, none⟩ = some (Value.slice A (bk cv).length c) ∧ W.cell? ⟨w3.heap.size + 1, 0, none⟩ = some (Value.slice D (bk dv).length d) ∧ W.cell? ⟨w4.heap.size, 0, none⟩ = some (Value.slice Ax (bk mv).length cx) ∧ W.cell? ⟨w5.heap.size, 0, none⟩ = some (Value.slice Ay (bk mv).length cy) ∧ W.cell? ⟨w6.heap.size, 0, none⟩ = some (Value.slice Az (bk dv).length cz)) (by kernel_rfl) ?_ (fun hHeld => ?_)
    · (try dsimp only); exact ⟨cell_of_row _ (w3.heap.size) 0 _ _ _ (HE5080.out _), cell_of_row _ (w3.heap.size + 1) 0 _ _ _ (HE5081.out _), cell_of_row _ (w4.heap.size) 0 _ _ _ (HE5082.out _), cell_of_row _ (w5.heap.size) 0 _ _ _ (HE5083.out _), cell_of_row _ (w6.heap.size) 0 _ _ _ (HE5084.out _)⟩
    refine wpAnyH_take (i := 0) (v := ?_) rfl (by kernel_rfl) (by kernel_rfl) (by kernel_rfl) (fun _ _ _ h => h) (Or.inl ⟨by rfl, ?_⟩) (by assumption) ?_
    rotate_left 1
    · (intro w' hSw; (try dsimp only at hSw); go_simp; (try (with_reducible rfl)))
    try simp only [List.getElem_toArray, List.getElem_cons_zero, List.getElem_cons_succ, Act.put, List.setIfInBounds_toArray, List.set_cons_zero, List.set_cons_succ]
    refine wpAnyH_take (i := 1) (v := ?_) rfl (by kernel_rfl) (by kernel_rfl) (by kernel_rfl) (fun _ _ _ h => h) (Or.inl ⟨by rfl, ?_⟩) (by assumption) ?_
    rotate_left 1
    · (intro w' hSw; (try dsimp only at hSw); go_simp; (try (with_reducible rfl)))
    try simp only [List.getElem_toArray, List.getElem_cons_zero, List.getElem_cons_succ, Act.put, List.setIfInBounds_toArray, List.set_cons_zero, List.set_cons_succ]
    refine wpAnyH_take (i := 2) (v := ?_) rfl (by kernel_rfl) (by kernel_rfl) (by kernel_rfl) (fun _ _ _ h => h) (Or.inl ⟨by rfl, ?_⟩) (by assumption) ?_
    rotate_left 1
    · (intro w' hSw; (try dsimp only at hSw); go_simp; (try (with_reducible rfl)))
    try simp only [List.getElem_toArray, List.getElem_cons_zero, List.getElem_cons_succ, Act.put, List.setIfInBounds_toArray, List.set_cons_zero, List.set_cons_succ]
    refine wpAnyH_take (i := 3) (v := ?_) rfl (by kernel_rfl) (by kernel_rfl) (by kernel_rfl) (fun _ _ _ h => h) (Or.inl ⟨by rfl, ?_⟩) (by assumption) ?_
    rotate_left 1
    · (intro w' hSw; (try dsimp only at hSw); go_simp; (try (with_reducible rfl)))
    try simp only [List.getElem_toArray, List.getElem_cons_zero, List.getElem_cons_succ, Act.put, List.setIfInBounds_toArray, List.set_cons_zero, List.set_cons_succ]
    refine wpAnyH_take (i := 4) (v := ?_) rfl (by kernel_rfl) (by kernel_rfl) (by kernel_rfl) (fun _ _ _ h => h) (Or.inl ⟨by rfl, ?_⟩) (by assumption) ?_
    rotate_left 1
    · (intro w' hSw; (try dsimp only at hSw); go_simp; (try (with_reducible rfl)))
    try simp only [List.getElem_toArray, List.getElem_cons_zero, List.getElem_cons_succ, Act.put, List.setIfInBounds_toArray, List.set_cons_zero, List.set_cons_succ]
    refine wpAnyH_take (i := 5) (v := ?_) rfl (by kernel_rfl) (by kernel_rfl) (by kernel_rfl) (fun _ _ _ h => h) (Or.inl ⟨by rfl, ?_⟩) (by assumption) ?_
    rotate_left 1
    · (intro w' hSw; (try dsimp only at hSw); go_simp; (try (with_reducible rfl)))
    try simp only [List.getElem_toArray, List.getElem_cons_zero, List.getElem_cons_succ, Act.put, List.setIfInBounds_toArray, List.set_cons_zero, List.set_cons_succ]
    refine wpAnyH_take (i := 6) (v := ?_) rfl (by kernel_rfl) (by kernel_rfl) (by kernel_rfl) (fun _ _ _ h => h) (Or.inl ⟨by rfl, ?_⟩) (by assumption) ?_
    rotate_left 1
    · (intro w' hSw; (try dsimp only at hSw); go_simp; (try (with_reducible rfl)))
    try simp only [List.getElem_toArray, List.getElem_cons_zero, List.getElem_cons_succ, Act.put, List.setIfInBounds_toArray, List.set_cons_zero, List.set_cons_succ]
    refine wpAnyH_take (i := 7) (v := ?_) rfl (by kernel_rfl) (by kernel_rfl) (by kernel_rfl) (fun _ _ _ h => h) (Or.inl ⟨by rfl, ?_⟩) (by assumption) ?_
    rotate_left 1
    · (intro w' hSw; (try dsimp only at hSw); go_simp; (try (with_reducible rfl)))
    try simp only [List.getElem_toArray, List.getElem_cons_zero, List.getElem_cons_succ, Act.put, List.setIfInBounds_toArray, List.set_cons_zero, List.set_cons_succ]
    refine wpAnyH_take (i := 8) (v := ?_) rfl (by kernel_rfl) (by kernel_rfl) (by kernel_rfl) (fun _ _ _ h => h) (Or.inl ⟨by rfl, ?_⟩) (by assumption) ?_
    rotate_left 1
    · (intro w' hSw; (try dsimp only at hSw); go_simp; (try (with_reducible rfl)))
    try simp only [List.getElem_toArray, List.getElem_cons_zero, List.getElem_cons_succ, Act.put, List.setIfInBounds_toArray, List.set_cons_zero, List.set_cons_succ]
    refine wpAnyH_take (i := 9) (v := ?_) rfl (by kernel_rfl) (by kernel_rfl) (by kernel_rfl) (fun _ _ _ h => h) (Or.inl ⟨by rfl, ?_⟩) (by assumption) ?_
    rotate_left 1
    · (intro w' hSw; (try dsimp only at hSw); go_simp; (try (with_reducible rfl)))
    try simp only [List.getElem_toArray, List.getElem_cons_zero, List.getElem_cons_succ, Act.put, List.setIfInBounds_toArray, List.set_cons_zero, List.set_cons_succ]
    refine wpAnyH_take (i := 10) (v := ?_) rfl (by kernel_rfl) (by kernel_rfl) (by kernel_rfl) (fun _ _ _ h => h) (Or.inl ⟨by rfl, ?_⟩) (by assumption) ?_
    rotate_left 1
    · (intro w' hSw; (try dsimp only at hSw); go_simp; (try (with_reducible rfl)))
    try simp only [List.getElem_toArray, List.getElem_cons_zero, List.getElem_cons_succ, Act.put, List.setIfInBounds_toArray, List.set_cons_zero, List.set_cons_succ]
    refine wpAnyH_take (i := 11) (v := ?_) rfl (by kernel_rfl) (by kernel_rfl) (by kernel_rfl) (fun _ _ _ h => h) (Or.inl ⟨by rfl, ?_⟩) (by assumption) ?_
    rotate_left 1
    · (intro w' hSw; (try dsimp only at hSw); go_simp; (try (with_reducible rfl)))
    try simp only [List.getElem_toArray, List.getElem_cons_zero, List.getElem_cons_succ, Act.put, List.setIfInBounds_toArray, List.set_cons_zero, List.set_cons_succ]
    refine wpAnyH_take (i := 12) (v := ?_) rfl (by kernel_rfl) (by kernel_rfl) (by kernel_rfl) (fun _ _ _ h => h) (Or.inl ⟨by rfl, ?_⟩) (by assumption) ?_
    rotate_left 1
    · (intro w' hSw; (try dsimp only at hSw); go_simp; (try (with_reducible rfl)))
    try simp only [List.getElem_toArray, List.getElem_cons_zero, List.getElem_cons_succ, Act.put, List.setIfInBounds_toArray, List.set_cons_zero, List.set_cons_succ]
    refine wpAnyH_take (i := 14) (v := ?_) rfl (by kernel_rfl) (by kernel_rfl) (by kernel_rfl) (fun _ _ _ h => h) (Or.inl ⟨by rfl, ?_⟩) (by assumption) ?_
    rotate_left 1
    · (intro w' hSw; (try dsimp only at hSw); go_simp; (try (with_reducible rfl)))
    try simp only [List.getElem_toArray, List.getElem_cons_zero, List.getElem_cons_succ, Act.put, List.setIfInBounds_toArray, List.set_cons_zero, List.set_cons_succ]
    refine wpAnyH_ready (rs := [13]) (by kernel_rfl) (by simp) ?_
    refine AllReadyH.cons rfl (fun K hK => ?_) AllReadyH.nil
    go_simp
    (clear sent0; go_at_call 27; refine (HVs.out _ (HR.out _ (HD5074.out _))).mono ?_; rintro e v5085 ⟨⟨y, rfl, ho⟩, hb⟩; have HB5086 := Lib.hid ((HD5074.out _).trans (hb.mono (HD5074.out _).size)); have HB5087 := Lib.hid ((HD5075.out _).trans (hb.mono (HD5075.out _).size)); have HB5088 := Lib.hid ((HD5076.out _).trans (hb.mono (HD5076.out _).size)); have HB5089 := Lib.hid ((HD5077.out _).trans (hb.mono (HD5077.out _).size)); have HB5090 := Lib.hid ((HD5078.out _).trans (hb.mono (HD5078.out _).size)); have HB5091 := Lib.hid ((HD5079.out _).trans (hb.mono (HD5079.out _).size)); have HK5092 := Lib.hid ((hb.block (w3.heap.size) ((Array.getElem?_eq_some_iff.1 (HE5080.out _)).1)).trans (HE5080.out _)); have HK5093 := Lib.hid ((hb.block (w3.heap.size + 1) ((Array.getElem?_eq_some_iff.1 (HE5081.out _)).1)).trans (HE5081.out _)); have HK5094 := Lib.hid ((hb.block (w4.heap.size) ((Array.getElem?_eq_some_iff.1 (HE5082.out _)).1)).trans (HE5082.out _)); have HK5095 := Lib.hid ((hb.block (w5.heap.size) ((Array.getElem?_eq_some_iff.1 (HE5083.out _)).1)).trans (HE5083.out _)); have HK5096 := Lib.hid ((hb.block (w6.heap.size) ((Array.getElem?_eq_some_iff.1 (HE5084.out _)).1)).trans (HE5084.out _)); have HOw0 := Lib.hid (own_base (B' := w6.heap.size + 1) ho (by simp)); clear ho; clear hb)
    try go_wp2_with fail
    refine hK.out _ _ ?_ (fun hHeld => ?_)
    · (try dsimp only); exact ⟨cell_of_row _ (w3.heap.size) 0 _ _ _ HK5092.out, cell_of_row _ (w3.heap.size + 1) 0 _ _ _ HK5093.out, cell_of_row _ (w4.heap.size) 0 _ _ _ HK5094.out, cell_of_row _ (w5.heap.size) 0 _ _ _ HK5095.out, cell_of_row _ (w6.heap.size) 0 _ _ _ HK5096.out⟩
    clear hK K
    try simp only [List.getElem_toArray, List.getElem_cons_zero, List.getElem_cons_succ, Act.put, List.setIfInBounds_toArray, List.set_cons_zero, List.set_cons_succ]
    refine wpAnyH_ready (rs := [15]) (by kernel_rfl) (by simp) ?_
    refine AllReadyH.cons rfl (fun K hK => ?_) AllReadyH.nil
    go_simp
    (clear sent1; go_at_call 27; refine (HVt.out _ (HQ.out _ HB5086.out)).mono ?_; rintro e v5097 ⟨⟨y, rfl, ho⟩, hb⟩; have HB5098 := Lib.hid (HB5086.out.trans (hb.mono HB5086.out.size)); have HB5099 := Lib.hid (HB5087.out.trans (hb.mono HB5087.out.size)); have HB5100 := Lib.hid (HB5088.out.trans (hb.mono HB5088.out.size)); have HB5101 := Lib.hid (HB5089.out.trans (hb.mono HB5089.out.size)); have HB5102 := Lib.hid (HB5090.out.trans (hb.mono HB5090.out.size)); have HB5103 := Lib.hid (HB5091.out.trans (hb.mono HB5091.out.size)); have HK5104 := Lib.hid ((hb.block (w3.heap.size) ((Array.getElem?_eq_some_iff.1 HK5092.out).1)).trans HK5092.out); have HK5105 := Lib.hid ((hb.block (w3.heap.size + 1) ((Array.getElem?_eq_some_iff.1 HK5093.out).1)).trans HK5093.out); have HK5106 := Lib.hid ((hb.block (w4.heap.size) ((Array.getElem?_eq_some_iff.1 HK5094.out).1)).trans HK5094.out); have HK5107 := Lib.hid ((hb.block (w5.heap.size) ((Array.getElem?_eq_some_iff.1 HK5095.out).1)).trans HK5095.out); have HK5108 := Lib.hid ((hb.block (w6.heap.size) ((Array.getElem?_eq_some_iff.1 HK5096.out).1)).trans HK5096.out); have HOw := Lib.hid (own_below HOw0.out hb); obtain ⟨E, ec, rfl, _, hrd⟩ := out_own ho; have HNn := Lib.hid (own_none ho); have HNc := Lib.hid (rd_news hrd); clear ho hrd; clear hb)
    try go_wp2_with fail
    refine hK.out _ _ ?_ (fun hHeld => ?_)
    · (try dsimp only); exact ⟨cell_of_row _ (w3.heap.size) 0 _ _ _ HK5104.out, cell_of_row _ (w3.heap.size + 1) 0 _ _ _ HK5105.out, cell_of_row _ (w4.heap.size) 0 _ _ _ HK5106.out, cell_of_row _ (w5.heap.size) 0 _ _ _ HK5107.out, cell_of_row _ (w6.heap.size) 0 _ _ _ HK5108.out⟩
    clear hK K
    try simp only [List.getElem_toArray, List.getElem_cons_zero, List.getElem_cons_succ, Act.put, List.setIfInBounds_toArray, List.set_cons_zero, List.set_cons_succ]
    refine wpAnyH_ready (rs := [16]) (by kernel_rfl) (by simp) ?_
    refine AllReadyH.cons rfl (fun K hK => ?_) AllReadyH.nil
    (clear sent2; have hgx := HOw; clear hgx; refine step_append_mw (by rfl) (.tmp 54) (.tmp 56) 36 rfl (w6.heap.size + 1) 3 i0 _ 8 Try.underlying36 Hi0.out Hz0.out Hz1.out Hz2.out rfl _ M.length (M.map (Value.int .i64)) rfl HOw.out _ N.length _ rfl (N.map (Value.int .i64)) (by simp) HNn.out HNc.out (ints_one N) (by omega) (by omega) ((Array.getElem?_eq_some_iff.1 HK5108.out).1) ?_; intro ra v5109 hown hg; have HB5110 := Lib.hid (below_grownBy HB5098.out HOw.out hg (by have := HLb.out; omega) (Nat.le_refl _)); have HB5111 := Lib.hid (below_grownBy HB5099.out HOw.out hg (by have := HLb.out; omega) (Nat.le_refl _)); have HB5112 := Lib.hid (below_grownBy HB5100.out HOw.out hg (by have := HLb.out; omega) (Nat.le_refl _)); have HB5113 := Lib.hid (below_grownBy HB5101.out HOw.out hg (by have := HLb.out; omega) (Nat.le_refl _)); have HB5114 := Lib.hid (below_grownBy HB5102.out HOw.out hg (by have := HLb.out; omega) (Nat.le_refl _)); have HB5115 := Lib.hid (below_grownBy HB5103.out HOw.out hg (by have := HLb.out; omega) (Nat.le_refl _)); have HK5116 := Lib.hid ((hg.block (w3.heap.size) ((Array.getElem?_eq_some_iff.1 HK5104.out).1) (fun e => by have := (HOw.out.lt _ e.symm).1; have := HLb.out; omega)).trans HK5104.out); have HK5117 := Lib.hid ((hg.block (w3.heap.size + 1) ((Array.getElem?_eq_some_iff.1 HK5105.out).1) (fun e => by have := (HOw.out.lt _ e.symm).1; have := HLb.out; omega)).trans HK5105.out); have HK5118 := Lib.hid ((hg.block (w4.heap.size) ((Array.getElem?_eq_some_iff.1 HK5106.out).1) (fun e => by have := (HOw.out.lt _ e.symm).1; have := HLb.out; omega)).trans HK5106.out); have HK5119 := Lib.hid ((hg.block (w5.heap.size) ((Array.getElem?_eq_some_iff.1 HK5107.out).1) (fun e => by have := (HOw.out.lt _ e.symm).1; have := HLb.out; omega)).trans HK5107.out); have HK5120 := Lib.hid ((hg.block (w6.heap.size) ((Array.getElem?_eq_some_iff.1 HK5108.out).1) (fun e => by have := (HOw.out.lt _ e.symm).1; have := HLb.out; omega)).trans HK5108.out); rw [← List.map_append, ← List.length_append, ← HMN.out] at hown; obtain ⟨Ap, cp, rfl, _, hrd⟩ := out_own hown; have HRp := Lib.hid hrd; clear hown hg hrd HOw HOw0)
    refine hK.out _ _ ?_ (fun hHeld => ?_)
    · (try dsimp only); exact ⟨cell_of_row _ (w3.heap.size) 0 _ _ _ HK5116.out, cell_of_row _ (w3.heap.size + 1) 0 _ _ _ HK5117.out, cell_of_row _ (w4.heap.size) 0 _ _ _ HK5118.out, cell_of_row _ (w5.heap.size) 0 _ _ _ HK5119.out, cell_of_row _ (w6.heap.size) 0 _ _ _ HK5120.out⟩
    clear hK K
    try simp only [List.getElem_toArray, List.getElem_cons_zero, List.getElem_cons_succ, Act.put, List.setIfInBounds_toArray, List.set_cons_zero, List.set_cons_succ]
    refine wpAnyH_ready (rs := [17]) (by kernel_rfl) (by simp) ?_
    refine AllReadyH.cons rfl (fun K hK => ?_) AllReadyH.nil
    go_simp
    (clear sent3; go_at_call 23; refine (HCab.out _ _ _ HRp.out).mono ?_; rintro e v5121 ⟨⟨y, rfl, ho⟩, hb⟩; have HB5122 := Lib.hid (HB5110.out.trans (hb.mono HB5110.out.size)); have HB5123 := Lib.hid (HB5111.out.trans (hb.mono HB5111.out.size)); have HB5124 := Lib.hid (HB5112.out.trans (hb.mono HB5112.out.size)); have HB5125 := Lib.hid (HB5113.out.trans (hb.mono HB5113.out.size)); have HB5126 := Lib.hid (HB5114.out.trans (hb.mono HB5114.out.size)); have HB5127 := Lib.hid (HB5115.out.trans (hb.mono HB5115.out.size)); have HK5128 := Lib.hid ((hb.block (w3.heap.size) ((Array.getElem?_eq_some_iff.1 HK5116.out).1)).trans HK5116.out); have HK5129 := Lib.hid ((hb.block (w3.heap.size + 1) ((Array.getElem?_eq_some_iff.1 HK5117.out).1)).trans HK5117.out); have HK5130 := Lib.hid ((hb.block (w4.heap.size) ((Array.getElem?_eq_some_iff.1 HK5118.out).1)).trans HK5118.out); have HK5131 := Lib.hid ((hb.block (w5.heap.size) ((Array.getElem?_eq_some_iff.1 HK5119.out).1)).trans HK5119.out); have HK5132 := Lib.hid ((hb.block (w6.heap.size) ((Array.getElem?_eq_some_iff.1 HK5120.out).1)).trans HK5120.out); obtain ⟨E1, e1, rfl, _, hrd, _⟩ := rs_own ho; have HRe1 := Lib.hid hrd; clear ho hrd; clear hb)
    try go_wp2_with fail
    refine hK.out _ _ ?_ (fun hHeld => ?_)
    · (try dsimp only); exact ⟨cell_of_row _ (w3.heap.size) 0 _ _ _ HK5128.out, cell_of_row _ (w3.heap.size + 1) 0 _ _ _ HK5129.out, cell_of_row _ (w4.heap.size) 0 _ _ _ HK5130.out, cell_of_row _ (w5.heap.size) 0 _ _ _ HK5131.out, cell_of_row _ (w6.heap.size) 0 _ _ _ HK5132.out⟩
    clear hK K
    try simp only [List.getElem_toArray, List.getElem_cons_zero, List.getElem_cons_succ, Act.put, List.setIfInBounds_toArray, List.set_cons_zero, List.set_cons_succ]
    refine wpAnyH_ready (rs := [18]) (by kernel_rfl) (by simp) ?_
    refine AllReadyH.cons rfl (fun K hK => ?_) AllReadyH.nil
    go_simp
    (clear sent4; go_at_call 22; refine (HSm.out _ _ _ _ _ (HRx.out _ HB5125.out) HRe1.out).mono ?_; rintro e v5133 ⟨rfl, hb⟩; have HB5134 := Lib.hid (HB5122.out.trans (hb.mono HB5122.out.size)); have HB5135 := Lib.hid (HB5123.out.trans (hb.mono HB5123.out.size)); have HB5136 := Lib.hid (HB5124.out.trans (hb.mono HB5124.out.size)); have HB5137 := Lib.hid (HB5125.out.trans (hb.mono HB5125.out.size)); have HB5138 := Lib.hid (HB5126.out.trans (hb.mono HB5126.out.size)); have HB5139 := Lib.hid (HB5127.out.trans (hb.mono HB5127.out.size)); have HK5140 := Lib.hid ((hb.block (w3.heap.size) ((Array.getElem?_eq_some_iff.1 HK5128.out).1)).trans HK5128.out); have HK5141 := Lib.hid ((hb.block (w3.heap.size + 1) ((Array.getElem?_eq_some_iff.1 HK5129.out).1)).trans HK5129.out); have HK5142 := Lib.hid ((hb.block (w4.heap.size) ((Array.getElem?_eq_some_iff.1 HK5130.out).1)).trans HK5130.out); have HK5143 := Lib.hid ((hb.block (w5.heap.size) ((Array.getElem?_eq_some_iff.1 HK5131.out).1)).trans HK5131.out); have HK5144 := Lib.hid ((hb.block (w6.heap.size) ((Array.getElem?_eq_some_iff.1 HK5132.out).1)).trans HK5132.out); clear hb)
    try go_wp2_with fail
    refine hK.out _ _ ?_ (fun hHeld => ?_)
    · (try dsimp only); exact ⟨cell_of_row _ (w3.heap.size) 0 _ _ _ HK5140.out, cell_of_row _ (w3.heap.size + 1) 0 _ _ _ HK5141.out, cell_of_row _ (w4.heap.size) 0 _ _ _ HK5142.out, cell_of_row _ (w5.heap.size) 0 _ _ _ HK5143.out, cell_of_row _ (w6.heap.size) 0 _ _ _ HK5144.out⟩
    clear hK K
    try simp only [List.getElem_toArray, List.getElem_cons_zero, List.getElem_cons_succ, Act.put, List.setIfInBounds_toArray, List.set_cons_zero, List.set_cons_succ]
    refine wpAnyH_take (i := 19) (v := ?_) rfl (by kernel_rfl) (by kernel_rfl) (by kernel_rfl) (fun _ _ _ h => h) (Or.inl ⟨by rfl, ?_⟩) (by assumption) ?_
    rotate_left 1
    · (intro w' hSw; (try dsimp only at hSw); go_simp; (try (with_reducible rfl)))
    try simp only [List.getElem_toArray, List.getElem_cons_zero, List.getElem_cons_succ, Act.put, List.setIfInBounds_toArray, List.set_cons_zero, List.set_cons_succ]
    refine wpAnyH_take (i := 20) (v := ?_) rfl (by kernel_rfl) (by kernel_rfl) (by kernel_rfl) (fun _ _ _ h => h) (Or.inl ⟨by rfl, ?_⟩) (by assumption) ?_
    rotate_left 1
    · (intro w' hSw; (try dsimp only at hSw); go_simp; (try (with_reducible rfl)))
    try simp only [List.getElem_toArray, List.getElem_cons_zero, List.getElem_cons_succ, Act.put, List.setIfInBounds_toArray, List.set_cons_zero, List.set_cons_succ]
    refine wpAnyH_take (i := 21) (v := ?_) rfl (by kernel_rfl) (by kernel_rfl) (by kernel_rfl) (fun _ _ _ h => h) (Or.inl ⟨by rfl, ?_⟩) (by assumption) ?_
    rotate_left 1
    · (intro w' hSw; (try dsimp only at hSw); go_simp; (try (with_reducible rfl)))
    try simp only [List.getElem_toArray, List.getElem_cons_zero, List.getElem_cons_succ, Act.put, List.setIfInBounds_toArray, List.set_cons_zero, List.set_cons_succ]
    refine wpAnyH_take (i := 22) (v := ?_) rfl (by kernel_rfl) (by kernel_rfl) (by kernel_rfl) (fun _ _ _ h => h) (Or.inl ⟨by rfl, ?_⟩) (by assumption) ?_
    rotate_left 1
    · (intro w' hSw; (try dsimp only at hSw); go_simp; (try (with_reducible rfl)))
    try simp only [List.getElem_toArray, List.getElem_cons_zero, List.getElem_cons_succ, Act.put, List.setIfInBounds_toArray, List.set_cons_zero, List.set_cons_succ]
    refine wpAnyH_take (i := 23) (v := ?_) rfl (by kernel_rfl) (by kernel_rfl) (by kernel_rfl) (fun _ _ _ h => h) (Or.inl ⟨by rfl, ?_⟩) (by assumption) ?_
    rotate_left 1
    · (intro w' hSw; (try dsimp only at hSw); go_simp; (try (with_reducible rfl)))
    try simp only [List.getElem_toArray, List.getElem_cons_zero, List.getElem_cons_succ, Act.put, List.setIfInBounds_toArray, List.set_cons_zero, List.set_cons_succ]
    refine wpAnyH_ready (rs := [24]) (by kernel_rfl) (by simp) ?_
    refine AllReadyH.cons rfl (fun K hK => ?_) AllReadyH.nil
    go_simp
    (clear sent5; go_at_call 31; refine (HE1.out _ _ _ _ _ (HRx.out _ HB5137.out) (HRy.out _ HB5138.out)).mono ?_; rintro e v5145 ⟨rfl, hb⟩; have HB5146 := Lib.hid (HB5134.out.trans (hb.mono HB5134.out.size)); have HB5147 := Lib.hid (HB5135.out.trans (hb.mono HB5135.out.size)); have HB5148 := Lib.hid (HB5136.out.trans (hb.mono HB5136.out.size)); have HB5149 := Lib.hid (HB5137.out.trans (hb.mono HB5137.out.size)); have HB5150 := Lib.hid (HB5138.out.trans (hb.mono HB5138.out.size)); have HB5151 := Lib.hid (HB5139.out.trans (hb.mono HB5139.out.size)); have HK5152 := Lib.hid ((hb.block (w3.heap.size) ((Array.getElem?_eq_some_iff.1 HK5140.out).1)).trans HK5140.out); have HK5153 := Lib.hid ((hb.block (w3.heap.size + 1) ((Array.getElem?_eq_some_iff.1 HK5141.out).1)).trans HK5141.out); have HK5154 := Lib.hid ((hb.block (w4.heap.size) ((Array.getElem?_eq_some_iff.1 HK5142.out).1)).trans HK5142.out); have HK5155 := Lib.hid ((hb.block (w5.heap.size) ((Array.getElem?_eq_some_iff.1 HK5143.out).1)).trans HK5143.out); have HK5156 := Lib.hid ((hb.block (w6.heap.size) ((Array.getElem?_eq_some_iff.1 HK5144.out).1)).trans HK5144.out); clear hb)
    try go_wp2_with fail
    refine hK.out _ _ ?_ (fun hHeld => ?_)
    · (try dsimp only); exact ⟨cell_of_row _ (w3.heap.size) 0 _ _ _ HK5152.out, cell_of_row _ (w3.heap.size + 1) 0 _ _ _ HK5153.out, cell_of_row _ (w4.heap.size) 0 _ _ _ HK5154.out, cell_of_row _ (w5.heap.size) 0 _ _ _ HK5155.out, cell_of_row _ (w6.heap.size) 0 _ _ _ HK5156.out⟩
    clear hK K
    try simp only [List.getElem_toArray, List.getElem_cons_zero, List.getElem_cons_succ, Act.put, List.setIfInBounds_toArray, List.set_cons_zero, List.set_cons_succ]
    refine wpAnyH_take (i := 25) (v := ?_) rfl (by kernel_rfl) (by kernel_rfl) (by kernel_rfl) (fun _ _ _ h => h) (Or.inl ⟨by rfl, ?_⟩) (by assumption) ?_
    rotate_left 1
    · (intro w' hSw; (try dsimp only at hSw); go_simp; (try (with_reducible rfl)))
    try simp only [List.getElem_toArray, List.getElem_cons_zero, List.getElem_cons_succ, Act.put, List.setIfInBounds_toArray, List.set_cons_zero, List.set_cons_succ]
    refine wpAnyH_take (i := 26) (v := ?_) rfl (by kernel_rfl) (by kernel_rfl) (by kernel_rfl) (fun _ _ _ h => h) (Or.inl ⟨by rfl, ?_⟩) (by assumption) ?_
    rotate_left 1
    · (intro w' hSw; (try dsimp only at hSw); go_simp; (try (with_reducible rfl)))
    try simp only [List.getElem_toArray, List.getElem_cons_zero, List.getElem_cons_succ, Act.put, List.setIfInBounds_toArray, List.set_cons_zero, List.set_cons_succ]
    refine wpAnyH_take (i := 27) (v := ?_) rfl (by kernel_rfl) (by kernel_rfl) (by kernel_rfl) (fun _ _ _ h => h) (Or.inl ⟨by rfl, ?_⟩) (by assumption) ?_
    rotate_left 1
    · (intro w' hSw; (try dsimp only at hSw); go_simp; (try (with_reducible rfl)))
    try simp only [List.getElem_toArray, List.getElem_cons_zero, List.getElem_cons_succ, Act.put, List.setIfInBounds_toArray, List.set_cons_zero, List.set_cons_succ]
    refine wpAnyH_take (i := 28) (v := ?_) rfl (by kernel_rfl) (by kernel_rfl) (by kernel_rfl) (fun _ _ _ h => h) (Or.inl ⟨by rfl, ?_⟩) (by assumption) ?_
    rotate_left 1
    · (intro w' hSw; (try dsimp only at hSw); go_simp; (try (with_reducible rfl)))
    try simp only [List.getElem_toArray, List.getElem_cons_zero, List.getElem_cons_succ, Act.put, List.setIfInBounds_toArray, List.set_cons_zero, List.set_cons_succ]
    refine wpAnyH_take (i := 29) (v := ?_) rfl (by kernel_rfl) (by kernel_rfl) (by kernel_rfl) (fun _ _ _ h => h) (Or.inl ⟨by rfl, ?_⟩) (by assumption) ?_
    rotate_left 1
    · (intro w' hSw; (try dsimp only at hSw); go_simp; (try (with_reducible rfl)))
    try simp only [List.getElem_toArray, List.getElem_cons_zero, List.getElem_cons_succ, Act.put, List.setIfInBounds_toArray, List.set_cons_zero, List.set_cons_succ]
    refine wpAnyH_ready (rs := [30]) (by kernel_rfl) (by simp) ?_
    refine AllReadyH.cons rfl (fun K hK => ?_) AllReadyH.nil
    go_simp
    (clear sent6; go_at_call 31; refine (HE2.out _ _ _ _ _ (HRz.out _ HB5151.out) (HRb.out _ HB5148.out)).mono ?_; rintro e v5157 ⟨rfl, hb⟩; have HB5158 := Lib.hid (HB5146.out.trans (hb.mono HB5146.out.size)); have HB5159 := Lib.hid (HB5147.out.trans (hb.mono HB5147.out.size)); have HB5160 := Lib.hid (HB5148.out.trans (hb.mono HB5148.out.size)); have HB5161 := Lib.hid (HB5149.out.trans (hb.mono HB5149.out.size)); have HB5162 := Lib.hid (HB5150.out.trans (hb.mono HB5150.out.size)); have HB5163 := Lib.hid (HB5151.out.trans (hb.mono HB5151.out.size)); have HK5164 := Lib.hid ((hb.block (w3.heap.size) ((Array.getElem?_eq_some_iff.1 HK5152.out).1)).trans HK5152.out); have HK5165 := Lib.hid ((hb.block (w3.heap.size + 1) ((Array.getElem?_eq_some_iff.1 HK5153.out).1)).trans HK5153.out); have HK5166 := Lib.hid ((hb.block (w4.heap.size) ((Array.getElem?_eq_some_iff.1 HK5154.out).1)).trans HK5154.out); have HK5167 := Lib.hid ((hb.block (w5.heap.size) ((Array.getElem?_eq_some_iff.1 HK5155.out).1)).trans HK5155.out); have HK5168 := Lib.hid ((hb.block (w6.heap.size) ((Array.getElem?_eq_some_iff.1 HK5156.out).1)).trans HK5156.out); clear hb)
    try go_wp2_with fail
    refine hK.out _ _ ?_ (fun hHeld => ?_)
    · (try dsimp only); exact ⟨cell_of_row _ (w3.heap.size) 0 _ _ _ HK5164.out, cell_of_row _ (w3.heap.size + 1) 0 _ _ _ HK5165.out, cell_of_row _ (w4.heap.size) 0 _ _ _ HK5166.out, cell_of_row _ (w5.heap.size) 0 _ _ _ HK5167.out, cell_of_row _ (w6.heap.size) 0 _ _ _ HK5168.out⟩
    clear hK K
    try simp only [List.getElem_toArray, List.getElem_cons_zero, List.getElem_cons_succ, Act.put, List.setIfInBounds_toArray, List.set_cons_zero, List.set_cons_succ]
    refine wpAnyH_take (i := 31) (v := ?_) rfl (by kernel_rfl) (by kernel_rfl) (by kernel_rfl) (fun _ _ _ h => h) (Or.inl ⟨by rfl, ?_⟩) (by assumption) ?_
    rotate_left 1
    · (intro w' hSw; (try dsimp only at hSw); go_simp; (try (with_reducible rfl)))
    try simp only [List.getElem_toArray, List.getElem_cons_zero, List.getElem_cons_succ, Act.put, List.setIfInBounds_toArray, List.set_cons_zero, List.set_cons_succ]
    refine wpAnyH_take (i := 32) (v := ?_) rfl (by kernel_rfl) (by kernel_rfl) (by kernel_rfl) (fun _ _ _ h => h) (Or.inl ⟨by rfl, ?_⟩) (by assumption) ?_
    rotate_left 1
    · (intro w' hSw; (try dsimp only at hSw); go_simp; (try (with_reducible rfl)))
    try simp only [List.getElem_toArray, List.getElem_cons_zero, List.getElem_cons_succ, Act.put, List.setIfInBounds_toArray, List.set_cons_zero, List.set_cons_succ]
    refine wpAnyH_take (i := 33) (v := ?_) rfl (by kernel_rfl) (by kernel_rfl) (by kernel_rfl) (fun _ _ _ h => h) (Or.inl ⟨by rfl, ?_⟩) (by assumption) ?_
    rotate_left 1
    · (intro w' hSw; (try dsimp only at hSw); go_simp; (try (with_reducible rfl)))
    try simp only [List.getElem_toArray, List.getElem_cons_zero, List.getElem_cons_succ, Act.put, List.setIfInBounds_toArray, List.set_cons_zero, List.set_cons_succ]
    refine wpAnyH_take (i := 34) (v := ?_) rfl (by kernel_rfl) (by kernel_rfl) (by kernel_rfl) (fun _ _ _ h => h) (Or.inl ⟨by rfl, ?_⟩) (by assumption) ?_
    rotate_left 1
    · (intro w' hSw; (try dsimp only at hSw); go_simp; (try (with_reducible rfl)))
    try simp only [List.getElem_toArray, List.getElem_cons_zero, List.getElem_cons_succ, Act.put, List.setIfInBounds_toArray, List.set_cons_zero, List.set_cons_succ]
    refine wpAnyH_take (i := 35) (v := ?_) rfl (by kernel_rfl) (by kernel_rfl) (by kernel_rfl) (fun _ _ _ h => h) (Or.inl ⟨by rfl, ?_⟩) (by assumption) ?_
    rotate_left 1
    · (intro w' hSw; (try dsimp only at hSw); go_simp; (try (with_reducible rfl)))
    try simp only [List.getElem_toArray, List.getElem_cons_zero, List.getElem_cons_succ, Act.put, List.setIfInBounds_toArray, List.set_cons_zero, List.set_cons_succ]
    refine wpAnyH_take (i := 37) (v := ?_) rfl (by kernel_rfl) (by kernel_rfl) (by kernel_rfl) (fun _ _ _ h => h) (Or.inl ⟨by rfl, ?_⟩) (by assumption) ?_
    rotate_left 1
    · (intro w' hSw; (try dsimp only at hSw); go_simp; (try (with_reducible rfl)))
    try simp only [List.getElem_toArray, List.getElem_cons_zero, List.getElem_cons_succ, Act.put, List.setIfInBounds_toArray, List.set_cons_zero, List.set_cons_succ]
    refine wpAnyH_take (i := 41) (v := ?_) rfl (by kernel_rfl) (by kernel_rfl) (by kernel_rfl) (fun _ _ _ h => h) (Or.inl ⟨by rfl, ?_⟩) (by assumption) ?_
    rotate_left 1
    · (intro w' hSw; (try dsimp only at hSw); go_simp; (try (with_reducible rfl)))
    try simp only [List.getElem_toArray, List.getElem_cons_zero, List.getElem_cons_succ, Act.put, List.setIfInBounds_toArray, List.set_cons_zero, List.set_cons_succ]
    refine wpAnyH_ready (rs := [36]) (by kernel_rfl) (by simp) ?_
    refine AllReadyH.cons rfl (fun K hK => ?_) AllReadyH.nil
    go_simp
    (clear sent7; go_at_call 31; refine (HE3.out _ _ _ _ _ (HRa.out _ HB5159.out) (HRb.out _ HB5160.out)).mono ?_; rintro e v5169 ⟨rfl, hb⟩; have HB5170 := Lib.hid (HB5158.out.trans (hb.mono HB5158.out.size)); have HB5171 := Lib.hid (HB5159.out.trans (hb.mono HB5159.out.size)); have HB5172 := Lib.hid (HB5160.out.trans (hb.mono HB5160.out.size)); have HB5173 := Lib.hid (HB5161.out.trans (hb.mono HB5161.out.size)); have HB5174 := Lib.hid (HB5162.out.trans (hb.mono HB5162.out.size)); have HB5175 := Lib.hid (HB5163.out.trans (hb.mono HB5163.out.size)); have HK5176 := Lib.hid ((hb.block (w3.heap.size) ((Array.getElem?_eq_some_iff.1 HK5164.out).1)).trans HK5164.out); have HK5177 := Lib.hid ((hb.block (w3.heap.size + 1) ((Array.getElem?_eq_some_iff.1 HK5165.out).1)).trans HK5165.out); have HK5178 := Lib.hid ((hb.block (w4.heap.size) ((Array.getElem?_eq_some_iff.1 HK5166.out).1)).trans HK5166.out); have HK5179 := Lib.hid ((hb.block (w5.heap.size) ((Array.getElem?_eq_some_iff.1 HK5167.out).1)).trans HK5167.out); have HK5180 := Lib.hid ((hb.block (w6.heap.size) ((Array.getElem?_eq_some_iff.1 HK5168.out).1)).trans HK5168.out); clear hb)
    try go_wp2_with fail
    refine hK.out _ _ ?_ (fun hHeld => ?_)
    · (try dsimp only); exact ⟨cell_of_row _ (w3.heap.size) 0 _ _ _ HK5176.out, cell_of_row _ (w3.heap.size + 1) 0 _ _ _ HK5177.out, cell_of_row _ (w4.heap.size) 0 _ _ _ HK5178.out, cell_of_row _ (w5.heap.size) 0 _ _ _ HK5179.out, cell_of_row _ (w6.heap.size) 0 _ _ _ HK5180.out⟩
    clear hK K
    try simp only [List.getElem_toArray, List.getElem_cons_zero, List.getElem_cons_succ, Act.put, List.setIfInBounds_toArray, List.set_cons_zero, List.set_cons_succ]
    refine wpAnyH_ready (rs := [38]) (by kernel_rfl) (by simp) ?_
    refine AllReadyH.cons rfl (fun K hK => ?_) AllReadyH.nil
    go_simp
    (clear sent8; go_at_call 27; refine (HVs.out _ (HR.out _ HB5170.out)).mono ?_; rintro e v5181 ⟨⟨y, rfl, ho⟩, hb⟩; have HB5182 := Lib.hid (HB5170.out.trans (hb.mono HB5170.out.size)); have HB5183 := Lib.hid (HB5171.out.trans (hb.mono HB5171.out.size)); have HB5184 := Lib.hid (HB5172.out.trans (hb.mono HB5172.out.size)); have HB5185 := Lib.hid (HB5173.out.trans (hb.mono HB5173.out.size)); have HB5186 := Lib.hid (HB5174.out.trans (hb.mono HB5174.out.size)); have HB5187 := Lib.hid (HB5175.out.trans (hb.mono HB5175.out.size)); have HK5188 := Lib.hid ((hb.block (w3.heap.size) ((Array.getElem?_eq_some_iff.1 HK5176.out).1)).trans HK5176.out); have HK5189 := Lib.hid ((hb.block (w3.heap.size + 1) ((Array.getElem?_eq_some_iff.1 HK5177.out).1)).trans HK5177.out); have HK5190 := Lib.hid ((hb.block (w4.heap.size) ((Array.getElem?_eq_some_iff.1 HK5178.out).1)).trans HK5178.out); have HK5191 := Lib.hid ((hb.block (w5.heap.size) ((Array.getElem?_eq_some_iff.1 HK5179.out).1)).trans HK5179.out); have HK5192 := Lib.hid ((hb.block (w6.heap.size) ((Array.getElem?_eq_some_iff.1 HK5180.out).1)).trans HK5180.out); obtain ⟨E2, e2, rfl, _, hrd⟩ := out_own ho; have HRe2 := Lib.hid hrd; clear ho hrd; clear hb)
    try go_wp2_with fail
    refine hK.out _ _ ?_ (fun hHeld => ?_)
    · (try dsimp only); exact ⟨cell_of_row _ (w3.heap.size) 0 _ _ _ HK5188.out, cell_of_row _ (w3.heap.size + 1) 0 _ _ _ HK5189.out, cell_of_row _ (w4.heap.size) 0 _ _ _ HK5190.out, cell_of_row _ (w5.heap.size) 0 _ _ _ HK5191.out, cell_of_row _ (w6.heap.size) 0 _ _ _ HK5192.out⟩
    clear hK K
    try simp only [List.getElem_toArray, List.getElem_cons_zero, List.getElem_cons_succ, Act.put, List.setIfInBounds_toArray, List.set_cons_zero, List.set_cons_succ]
    refine wpAnyH_ready (rs := [39]) (by kernel_rfl) (by simp) ?_
    refine AllReadyH.cons rfl (fun K hK => ?_) AllReadyH.nil
    go_simp
    (clear sent9; go_at_call 23; refine (HCa.out _ _ _ HRe2.out).mono ?_; rintro e v5193 ⟨⟨y, rfl, ho⟩, hb⟩; have HB5194 := Lib.hid (HB5182.out.trans (hb.mono HB5182.out.size)); have HB5195 := Lib.hid (HB5183.out.trans (hb.mono HB5183.out.size)); have HB5196 := Lib.hid (HB5184.out.trans (hb.mono HB5184.out.size)); have HB5197 := Lib.hid (HB5185.out.trans (hb.mono HB5185.out.size)); have HB5198 := Lib.hid (HB5186.out.trans (hb.mono HB5186.out.size)); have HB5199 := Lib.hid (HB5187.out.trans (hb.mono HB5187.out.size)); have HK5200 := Lib.hid ((hb.block (w3.heap.size) ((Array.getElem?_eq_some_iff.1 HK5188.out).1)).trans HK5188.out); have HK5201 := Lib.hid ((hb.block (w3.heap.size + 1) ((Array.getElem?_eq_some_iff.1 HK5189.out).1)).trans HK5189.out); have HK5202 := Lib.hid ((hb.block (w4.heap.size) ((Array.getElem?_eq_some_iff.1 HK5190.out).1)).trans HK5190.out); have HK5203 := Lib.hid ((hb.block (w5.heap.size) ((Array.getElem?_eq_some_iff.1 HK5191.out).1)).trans HK5191.out); have HK5204 := Lib.hid ((hb.block (w6.heap.size) ((Array.getElem?_eq_some_iff.1 HK5192.out).1)).trans HK5192.out); obtain ⟨E3, e3, rfl, _, _, _⟩ := rs_own ho; clear ho; clear hb)
    try go_wp2_with fail
    refine hK.out _ _ ?_ (fun hHeld => ?_)
    · (try dsimp only); exact ⟨cell_of_row _ (w3.heap.size) 0 _ _ _ HK5200.out, cell_of_row _ (w3.heap.size + 1) 0 _ _ _ HK5201.out, cell_of_row _ (w4.heap.size) 0 _ _ _ HK5202.out, cell_of_row _ (w5.heap.size) 0 _ _ _ HK5203.out, cell_of_row _ (w6.heap.size) 0 _ _ _ HK5204.out⟩
    clear hK K
    try simp only [List.getElem_toArray, List.getElem_cons_zero, List.getElem_cons_succ, Act.put, List.setIfInBounds_toArray, List.set_cons_zero, List.set_cons_succ]
    refine wpAnyH_take (i := 40) (v := ?_) rfl (by kernel_rfl) (by kernel_rfl) (by kernel_rfl) (fun _ _ _ h => h) (Or.inl ⟨by rfl, ?_⟩) (by assumption) ?_
    rotate_left 1
    · (intro w' hSw; (try dsimp only at hSw); go_simp; (try (with_reducible rfl)))
    try simp only [List.getElem_toArray, List.getElem_cons_zero, List.getElem_cons_succ, Act.put, List.setIfInBounds_toArray, List.set_cons_zero, List.set_cons_succ]
    refine wpAnyH_ready (rs := [42]) (by kernel_rfl) (by simp) ?_
    refine AllReadyH.cons rfl (fun K hK => ?_) AllReadyH.nil
    go_simp
    (clear sent10; go_at_call 27; refine (HVt.out _ (HQ.out _ HB5194.out)).mono ?_; rintro e v5205 ⟨⟨y, rfl, ho⟩, hb⟩; have HB5206 := Lib.hid (HB5194.out.trans (hb.mono HB5194.out.size)); have HB5207 := Lib.hid (HB5195.out.trans (hb.mono HB5195.out.size)); have HB5208 := Lib.hid (HB5196.out.trans (hb.mono HB5196.out.size)); have HB5209 := Lib.hid (HB5197.out.trans (hb.mono HB5197.out.size)); have HB5210 := Lib.hid (HB5198.out.trans (hb.mono HB5198.out.size)); have HB5211 := Lib.hid (HB5199.out.trans (hb.mono HB5199.out.size)); have HK5212 := Lib.hid ((hb.block (w3.heap.size) ((Array.getElem?_eq_some_iff.1 HK5200.out).1)).trans HK5200.out); have HK5213 := Lib.hid ((hb.block (w3.heap.size + 1) ((Array.getElem?_eq_some_iff.1 HK5201.out).1)).trans HK5201.out); have HK5214 := Lib.hid ((hb.block (w4.heap.size) ((Array.getElem?_eq_some_iff.1 HK5202.out).1)).trans HK5202.out); have HK5215 := Lib.hid ((hb.block (w5.heap.size) ((Array.getElem?_eq_some_iff.1 HK5203.out).1)).trans HK5203.out); have HK5216 := Lib.hid ((hb.block (w6.heap.size) ((Array.getElem?_eq_some_iff.1 HK5204.out).1)).trans HK5204.out); obtain ⟨E4, e4, rfl, _, hrd⟩ := out_own ho; have HRe4 := Lib.hid hrd; clear ho hrd; clear hb)
    try go_wp2_with fail
    refine hK.out _ _ ?_ (fun hHeld => ?_)
    · (try dsimp only); exact ⟨cell_of_row _ (w3.heap.size) 0 _ _ _ HK5212.out, cell_of_row _ (w3.heap.size + 1) 0 _ _ _ HK5213.out, cell_of_row _ (w4.heap.size) 0 _ _ _ HK5214.out, cell_of_row _ (w5.heap.size) 0 _ _ _ HK5215.out, cell_of_row _ (w6.heap.size) 0 _ _ _ HK5216.out⟩
    clear hK K
    try simp only [List.getElem_toArray, List.getElem_cons_zero, List.getElem_cons_succ, Act.put, List.setIfInBounds_toArray, List.set_cons_zero, List.set_cons_succ]
    refine wpAnyH_ready (rs := [43]) (by kernel_rfl) (by simp) ?_
    refine AllReadyH.cons rfl (fun K hK => ?_) AllReadyH.nil
    go_simp
    (clear sent11; go_at_call 23; refine (HCb.out _ _ _ HRe4.out).mono ?_; rintro e v5217 ⟨⟨y, rfl, ho⟩, hb⟩; have HB5218 := Lib.hid (HB5206.out.trans (hb.mono HB5206.out.size)); have HB5219 := Lib.hid (HB5207.out.trans (hb.mono HB5207.out.size)); have HB5220 := Lib.hid (HB5208.out.trans (hb.mono HB5208.out.size)); have HB5221 := Lib.hid (HB5209.out.trans (hb.mono HB5209.out.size)); have HB5222 := Lib.hid (HB5210.out.trans (hb.mono HB5210.out.size)); have HB5223 := Lib.hid (HB5211.out.trans (hb.mono HB5211.out.size)); have HK5224 := Lib.hid ((hb.block (w3.heap.size) ((Array.getElem?_eq_some_iff.1 HK5212.out).1)).trans HK5212.out); have HK5225 := Lib.hid ((hb.block (w3.heap.size + 1) ((Array.getElem?_eq_some_iff.1 HK5213.out).1)).trans HK5213.out); have HK5226 := Lib.hid ((hb.block (w4.heap.size) ((Array.getElem?_eq_some_iff.1 HK5214.out).1)).trans HK5214.out); have HK5227 := Lib.hid ((hb.block (w5.heap.size) ((Array.getElem?_eq_some_iff.1 HK5215.out).1)).trans HK5215.out); have HK5228 := Lib.hid ((hb.block (w6.heap.size) ((Array.getElem?_eq_some_iff.1 HK5216.out).1)).trans HK5216.out); obtain ⟨E5, e5, rfl, _, _, _⟩ := rs_own ho; clear ho; clear hb)
    try go_wp2_with fail
    refine hK.out _ _ ?_ (fun hHeld => ?_)
    · (try dsimp only); exact ⟨cell_of_row _ (w3.heap.size) 0 _ _ _ HK5224.out, cell_of_row _ (w3.heap.size + 1) 0 _ _ _ HK5225.out, cell_of_row _ (w4.heap.size) 0 _ _ _ HK5226.out, cell_of_row _ (w5.heap.size) 0 _ _ _ HK5227.out, cell_of_row _ (w6.heap.size) 0 _ _ _ HK5228.out⟩
    clear hK K
    try simp only [List.getElem_toArray, List.getElem_cons_zero, List.getElem_cons_succ, Act.put, List.setIfInBounds_toArray, List.set_cons_zero, List.set_cons_succ]
    refine wpAnyH_take (i := 44) (v := ?_) rfl (by kernel_rfl) (by kernel_rfl) (by kernel_rfl) (fun _ _ _ h => h) (Or.inl ⟨by rfl, ?_⟩) (by assumption) ?_
    rotate_left 1
    · (intro w' hSw; (try dsimp only at hSw); go_simp; (try (with_reducible rfl)))
    try simp only [List.getElem_toArray, List.getElem_cons_zero, List.getElem_cons_succ, Act.put, List.setIfInBounds_toArray, List.set_cons_zero, List.set_cons_succ]
    refine wpAnyH_take (i := 45) (v := ?_) rfl (by kernel_rfl) (by kernel_rfl) (by kernel_rfl) (fun _ _ _ h => h) (Or.inl ⟨by rfl, ?_⟩) (by assumption) ?_
    rotate_left 1
    · (intro w' hSw; (try dsimp only at hSw); go_simp; (try (with_reducible rfl)))
    try simp only [List.getElem_toArray, List.getElem_cons_zero, List.getElem_cons_succ, Act.put, List.setIfInBounds_toArray, List.set_cons_zero, List.set_cons_succ]
    refine wpAnyH_take (i := 46) (v := ?_) rfl (by kernel_rfl) (by kernel_rfl) (by kernel_rfl) (fun _ _ _ h => h) (Or.inl ⟨by rfl, ?_⟩) (by assumption) ?_
    rotate_left 1
    · (intro w' hSw; (try dsimp only at hSw); go_simp; (try (with_reducible rfl)))
    try simp only [List.getElem_toArray, List.getElem_cons_zero, List.getElem_cons_succ, Act.put, List.setIfInBounds_toArray, List.set_cons_zero, List.set_cons_succ]
    refine wpAnyH_take (i := 47) rfl (by kernel_rfl) (by kernel_rfl) (by kernel_rfl) (fun _ _ _ h => h) (Or.inr ⟨by rfl, rfl⟩) (by assumption) ?_
    try simp only [List.getElem_toArray, List.getElem_cons_zero, List.getElem_cons_succ, Act.put, List.setIfInBounds_toArray, List.set_cons_zero, List.set_cons_succ]
    refine wpAnyH_take (i := 48) rfl (by kernel_rfl) (by kernel_rfl) (by kernel_rfl) (fun _ _ _ h => h) (Or.inr ⟨by rfl, rfl⟩) (by assumption) ?_
    try simp only [List.getElem_toArray, List.getElem_cons_zero, List.getElem_cons_succ, Act.put, List.setIfInBounds_toArray, List.set_cons_zero, List.set_cons_succ]
    refine wpAnyH_ready (rs := [49]) (by kernel_rfl) (by simp) ?_
    refine AllReadyH.cons rfl (fun K hK => ?_) AllReadyH.nil
    go_simp
    refine hK.out _ _ ?_ (fun hHeld => ?_)
    · (try dsimp only); exact ⟨cell_of_row _ (w3.heap.size) 0 _ _ _ HK5224.out, cell_of_row _ (w3.heap.size + 1) 0 _ _ _ HK5225.out, cell_of_row _ (w4.heap.size) 0 _ _ _ HK5226.out, cell_of_row _ (w5.heap.size) 0 _ _ _ HK5227.out, cell_of_row _ (w6.heap.size) 0 _ _ _ HK5228.out⟩
    clear hK K
    try simp only [List.getElem_toArray, List.getElem_cons_zero, List.getElem_cons_succ, Act.put, List.setIfInBounds_toArray, List.set_cons_zero, List.set_cons_succ]
    refine wpAnyH_ready (rs := [50]) (by kernel_rfl) (by simp) ?_
    refine AllReadyH.cons rfl (fun K hK => ?_) AllReadyH.nil
    go_simp
    refine hK.out _ _ ?_ (fun hHeld => ?_)
    · (try dsimp only); exact ⟨cell_of_row _ (w3.heap.size) 0 _ _ _ HK5224.out, cell_of_row _ (w3.heap.size + 1) 0 _ _ _ HK5225.out, cell_of_row _ (w4.heap.size) 0 _ _ _ HK5226.out, cell_of_row _ (w5.heap.size) 0 _ _ _ HK5227.out, cell_of_row _ (w6.heap.size) 0 _ _ _ HK5228.out⟩
    clear hK K
    try simp only [List.getElem_toArray, List.getElem_cons_zero, List.getElem_cons_succ, Act.put, List.setIfInBounds_toArray, List.set_cons_zero, List.set_cons_succ]
    refine wpAnyH_ready (rs := [51]) (by kernel_rfl) (by simp) ?_
    refine AllReadyH.cons rfl (fun K hK => ?_) AllReadyH.nil
    go_simp
    refine hK.out _ _ ?_ (fun hHeld => ?_)
    · (try dsimp only); exact ⟨cell_of_row _ (w3.heap.size) 0 _ _ _ HK5224.out, cell_of_row _ (w3.heap.size + 1) 0 _ _ _ HK5225.out, cell_of_row _ (w4.heap.size) 0 _ _ _ HK5226.out, cell_of_row _ (w5.heap.size) 0 _ _ _ HK5227.out, cell_of_row _ (w6.heap.size) 0 _ _ _ HK5228.out⟩
    clear hK K
    try simp only [List.getElem_toArray, List.getElem_cons_zero, List.getElem_cons_succ, Act.put, List.setIfInBounds_toArray, List.set_cons_zero, List.set_cons_succ]
    refine wpAnyH_take (i := 52) (v := ?_) rfl (by kernel_rfl) (by kernel_rfl) (by kernel_rfl) (fun _ _ _ h => h) (Or.inl ⟨by rfl, ?_⟩) (by assumption) ?_
    rotate_left 1
    · (intro w' hSw; (try dsimp only at hSw); go_simp; (try (with_reducible rfl)))
    try simp only [List.getElem_toArray, List.getElem_cons_zero, List.getElem_cons_succ, Act.put, List.setIfInBounds_toArray, List.set_cons_zero, List.set_cons_succ]
    refine wpAnyH_take (i := 53) (v := ?_) rfl (by kernel_rfl) (by kernel_rfl) (by kernel_rfl) (fun _ _ _ h => h) (Or.inl ⟨by rfl, ?_⟩) (by assumption) ?_
    rotate_left 1
    · (intro w' hSw; (try dsimp only at hSw); go_simp; (try (with_reducible rfl)))
    try simp only [List.getElem_toArray, List.getElem_cons_zero, List.getElem_cons_succ, Act.put, List.setIfInBounds_toArray, List.set_cons_zero, List.set_cons_succ]
    refine wpAnyH_take (i := 54) (v := ?_) rfl (by kernel_rfl) (by kernel_rfl) (by kernel_rfl) (fun _ _ _ h => h) (Or.inl ⟨by rfl, ?_⟩) (by assumption) ?_
    rotate_left 1
    · (intro w' hSw; (try dsimp only at hSw); go_simp; (try (with_reducible rfl)))
    try simp only [List.getElem_toArray, List.getElem_cons_zero, List.getElem_cons_succ, Act.put, List.setIfInBounds_toArray, List.set_cons_zero, List.set_cons_succ]
    refine wpAnyH_done (by kernel_rfl) ?_ _
    clear hl2 hl4 hl5 hl6 hle
    rcases hcf with hcf | hcf
    · have HSu := Lib.hid (fun W A c D d h1 h2 => subtract_ok A c D d cv dv hC hD hcf W h1 h2)
      have hSC := hC.sub hD hcf
      have HCk := Lib.hid (fun W A c h => hcheck_any A c (bk (sbC cv dv)) (Cv.bklen _) hSC.ivok W h)
      rw [hSC.chk] at HCk
      have HAs := Lib.hid (fun W A c k hk h => at_any A c (sbC cv dv) k hk W h)
      have HSg := Lib.hid (fun k => sbC_get cv dv hC.len hD.len k)
      have HCf := Lib.hid hcf
      obtain ⟨sv, hsv⟩ : ∃ sv, sv = sbC cv dv := ⟨_, rfl⟩
      rw [← hsv] at HSu HCk HAs HSg
      clear hsv hSC hcf hC hD
      have kc6229 := cell_of_row _ (w3.heap.size) 0 _ _ _ HK5224.out
      try simp at kc6229
      have kc6230 := cell_of_row _ (w3.heap.size + 1) 0 _ _ _ HK5225.out
      try simp at kc6230
      have kc6231 := cell_of_row _ (w4.heap.size) 0 _ _ _ HK5226.out
      try simp at kc6231
      have kc6232 := cell_of_row _ (w5.heap.size) 0 _ _ _ HK5227.out
      try simp at kc6232
      have kc6233 := cell_of_row _ (w6.heap.size) 0 _ _ _ HK5228.out
      try simp at kc6233
      go_wp2_with fail
      refine (HSu.out _ _ _ _ _ (HRa.out _ HB5219.out) (HRb.out _ HB5220.out)).mono ?_
      rintro e w8 ⟨⟨x, rfl, ho⟩, hb⟩
      have HB6234 := Lib.hid (HB5218.out.trans (hb.mono HB5218.out.size))
      have HB6235 := Lib.hid (HB5219.out.trans (hb.mono HB5219.out.size))
      have HB6236 := Lib.hid (HB5220.out.trans (hb.mono HB5220.out.size))
      have HB6237 := Lib.hid (HB5221.out.trans (hb.mono HB5221.out.size))
      have HB6238 := Lib.hid (HB5222.out.trans (hb.mono HB5222.out.size))
      have HB6239 := Lib.hid (HB5223.out.trans (hb.mono HB5223.out.size))
      have HK6240 := Lib.hid ((hb.block (w3.heap.size) ((Array.getElem?_eq_some_iff.1 HK5224.out).1)).trans HK5224.out)
      have HK6241 := Lib.hid ((hb.block (w3.heap.size + 1) ((Array.getElem?_eq_some_iff.1 HK5225.out).1)).trans HK5225.out)
      have HK6242 := Lib.hid ((hb.block (w4.heap.size) ((Array.getElem?_eq_some_iff.1 HK5226.out).1)).trans HK5226.out)
      have HK6243 := Lib.hid ((hb.block (w5.heap.size) ((Array.getElem?_eq_some_iff.1 HK5227.out).1)).trans HK5227.out)
      have HK6244 := Lib.hid ((hb.block (w6.heap.size) ((Array.getElem?_eq_some_iff.1 HK5228.out).1)).trans HK5228.out)
      obtain ⟨As, cs, rfl, _, hrs, _⟩ := rs_own ho
      have HRs := Lib.hid (fun W (hb : Below w8.heap.size w8 W) => (fun j hj => by
            obtain ⟨b, off, e, h1, h2⟩ := Rs.below hrs hb j hj
            exact ⟨b, off, e, Nat.lt_of_lt_of_le h1 hb.size, h2⟩ : Rs W W.heap.size As (ivCells (bk sv))))
      clear ho hrs
      clear hb
      clear kc6229 kc6230 kc6231 kc6232 kc6233
      have BW8w := HB6234
      have BW8w2 := HB6235
      have BW8w3 := HB6236
      have HB6245 : Hid (Below w8.heap.size w8 w8) := Lib.hid (Below.refl _ _)
      have HB6246 := Lib.hid (HB6234.out.alloc HB6234.out.size (.cells #[Value.slice As (bk sv).length cs] 33))
      have HB6247 := Lib.hid (HB6235.out.alloc HB6235.out.size (.cells #[Value.slice As (bk sv).length cs] 33))
      have HB6248 := Lib.hid (HB6236.out.alloc HB6236.out.size (.cells #[Value.slice As (bk sv).length cs] 33))
      have HB6249 := Lib.hid (HB6237.out.alloc HB6237.out.size (.cells #[Value.slice As (bk sv).length cs] 33))
      have HB6250 := Lib.hid (HB6238.out.alloc HB6238.out.size (.cells #[Value.slice As (bk sv).length cs] 33))
      have HB6251 := Lib.hid (HB6239.out.alloc HB6239.out.size (.cells #[Value.slice As (bk sv).length cs] 33))
      have HB6252 := Lib.hid (HB6245.out.alloc HB6245.out.size (.cells #[Value.slice As (bk sv).length cs] 33))
      have HK6253 := Lib.hid ((Below.heap_alloc w8 (.cells #[Value.slice As (bk sv).length cs] 33) (w3.heap.size) ((Array.getElem?_eq_some_iff.1 HK6240.out).1)).trans HK6240.out)
      have HK6254 := Lib.hid ((Below.heap_alloc w8 (.cells #[Value.slice As (bk sv).length cs] 33) (w3.heap.size + 1) ((Array.getElem?_eq_some_iff.1 HK6241.out).1)).trans HK6241.out)
      have HK6255 := Lib.hid ((Below.heap_alloc w8 (.cells #[Value.slice As (bk sv).length cs] 33) (w4.heap.size) ((Array.getElem?_eq_some_iff.1 HK6242.out).1)).trans HK6242.out)
      have HK6256 := Lib.hid ((Below.heap_alloc w8 (.cells #[Value.slice As (bk sv).length cs] 33) (w5.heap.size) ((Array.getElem?_eq_some_iff.1 HK6243.out).1)).trans HK6243.out)
      have HK6257 := Lib.hid ((Below.heap_alloc w8 (.cells #[Value.slice As (bk sv).length cs] 33) (w6.heap.size) ((Array.getElem?_eq_some_iff.1 HK6244.out).1)).trans HK6244.out)
      have HK6258 := Lib.hid (Deep.blk_alloc_new w8 (.cells #[Value.slice As (bk sv).length cs] 33))
      go_wp2_with fail
      go_loopw [15, 16] (fun cv' iv wr => ∃ k : Nat, k ≤ 305 ∧ cv' = .bool false ∧ iv = .int .i64 (k : Int) ∧ Hid (wr.heap[w3.heap.size]? = some (.cells #[Value.slice A (bk cv).length c] 33 (0, 0))) ∧ Hid (wr.heap[w3.heap.size + 1]? = some (.cells #[Value.slice D (bk dv).length d] 33 (0, 0))) ∧ Hid (wr.heap[w8.heap.size]? = some (.cells #[Value.slice As (bk sv).length cs] 33 (0, 0))) ∧ Hid (Below w8.heap.size w8 wr)) (fun _ iv _ => 305 - (intOf iv).toNat)
      case atStart => exact ⟨0, Nat.zero_le _, rfl, rfl, HK6253, HK6254, HK6258, HB6252⟩
      case round =>
        obtain ⟨k, hk, rfl, rfl, HXa, HXb, HXs, HB⟩ := hrel
        have hk0 : (0 : Int) ≤ (k : Int) := by omega
        by_cases hlt : k < 305
        · have hkI : (k : Int) < 305 := by omega
          have hw1 : IntKind.i64.wrap ((k : Int) + 1) = (k : Int) + 1 := by simp only [IntKind.wrap_i64]; omega
          have hb1 := HBc.out k
          have hb2 := HBe.out k
          have HA1 := Lib.hid (fun W A c h => HAa.out W A c k hlt h)
          have HA2 := Lib.hid (fun W A c h => HAb.out W A c k hlt h)
          have hsg := HSg.out k
          have hle2 := HCf.out k hlt
          have HA3 := Lib.hid (fun W A c h => HAs.out W A c k hlt h)
          obtain ⟨y, hy⟩ : ∃ y, y = cv.getD k 0 := ⟨_, rfl⟩
          obtain ⟨x, hx⟩ : ∃ x, x = dv.getD k 0 := ⟨_, rfl⟩
          rw [← hy] at hb1 HA1
          rw [← hx] at hb2 HA2
          obtain ⟨z, hz⟩ : ∃ z, z = sv.getD k 0 := ⟨_, rfl⟩
          rw [← hz] at hsg HA3
          rw [← hy, ← hx] at hsg hle2
          clear hy hx hz
          have hd1 : decide (y < x) = false := by simp; omega
          have hwy : IntKind.i64.wrap (y - x) = y - x := by simp only [IntKind.wrap_i64]; omega
          have hgz : (z != y - x) = false := by rw [hsg]; simp
          go_wp2_with fail
          have HD6759 : Hid (∀ n, Below w.heap.size w ((wr).drewN n)) := Lib.hid (fun n => below_drewN (BW8w.out.trans (HB.out.mono BW8w.out.size)) n)
          have HD6760 : Hid (∀ n, Below w2.heap.size w2 ((wr).drewN n)) := Lib.hid (fun n => below_drewN (BW8w2.out.trans (HB.out.mono BW8w2.out.size)) n)
          have HD6761 : Hid (∀ n, Below w3.heap.size w3 ((wr).drewN n)) := Lib.hid (fun n => below_drewN (BW8w3.out.trans (HB.out.mono BW8w3.out.size)) n)
          have HD6762 : Hid (∀ n, Below w8.heap.size w8 ((wr).drewN n)) := Lib.hid (fun n => below_drewN HB.out n)
          have HE6763 : Hid (∀ n, ((wr).drewN n).heap[w3.heap.size]? = some (.cells #[Value.slice A (bk cv).length c] 33 (0, 0))) := Lib.hid (fun n => HXa.out)
          have HE6764 : Hid (∀ n, ((wr).drewN n).heap[w3.heap.size + 1]? = some (.cells #[Value.slice D (bk dv).length d] 33 (0, 0))) := Lib.hid (fun n => HXb.out)
          have HE6765 : Hid (∀ n, ((wr).drewN n).heap[w8.heap.size]? = some (.cells #[Value.slice As (bk sv).length cs] 33 (0, 0))) := Lib.hid (fun n => HXs.out)
          go_region_held3 (fun W => W.cell? ⟨w3.heap.size + 1, 0, none⟩ = some (Value.slice D (bk dv).length d) ∧ W.cell? ⟨w3.heap.size, 0, none⟩ = some (Value.slice A (bk cv).length c))
            (first | exact ⟨cell_of_row _ (w3.heap.size + 1) 0 _ _ _ HK6780.out, cell_of_row _ (w3.heap.size) 0 _ _ _ HK6779.out⟩ | exact ⟨cell_of_row _ (w3.heap.size + 1) 0 _ _ _ HK6772.out, cell_of_row _ (w3.heap.size) 0 _ _ _ HK6771.out⟩ | exact ⟨cell_of_row _ (w3.heap.size + 1) 0 _ _ _ (HE6764.out _), cell_of_row _ (w3.heap.size) 0 _ _ _ (HE6763.out _)⟩ | assumption)
            ((first
              | (go_at_call 28; have hgd := HB6767; clear hgd; refine (HA1.out _ _ _ (HRa.out _ HB6768.out)).mono ?_; rintro e v6774 ⟨rfl, hb⟩; have HB6775 := Lib.hid (HB6767.out.trans (hb.mono HB6767.out.size)); have HB6776 := Lib.hid (HB6768.out.trans (hb.mono HB6768.out.size)); have HB6777 := Lib.hid (HB6769.out.trans (hb.mono HB6769.out.size)); have HB6778 := Lib.hid (HB6770.out.trans (hb.mono HB6770.out.size)); have HK6779 := Lib.hid ((hb.block (w3.heap.size) ((Array.getElem?_eq_some_iff.1 HK6771.out).1)).trans HK6771.out); have HK6780 := Lib.hid ((hb.block (w3.heap.size + 1) ((Array.getElem?_eq_some_iff.1 HK6772.out).1)).trans HK6772.out); have HK6781 := Lib.hid ((hb.block (w8.heap.size) ((Array.getElem?_eq_some_iff.1 HK6773.out).1)).trans HK6773.out); clear hb)
              | (go_at_call 28; refine (HA2.out _ _ _ (HRb.out _ (HD6761.out _))).mono ?_; rintro e v6766 ⟨rfl, hb⟩; have HB6767 := Lib.hid ((HD6759.out _).trans (hb.mono (HD6759.out _).size)); have HB6768 := Lib.hid ((HD6760.out _).trans (hb.mono (HD6760.out _).size)); have HB6769 := Lib.hid ((HD6761.out _).trans (hb.mono (HD6761.out _).size)); have HB6770 := Lib.hid ((HD6762.out _).trans (hb.mono (HD6762.out _).size)); have HK6771 := Lib.hid ((hb.block (w3.heap.size) ((Array.getElem?_eq_some_iff.1 (HE6763.out _)).1)).trans (HE6763.out _)); have HK6772 := Lib.hid ((hb.block (w3.heap.size + 1) ((Array.getElem?_eq_some_iff.1 (HE6764.out _)).1)).trans (HE6764.out _)); have HK6773 := Lib.hid ((hb.block (w8.heap.size) ((Array.getElem?_eq_some_iff.1 (HE6765.out _)).1)).trans (HE6765.out _)); clear hb)
              | fail))
          go_wp2_with fail
          have HD6782 : Hid (∀ n, Below w.heap.size w ((v6774).drewN n)) := Lib.hid (fun n => below_drewN HB6775.out n)
          have HD6783 : Hid (∀ n, Below w2.heap.size w2 ((v6774).drewN n)) := Lib.hid (fun n => below_drewN HB6776.out n)
          have HD6784 : Hid (∀ n, Below w3.heap.size w3 ((v6774).drewN n)) := Lib.hid (fun n => below_drewN HB6777.out n)
          have HD6785 : Hid (∀ n, Below w8.heap.size w8 ((v6774).drewN n)) := Lib.hid (fun n => below_drewN HB6778.out n)
          have HE6786 : Hid (∀ n, ((v6774).drewN n).heap[w3.heap.size]? = some (.cells #[Value.slice A (bk cv).length c] 33 (0, 0))) := Lib.hid (fun n => HK6779.out)
          have HE6787 : Hid (∀ n, ((v6774).drewN n).heap[w3.heap.size + 1]? = some (.cells #[Value.slice D (bk dv).length d] 33 (0, 0))) := Lib.hid (fun n => HK6780.out)
          have HE6788 : Hid (∀ n, ((v6774).drewN n).heap[w8.heap.size]? = some (.cells #[Value.slice As (bk sv).length cs] 33 (0, 0))) := Lib.hid (fun n => HK6781.out)
          go_region_held3 (fun W => W.cell? ⟨w8.heap.size, 0, none⟩ = some (Value.slice As (bk sv).length cs) ∧ W.cell? ⟨w3.heap.size, 0, none⟩ = some (Value.slice A (bk cv).length c) ∧ W.cell? ⟨w3.heap.size + 1, 0, none⟩ = some (Value.slice D (bk dv).length d))
            (first | exact ⟨cell_of_row _ (w8.heap.size) 0 _ _ _ HK6812.out, cell_of_row _ (w3.heap.size) 0 _ _ _ HK6810.out, cell_of_row _ (w3.heap.size + 1) 0 _ _ _ HK6811.out⟩ | exact ⟨cell_of_row _ (w8.heap.size) 0 _ _ _ HK6804.out, cell_of_row _ (w3.heap.size) 0 _ _ _ HK6802.out, cell_of_row _ (w3.heap.size + 1) 0 _ _ _ HK6803.out⟩ | exact ⟨cell_of_row _ (w8.heap.size) 0 _ _ _ HK6796.out, cell_of_row _ (w3.heap.size) 0 _ _ _ HK6794.out, cell_of_row _ (w3.heap.size + 1) 0 _ _ _ HK6795.out⟩ | exact ⟨cell_of_row _ (w8.heap.size) 0 _ _ _ (HE6788.out _), cell_of_row _ (w3.heap.size) 0 _ _ _ (HE6786.out _), cell_of_row _ (w3.heap.size + 1) 0 _ _ _ (HE6787.out _)⟩ | assumption)
            ((first
              | (go_at_call 28; have hgd := HB6798; clear hgd; refine (HA2.out _ _ _ (HRb.out _ HB6800.out)).mono ?_; rintro e v6805 ⟨rfl, hb⟩; have HB6806 := Lib.hid (HB6798.out.trans (hb.mono HB6798.out.size)); have HB6807 := Lib.hid (HB6799.out.trans (hb.mono HB6799.out.size)); have HB6808 := Lib.hid (HB6800.out.trans (hb.mono HB6800.out.size)); have HB6809 := Lib.hid (HB6801.out.trans (hb.mono HB6801.out.size)); have HK6810 := Lib.hid ((hb.block (w3.heap.size) ((Array.getElem?_eq_some_iff.1 HK6802.out).1)).trans HK6802.out); have HK6811 := Lib.hid ((hb.block (w3.heap.size + 1) ((Array.getElem?_eq_some_iff.1 HK6803.out).1)).trans HK6803.out); have HK6812 := Lib.hid ((hb.block (w8.heap.size) ((Array.getElem?_eq_some_iff.1 HK6804.out).1)).trans HK6804.out); clear hb)
              | (go_at_call 28; have hgd := HB6790; clear hgd; refine (HA1.out _ _ _ (HRa.out _ HB6791.out)).mono ?_; rintro e v6797 ⟨rfl, hb⟩; have HB6798 := Lib.hid (HB6790.out.trans (hb.mono HB6790.out.size)); have HB6799 := Lib.hid (HB6791.out.trans (hb.mono HB6791.out.size)); have HB6800 := Lib.hid (HB6792.out.trans (hb.mono HB6792.out.size)); have HB6801 := Lib.hid (HB6793.out.trans (hb.mono HB6793.out.size)); have HK6802 := Lib.hid ((hb.block (w3.heap.size) ((Array.getElem?_eq_some_iff.1 HK6794.out).1)).trans HK6794.out); have HK6803 := Lib.hid ((hb.block (w3.heap.size + 1) ((Array.getElem?_eq_some_iff.1 HK6795.out).1)).trans HK6795.out); have HK6804 := Lib.hid ((hb.block (w8.heap.size) ((Array.getElem?_eq_some_iff.1 HK6796.out).1)).trans HK6796.out); clear hb)
              | (go_at_call 28; refine (HA3.out _ _ _ (HRs.out _ (HD6785.out _))).mono ?_; rintro e v6789 ⟨rfl, hb⟩; have HB6790 := Lib.hid ((HD6782.out _).trans (hb.mono (HD6782.out _).size)); have HB6791 := Lib.hid ((HD6783.out _).trans (hb.mono (HD6783.out _).size)); have HB6792 := Lib.hid ((HD6784.out _).trans (hb.mono (HD6784.out _).size)); have HB6793 := Lib.hid ((HD6785.out _).trans (hb.mono (HD6785.out _).size)); have HK6794 := Lib.hid ((hb.block (w3.heap.size) ((Array.getElem?_eq_some_iff.1 (HE6786.out _)).1)).trans (HE6786.out _)); have HK6795 := Lib.hid ((hb.block (w3.heap.size + 1) ((Array.getElem?_eq_some_iff.1 (HE6787.out _)).1)).trans (HE6787.out _)); have HK6796 := Lib.hid ((hb.block (w8.heap.size) ((Array.getElem?_eq_some_iff.1 (HE6788.out _)).1)).trans (HE6788.out _)); clear hb)
              | fail))
          go_wp2_with fail
          go_roundw
          case rel => exact ⟨k + 1, by omega, by first | rfl | simp, by go_num, HK6810, HK6811, HK6812, HB6809⟩
          case measure => simp [intOf] <;> omega
        · obtain rfl : k = 305 := by omega
          have kc7259 := cell_of_row _ (w3.heap.size) 0 _ _ _ HXa.out
          try simp at kc7259
          have kc7260 := cell_of_row _ (w3.heap.size + 1) 0 _ _ _ HXb.out
          try simp at kc7260
          have kc7261 := cell_of_row _ (w8.heap.size) 0 _ _ _ HXs.out
          try simp at kc7261
          go_wp2_with fail
          refine (HCk.out _ _ _ (HRs.out _ HB.out)).mono ?_
          rintro e w9 ⟨rfl, hb⟩
          have HB7262 := Lib.hid ((BW8w.out.trans (HB.out.mono BW8w.out.size)).trans (hb.mono (BW8w.out.trans (HB.out.mono BW8w.out.size)).size))
          have HB7263 := Lib.hid ((BW8w2.out.trans (HB.out.mono BW8w2.out.size)).trans (hb.mono (BW8w2.out.trans (HB.out.mono BW8w2.out.size)).size))
          have HB7264 := Lib.hid ((BW8w3.out.trans (HB.out.mono BW8w3.out.size)).trans (hb.mono (BW8w3.out.trans (HB.out.mono BW8w3.out.size)).size))
          have HB7265 := Lib.hid (HB.out.trans (hb.mono HB.out.size))
          have HK7266 := Lib.hid ((hb.block (w3.heap.size) ((Array.getElem?_eq_some_iff.1 HXa.out).1)).trans HXa.out)
          have HK7267 := Lib.hid ((hb.block (w3.heap.size + 1) ((Array.getElem?_eq_some_iff.1 HXb.out).1)).trans HXb.out)
          have HK7268 := Lib.hid ((hb.block (w8.heap.size) ((Array.getElem?_eq_some_iff.1 HXs.out).1)).trans HXs.out)
          clear hb
          clear kc7259 kc7260 kc7261
          go_wp2_with fail
          go_ret
          exact ⟨by first | rfl | simp, HB7262.out⟩
    · have HSu := Lib.hid (fun W A c D d h1 h2 => subtract_bad A c D d cv dv hC hD hcf W h1 h2)
      have HCf := Lib.hid hcf
      clear hcf hC hD
      have kc8229 := cell_of_row _ (w3.heap.size) 0 _ _ _ HK5224.out
      try simp at kc8229
      have kc8230 := cell_of_row _ (w3.heap.size + 1) 0 _ _ _ HK5225.out
      try simp at kc8230
      have kc8231 := cell_of_row _ (w4.heap.size) 0 _ _ _ HK5226.out
      try simp at kc8231
      have kc8232 := cell_of_row _ (w5.heap.size) 0 _ _ _ HK5227.out
      try simp at kc8232
      have kc8233 := cell_of_row _ (w6.heap.size) 0 _ _ _ HK5228.out
      try simp at kc8233
      go_wp2_with fail
      refine (HSu.out _ _ _ _ _ (HRa.out _ HB5219.out) (HRb.out _ HB5220.out)).mono ?_
      rintro e w8 ⟨rfl, hb⟩
      have HB8234 := Lib.hid (HB5218.out.trans (hb.mono HB5218.out.size))
      have HB8235 := Lib.hid (HB5219.out.trans (hb.mono HB5219.out.size))
      have HB8236 := Lib.hid (HB5220.out.trans (hb.mono HB5220.out.size))
      have HB8237 := Lib.hid (HB5221.out.trans (hb.mono HB5221.out.size))
      have HB8238 := Lib.hid (HB5222.out.trans (hb.mono HB5222.out.size))
      have HB8239 := Lib.hid (HB5223.out.trans (hb.mono HB5223.out.size))
      have HK8240 := Lib.hid ((hb.block (w3.heap.size) ((Array.getElem?_eq_some_iff.1 HK5224.out).1)).trans HK5224.out)
      have HK8241 := Lib.hid ((hb.block (w3.heap.size + 1) ((Array.getElem?_eq_some_iff.1 HK5225.out).1)).trans HK5225.out)
      have HK8242 := Lib.hid ((hb.block (w4.heap.size) ((Array.getElem?_eq_some_iff.1 HK5226.out).1)).trans HK5226.out)
      have HK8243 := Lib.hid ((hb.block (w5.heap.size) ((Array.getElem?_eq_some_iff.1 HK5227.out).1)).trans HK5227.out)
      have HK8244 := Lib.hid ((hb.block (w6.heap.size) ((Array.getElem?_eq_some_iff.1 HK5228.out).1)).trans HK5228.out)
      clear hb
      clear kc8229 kc8230 kc8231 kc8232 kc8233
      have BW8w := HB8234
      have BW8w2 := HB8235
      have BW8w3 := HB8236
      have HB8245 : Hid (Below w8.heap.size w8 w8) := Lib.hid (Below.refl _ _)
      have HB8246 := Lib.hid (HB8234.out.alloc HB8234.out.size (.cells #[Value.slice none 0 0] 33))
      have HB8247 := Lib.hid (HB8235.out.alloc HB8235.out.size (.cells #[Value.slice none 0 0] 33))
      have HB8248 := Lib.hid (HB8236.out.alloc HB8236.out.size (.cells #[Value.slice none 0 0] 33))
      have HB8249 := Lib.hid (HB8237.out.alloc HB8237.out.size (.cells #[Value.slice none 0 0] 33))
      have HB8250 := Lib.hid (HB8238.out.alloc HB8238.out.size (.cells #[Value.slice none 0 0] 33))
      have HB8251 := Lib.hid (HB8239.out.alloc HB8239.out.size (.cells #[Value.slice none 0 0] 33))
      have HB8252 := Lib.hid (HB8245.out.alloc HB8245.out.size (.cells #[Value.slice none 0 0] 33))
      have HK8253 := Lib.hid ((Below.heap_alloc w8 (.cells #[Value.slice none 0 0] 33) (w3.heap.size) ((Array.getElem?_eq_some_iff.1 HK8240.out).1)).trans HK8240.out)
      have HK8254 := Lib.hid ((Below.heap_alloc w8 (.cells #[Value.slice none 0 0] 33) (w3.heap.size + 1) ((Array.getElem?_eq_some_iff.1 HK8241.out).1)).trans HK8241.out)
      have HK8255 := Lib.hid ((Below.heap_alloc w8 (.cells #[Value.slice none 0 0] 33) (w4.heap.size) ((Array.getElem?_eq_some_iff.1 HK8242.out).1)).trans HK8242.out)
      have HK8256 := Lib.hid ((Below.heap_alloc w8 (.cells #[Value.slice none 0 0] 33) (w5.heap.size) ((Array.getElem?_eq_some_iff.1 HK8243.out).1)).trans HK8243.out)
      have HK8257 := Lib.hid ((Below.heap_alloc w8 (.cells #[Value.slice none 0 0] 33) (w6.heap.size) ((Array.getElem?_eq_some_iff.1 HK8244.out).1)).trans HK8244.out)
      have HK8258 := Lib.hid (Deep.blk_alloc_new w8 (.cells #[Value.slice none 0 0] 33))
      go_wp2_with fail
      go_loopw [15, 16] (fun cv' iv wr => ∃ (k : Nat) (cb : Bool), k ≤ 305 ∧ cv' = .bool cb ∧ iv = .int .i64 (k : Int) ∧ Hid (wr.heap[w3.heap.size]? = some (.cells #[Value.slice A (bk cv).length c] 33 (0, 0))) ∧ Hid (wr.heap[w3.heap.size + 1]? = some (.cells #[Value.slice D (bk dv).length d] 33 (0, 0))) ∧ Hid (wr.heap[w8.heap.size]? = some (.cells #[Value.slice none 0 0] 33 (0, 0))) ∧ Hid (Below w8.heap.size w8 wr) ∧ Hid (cb = true ↔ ∃ i, i < k ∧ cv.getD i 0 < dv.getD i 0)) (fun _ iv _ => 305 - (intOf iv).toNat)
      case atStart => exact ⟨0, false, Nat.zero_le _, rfl, rfl, HK8253, HK8254, HK8258, HB8252, Lib.hid ⟨fun h => (by cases h), fun ⟨i, hi, _⟩ => absurd hi (by omega)⟩⟩
      case round =>
        obtain ⟨k, cb, hk, rfl, rfl, HXa, HXb, HXs, HB, HI⟩ := hrel
        have hk0 : (0 : Int) ≤ (k : Int) := by omega
        by_cases hlt : k < 305
        · have hkI : (k : Int) < 305 := by omega
          have hw1 : IntKind.i64.wrap ((k : Int) + 1) = (k : Int) + 1 := by simp only [IntKind.wrap_i64]; omega
          have hb1 := HBc.out k
          have hb2 := HBe.out k
          have HA1 := Lib.hid (fun W A c h => HAa.out W A c k hlt h)
          have HA2 := Lib.hid (fun W A c h => HAb.out W A c k hlt h)
          obtain ⟨y, hy⟩ : ∃ y, y = cv.getD k 0 := ⟨_, rfl⟩
          obtain ⟨x, hx⟩ : ∃ x, x = dv.getD k 0 := ⟨_, rfl⟩
          rw [← hy] at hb1 HA1
          rw [← hx] at hb2 HA2
          have HY := Lib.hid hy
          have HX := Lib.hid hx
          clear hy hx
          have HNx : ∀ t : Bool, (t = true ↔ y < x) → Hid ((cb || t) = true ↔ ∃ i, i < k + 1 ∧ cv.getD i 0 < dv.getD i 0) := fun t ht => Lib.hid (by
            rw [Bool.or_eq_true, HI.out, ht, HY.out, HX.out]
            constructor
            · rintro (⟨i, hi, h⟩ | h)
              · exact ⟨i, by omega, h⟩
              · exact ⟨k, by omega, h⟩
            · rintro ⟨i, hi, h⟩
              by_cases e : i = k
              · subst e; exact .inr h
              · exact .inl ⟨i, by omega, h⟩)
          cases cb
          · by_cases hyx : y < x
            · have hd1 : decide (y < x) = true := by simpa using hyx
              have HN2 := HNx true (by simp [hyx])
              go_wp2_with fail
              have HD8759 : Hid (∀ n, Below w.heap.size w ((wr).drewN n)) := Lib.hid (fun n => below_drewN (BW8w.out.trans (HB.out.mono BW8w.out.size)) n)
              have HD8760 : Hid (∀ n, Below w2.heap.size w2 ((wr).drewN n)) := Lib.hid (fun n => below_drewN (BW8w2.out.trans (HB.out.mono BW8w2.out.size)) n)
              have HD8761 : Hid (∀ n, Below w3.heap.size w3 ((wr).drewN n)) := Lib.hid (fun n => below_drewN (BW8w3.out.trans (HB.out.mono BW8w3.out.size)) n)
              have HD8762 : Hid (∀ n, Below w8.heap.size w8 ((wr).drewN n)) := Lib.hid (fun n => below_drewN HB.out n)
              have HE8763 : Hid (∀ n, ((wr).drewN n).heap[w3.heap.size]? = some (.cells #[Value.slice A (bk cv).length c] 33 (0, 0))) := Lib.hid (fun n => HXa.out)
              have HE8764 : Hid (∀ n, ((wr).drewN n).heap[w3.heap.size + 1]? = some (.cells #[Value.slice D (bk dv).length d] 33 (0, 0))) := Lib.hid (fun n => HXb.out)
              have HE8765 : Hid (∀ n, ((wr).drewN n).heap[w8.heap.size]? = some (.cells #[Value.slice none 0 0] 33 (0, 0))) := Lib.hid (fun n => HXs.out)
              go_region_held3 (fun W => W.cell? ⟨w3.heap.size + 1, 0, none⟩ = some (Value.slice D (bk dv).length d) ∧ W.cell? ⟨w3.heap.size, 0, none⟩ = some (Value.slice A (bk cv).length c))
                (first | exact ⟨cell_of_row _ (w3.heap.size + 1) 0 _ _ _ HK8780.out, cell_of_row _ (w3.heap.size) 0 _ _ _ HK8779.out⟩ | exact ⟨cell_of_row _ (w3.heap.size + 1) 0 _ _ _ HK8772.out, cell_of_row _ (w3.heap.size) 0 _ _ _ HK8771.out⟩ | exact ⟨cell_of_row _ (w3.heap.size + 1) 0 _ _ _ (HE8764.out _), cell_of_row _ (w3.heap.size) 0 _ _ _ (HE8763.out _)⟩ | assumption)
                ((first
                  | (go_at_call 28; have hgd := HB8767; clear hgd; refine (HA1.out _ _ _ (HRa.out _ HB8768.out)).mono ?_; rintro e v8774 ⟨rfl, hb⟩; have HB8775 := Lib.hid (HB8767.out.trans (hb.mono HB8767.out.size)); have HB8776 := Lib.hid (HB8768.out.trans (hb.mono HB8768.out.size)); have HB8777 := Lib.hid (HB8769.out.trans (hb.mono HB8769.out.size)); have HB8778 := Lib.hid (HB8770.out.trans (hb.mono HB8770.out.size)); have HK8779 := Lib.hid ((hb.block (w3.heap.size) ((Array.getElem?_eq_some_iff.1 HK8771.out).1)).trans HK8771.out); have HK8780 := Lib.hid ((hb.block (w3.heap.size + 1) ((Array.getElem?_eq_some_iff.1 HK8772.out).1)).trans HK8772.out); have HK8781 := Lib.hid ((hb.block (w8.heap.size) ((Array.getElem?_eq_some_iff.1 HK8773.out).1)).trans HK8773.out); clear hb)
                  | (go_at_call 28; refine (HA2.out _ _ _ (HRb.out _ (HD8761.out _))).mono ?_; rintro e v8766 ⟨rfl, hb⟩; have HB8767 := Lib.hid ((HD8759.out _).trans (hb.mono (HD8759.out _).size)); have HB8768 := Lib.hid ((HD8760.out _).trans (hb.mono (HD8760.out _).size)); have HB8769 := Lib.hid ((HD8761.out _).trans (hb.mono (HD8761.out _).size)); have HB8770 := Lib.hid ((HD8762.out _).trans (hb.mono (HD8762.out _).size)); have HK8771 := Lib.hid ((hb.block (w3.heap.size) ((Array.getElem?_eq_some_iff.1 (HE8763.out _)).1)).trans (HE8763.out _)); have HK8772 := Lib.hid ((hb.block (w3.heap.size + 1) ((Array.getElem?_eq_some_iff.1 (HE8764.out _)).1)).trans (HE8764.out _)); have HK8773 := Lib.hid ((hb.block (w8.heap.size) ((Array.getElem?_eq_some_iff.1 (HE8765.out _)).1)).trans (HE8765.out _)); clear hb)
                  | fail))
              go_wp2_with fail
              go_quiet (fail)
              go_wp2_with fail
              go_roundw
              case rel => exact ⟨k + 1, true, by omega, by first | rfl | simp, by go_num, HK8779, HK8780, HK8781, Lib.hid (by first | exact HB8778.out | exact below_drewN HB8778.out _), HN2⟩
              case measure => simp [intOf] <;> omega
            · have hd1 : decide (y < x) = false := by simpa using hyx
              have HN2 := HNx false (by simp [hyx])
              go_wp2_with fail
              have HD9059 : Hid (∀ n, Below w.heap.size w ((wr).drewN n)) := Lib.hid (fun n => below_drewN (BW8w.out.trans (HB.out.mono BW8w.out.size)) n)
              have HD9060 : Hid (∀ n, Below w2.heap.size w2 ((wr).drewN n)) := Lib.hid (fun n => below_drewN (BW8w2.out.trans (HB.out.mono BW8w2.out.size)) n)
              have HD9061 : Hid (∀ n, Below w3.heap.size w3 ((wr).drewN n)) := Lib.hid (fun n => below_drewN (BW8w3.out.trans (HB.out.mono BW8w3.out.size)) n)
              have HD9062 : Hid (∀ n, Below w8.heap.size w8 ((wr).drewN n)) := Lib.hid (fun n => below_drewN HB.out n)
              have HE9063 : Hid (∀ n, ((wr).drewN n).heap[w3.heap.size]? = some (.cells #[Value.slice A (bk cv).length c] 33 (0, 0))) := Lib.hid (fun n => HXa.out)
              have HE9064 : Hid (∀ n, ((wr).drewN n).heap[w3.heap.size + 1]? = some (.cells #[Value.slice D (bk dv).length d] 33 (0, 0))) := Lib.hid (fun n => HXb.out)
              have HE9065 : Hid (∀ n, ((wr).drewN n).heap[w8.heap.size]? = some (.cells #[Value.slice none 0 0] 33 (0, 0))) := Lib.hid (fun n => HXs.out)
              go_region_held3 (fun W => W.cell? ⟨w3.heap.size + 1, 0, none⟩ = some (Value.slice D (bk dv).length d) ∧ W.cell? ⟨w3.heap.size, 0, none⟩ = some (Value.slice A (bk cv).length c))
                (first | exact ⟨cell_of_row _ (w3.heap.size + 1) 0 _ _ _ HK9080.out, cell_of_row _ (w3.heap.size) 0 _ _ _ HK9079.out⟩ | exact ⟨cell_of_row _ (w3.heap.size + 1) 0 _ _ _ HK9072.out, cell_of_row _ (w3.heap.size) 0 _ _ _ HK9071.out⟩ | exact ⟨cell_of_row _ (w3.heap.size + 1) 0 _ _ _ (HE9064.out _), cell_of_row _ (w3.heap.size) 0 _ _ _ (HE9063.out _)⟩ | assumption)
                ((first
                  | (go_at_call 28; have hgd := HB9067; clear hgd; refine (HA1.out _ _ _ (HRa.out _ HB9068.out)).mono ?_; rintro e v9074 ⟨rfl, hb⟩; have HB9075 := Lib.hid (HB9067.out.trans (hb.mono HB9067.out.size)); have HB9076 := Lib.hid (HB9068.out.trans (hb.mono HB9068.out.size)); have HB9077 := Lib.hid (HB9069.out.trans (hb.mono HB9069.out.size)); have HB9078 := Lib.hid (HB9070.out.trans (hb.mono HB9070.out.size)); have HK9079 := Lib.hid ((hb.block (w3.heap.size) ((Array.getElem?_eq_some_iff.1 HK9071.out).1)).trans HK9071.out); have HK9080 := Lib.hid ((hb.block (w3.heap.size + 1) ((Array.getElem?_eq_some_iff.1 HK9072.out).1)).trans HK9072.out); have HK9081 := Lib.hid ((hb.block (w8.heap.size) ((Array.getElem?_eq_some_iff.1 HK9073.out).1)).trans HK9073.out); clear hb)
                  | (go_at_call 28; refine (HA2.out _ _ _ (HRb.out _ (HD9061.out _))).mono ?_; rintro e v9066 ⟨rfl, hb⟩; have HB9067 := Lib.hid ((HD9059.out _).trans (hb.mono (HD9059.out _).size)); have HB9068 := Lib.hid ((HD9060.out _).trans (hb.mono (HD9060.out _).size)); have HB9069 := Lib.hid ((HD9061.out _).trans (hb.mono (HD9061.out _).size)); have HB9070 := Lib.hid ((HD9062.out _).trans (hb.mono (HD9062.out _).size)); have HK9071 := Lib.hid ((hb.block (w3.heap.size) ((Array.getElem?_eq_some_iff.1 (HE9063.out _)).1)).trans (HE9063.out _)); have HK9072 := Lib.hid ((hb.block (w3.heap.size + 1) ((Array.getElem?_eq_some_iff.1 (HE9064.out _)).1)).trans (HE9064.out _)); have HK9073 := Lib.hid ((hb.block (w8.heap.size) ((Array.getElem?_eq_some_iff.1 (HE9065.out _)).1)).trans (HE9065.out _)); clear hb)
                  | fail))
              go_wp2_with fail
              go_quiet (fail)
              go_wp2_with fail
              go_roundw
              case rel => exact ⟨k + 1, false, by omega, by first | rfl | simp, by go_num, HK9079, HK9080, HK9081, Lib.hid (by first | exact HB9078.out | exact below_drewN HB9078.out _), HN2⟩
              case measure => simp [intOf] <;> omega
          · have HN2 : Hid (true = true ↔ ∃ i, i < k + 1 ∧ cv.getD i 0 < dv.getD i 0) := Lib.hid ⟨fun _ => (HNx (decide (y < x)) (by simp)).out.1 (by simp), fun _ => rfl⟩
            go_wp2_with fail
            go_quiet (fail)
            go_wp2_with fail
            go_quiet (fail)
            go_wp2_with fail
            go_roundw
            case rel => exact ⟨k + 1, true, by omega, by first | rfl | simp, by go_num, HXa, HXb, HXs, Lib.hid (by first | exact below_drewN HB.out _ | exact below_drewN (below_drewN HB.out _) _), Lib.hid ⟨fun _ => HN2.out.1 (by simp), fun _ => rfl⟩⟩
            case measure => simp [intOf] <;> omega
        · obtain rfl : k = 305 := by omega
          obtain rfl : cb = true := HI.out.2 HCf.out
          have kc9459 := cell_of_row _ (w3.heap.size) 0 _ _ _ HXa.out
          try simp at kc9459
          have kc9460 := cell_of_row _ (w3.heap.size + 1) 0 _ _ _ HXb.out
          try simp at kc9460
          have kc9461 := cell_of_row _ (w8.heap.size) 0 _ _ _ HXs.out
          try simp at kc9461
          go_wp2_with fail
          go_ret
          exact ⟨by first | rfl | simp, (BW8w.out.trans (HB.out.mono BW8w.out.size))⟩
set_option maxRecDepth 100000 in
theorem lifted (os : Os) (started : os.Started) (H : Type) (enc : TypeId × Value → H) :
    ReturnsInHanded {} Try.checked os 8 .any (Rows.histogramMergesSpec.pre6 enc Try.prog Try.f8 Rows.histogramMergesRow.domain false) (Rows.histogramMergesSpec.post enc Try.prog Try.f8 false true false false) := by
  refine returnsInHanded_of_change (C := Try.checked) own started (by kernel_rfl) Try.func8
    (ChangeSpec.witness6 (enc := enc) (C := Try.checked) false ⟨#[], #[.slice none 0 0, .slice none 0 0], []⟩ 8 (by kernel_rfl) (by kernel_rfl) (by kernel_rfl) (by kernel_rfl)) ?_
  intro W base args ds gs before hval0 hW _ _
  have hval : ∀ (j : Nat) t v, Try.f8.params[j]? = some t → args[j]? = some v → Value.okWide Try.prog W .any base t v := hval0
  have hW' := hW
  obtain ⟨p, q, hA0, hV, rfl, _, _⟩ := hW
  have hA : DataW.TrodAll enc Try.prog W 0 (fun _ => true) true Try.f8.params.toList args.toList ds p := hA0
  rw [Try.params8] at hA hval
  obtain ⟨v0, vs0, d0, ds0, p0, q0, hargs0, rfl, rfl, h0, r0⟩ := trodAll_cons hA
  obtain ⟨v1, vs1, d1, ds1, p1, q1, hargs1, rfl, rfl, h1, r1⟩ := trodAll_cons r0
  obtain ⟨rfl, rfl, rfl⟩ := trodAll_nil r1
  obtain rfl : args = #[v0, v1] := by cases args; simp_all
  obtain ⟨rfl, rfl⟩ := trodVars_none hV
  have lt0 : ∀ x ∈ p0, x.block < W.heap.size := fun x hx => hW'.lt x (by simp [hx])
  obtain ⟨A0, c0, L0, rfl, hL0, hs0, hR0⟩ := open_numb (hval 0 36 v0 rfl rfl) h0 lt0
  have lt1 : ∀ x ∈ p1, x.block < W.heap.size := fun x hx => hW'.lt x (by simp [hx])
  obtain ⟨A1, c1, L1, rfl, hL1, hs1, hR1⟩ := open_numb (hval 1 36 v1 rfl rfl) h1 lt1
  clear hA0 hval0
  simp only [List.append_nil] at hW'
  refine (walk W A0 c0 L0 hL0 hs0 hR0 A1 c1 L1 hL1 hs1 hR1).mono fun e W' ⟨he, hb⟩ => ?_
  subst he
  exact ⟨_, rfl, post_mem hW' hb (fun _ _ _ => trodAll_mk1 (shut_bool Try.underlying4 _)) (fun sp hsp => by
    have t := trodAll_cons_mk (carry laidOut (by kernel_rfl) (of_decide_eq_true (by kernel_rfl)) h0 hb lt0 sp (fun x hx => hsp x (by simp [hx]))) (trodAll_cons_mk (carry laidOut (by kernel_rfl) (of_decide_eq_true (by kernel_rfl)) h1 hb lt1 sp (fun x hx => hsp x (by simp [hx]))) trodAll_mk0)
    simp only [List.append_nil] at t
    exact t) (fun _ => rfl) (ok_one (by kernel_rfl) rfl (okWide_bool_mk Try.underlying4 _))⟩

theorem proved : Rows.HistogramMergesSaid :=
  OpenClaim.holds_of_wide 8 Try.f8 rfl rfl rfl rfl rfl rfl rfl ⟨rfl, rfl, rfl, rfl, rfl⟩ rfl rfl rfl rfl rfl (by kernel_rfl) Try.func8 (by kernel_rfl)
    (of_decide_eq_true (by kernel_rfl)) (by unfold Func.isWrapper; first | (rw [if_pos (by decide +kernel)]; kernel_rfl) | (rw [if_neg (by decide +kernel)]; exact ⟨rfl, rfl⟩))
    (fun os started H enc _ => lifted os started H enc)

end Go.Proofs.Ytolgcphmmghlbaa.lawMerges
