/- HistogramScales: for any numbers, any number the law returns true (written by wip/bin/gen_hsca.py). -/
import Derived.Test.YtolgcphmmghlbaaIa
import Derived.Test.YtolgcphmmghlbaaHk
import Derived.Test.YtolgcphmmghlbaaIb
import Derived.Test.YtolgcphmmghlbaaHm
import Derived.Test.YtolgcphmmghlbaaHv
namespace Go.Proofs.Ytolgcphmmghlbaa.lawScales
open Go.Proofs.Ytolgcphmmghlbaa Go.ChangeShapes Go.WideShapes Go.ChangeAt Go.RowKit Go.Joins

theorem laidOut : laidOutB Try.prog = true := by kernel_rfl
set_option maxRecDepth 100000 in
set_option maxHeartbeats 8000000 in
theorem walk_bad (w : World) (A0 : Option Addr) (c0 : Nat) (L0 : List Int) (hL0 : L0.length ≤ 9223372036854775807) (hs0 : ∀ x ∈ L0, -9223372036854775808 ≤ x ∧ x ≤ 9223372036854775807) (hR0 : Rd (Value.int .i64) w A0 L0) (m : Int)
    (hk : m < 0 ∨ (0 ≤ m ∧ 0 < (vsN L0 40).length ∧ (1048576 : Int).tdiv ((vsN L0 40).length : Int) < m)) :
    Calls Try.prog 9 #[.slice A0 L0.length c0, .int .i64 m] w fun e w' => e = .returned (.bool true) ∧ Below w.heap.size w w' := by
  have HOf := Lib.hid (fun W h => lof_any A0 c0 L0 hL0 hs0 W h)
  have HR := Lib.hid (fun W (hb : Below w.heap.size w W) => hR0.below hb)
  have hln := vsN_len L0 40
  have hok := vsN_ok L0 40
  clear hR0 hs0 hL0
  obtain ⟨M, hM⟩ : ∃ M, M = vsN L0 40 := ⟨_, rfl⟩
  rw [← hM] at HOf hln hok hk
  clear hM
  have hC := Cv.of M (by omega) hok
  have hto := sN_cvN M hok M.length (Nat.le_refl _)
  rw [show bkS M = bk (cvN M M.length) from rfl] at HOf
  obtain ⟨cv, hcv⟩ : ∃ cv, cv = cvN M M.length := ⟨_, rfl⟩
  rw [← hcv] at HOf hC hto
  obtain ⟨ml, hml⟩ : ∃ ml, ml = M.length := ⟨_, rfl⟩
  rw [← hml] at hto hln hk
  clear hcv hml hok
  have hzc := Cv.zero
  have hzn : sN (List.replicate 305 (0 : Int)) 305 = 0 := by
    have : ∀ n, sN (List.replicate 305 (0 : Int)) n = 0 := by
      intro n
      induction n with
      | zero => rfl
      | succ n ih => show sN _ n + _ = 0; rw [ih, rep_get]; omega
    exact this 305
  have h7 := ix_lt 7 (by omega)
  have hF := hzc.add (ix 7) 1048576 h7 (by omega) (by rw [hzn]; omega)
  have HFu := Lib.hid (fun W A c h => add_ok A c (List.replicate 305 0) hzc 7 (by omega) 1048576 (by omega) (by rw [hzn]; omega) W h)
  rw [bk_zero] at HFu
  have hfs := adC_sum (List.replicate 305 0) (ix 7) 1048576 h7 hzc.len
  rw [hzn] at hfs
  obtain ⟨fu, hfu⟩ : ∃ fu, fu = adC (List.replicate 305 0) (ix 7) 1048576 := ⟨_, rfl⟩
  rw [← hfu] at HFu hF hfs
  clear hfu hzn hzc h7
  have HTt := Lib.hid (fun W A c h => total_any A c (bk cv) (Cv.bklen cv) hC.vb W h)
  rw [Cv.tt, hto] at HTt
  have hRn : ∀ W : World, Rs W W.heap.size none (ivCells []) := fun W j hj => absurd hj (by simp [ivCells])
  by_cases hz : ml = 0
  · have HMf := Lib.hid (fun W A c D d h1 h2 => merge_ok A c D d fu cv hF hC (by rw [hfs, hto]; omega) W h1 h2)
    have hml0 : ml = 0 := hz
    have e1 : ((ml : Int) == 0) = true := by rw [beq_iff_eq]; omega
    have e2 : decide (0 < (ml : Int)) = false := by simp; omega
    have hk2 : ∃ k : Int, (m < 0 ∧ k = 2) ∨ (0 ≤ m ∧ 0 < sN cv 305 ∧ (1048576 : Int).tdiv (sN cv 305) < m ∧ k = 20) := by
      rcases hk with h | h
      · exact ⟨2, .inl ⟨h, rfl⟩⟩
      · exact ⟨20, .inr ⟨h.1, by rw [hto]; omega, by rw [hto]; exact h.2.2, rfl⟩⟩
    obtain ⟨k, hk2⟩ := hk2
    have HSc := Lib.hid (fun W A c h => scale_bad A c cv hC m k hk2 W h)
    rw [hto] at hk2
    clear hk hC hF hfs hto
    go_enter Try.func9, Try.ntmps9
    go_wp2_with fail
    refine (known_any _).mono ?_
    rintro e w1 ⟨rfl, hb⟩
    have HB0 := Lib.hid hb
    clear hb
    go_wp2_with fail
    refine (HOf.out _ (HR.out _ HB0.out)).mono ?_
    rintro e w2 ⟨⟨x, rfl, ho⟩, hb⟩
    have HB1001 := Lib.hid (HB0.out.trans (hb.mono HB0.out.size))
    obtain ⟨A, c, rfl, _, hrs, _⟩ := rs_own ho
    have HRs := Lib.hid (fun W (hb : Below w2.heap.size w2 W) => (fun j hj => by
          obtain ⟨b, off, e, h1, h2⟩ := Rs.below hrs hb j hj
          exact ⟨b, off, e, Nat.lt_of_lt_of_le h1 hb.size, h2⟩ : Rs W W.heap.size A (ivCells (bk cv))))
    clear ho hrs
    clear hb
    have HB1002 : Hid (Below w2.heap.size w2 w2) := Lib.hid (Below.refl _ _)
    have HB1003 := Lib.hid (HB1001.out.alloc HB1001.out.size (.cells #[Value.slice A (bk cv).length c] 33))
    have HB1004 := Lib.hid (HB1002.out.alloc HB1002.out.size (.cells #[Value.slice A (bk cv).length c] 33))
    have HK1005 := Lib.hid (Deep.blk_alloc_new w2 (.cells #[Value.slice A (bk cv).length c] 33))
    have kc1006 := cell_of_row _ (w2.heap.size) 0 _ _ _ HK1005.out
    try simp at kc1006
    go_wp2_with fail
    refine (HTt.out _ _ _ (HRs.out _ HB1004.out)).mono ?_
    rintro e w3 ⟨rfl, hb⟩
    have HB1007 := Lib.hid (HB1003.out.trans (hb.mono HB1003.out.size))
    have HB1008 := Lib.hid (HB1004.out.trans (hb.mono HB1004.out.size))
    have HK1009 := Lib.hid ((hb.block (w2.heap.size) ((Array.getElem?_eq_some_iff.1 HK1005.out).1)).trans HK1005.out)
    clear hb
    clear kc1006
    have kc1010 := cell_of_row _ (w2.heap.size) 0 _ _ _ HK1009.out
    try simp at kc1010
    go_wp2_with fail
    refine (HSc.out _ _ _ (HRs.out _ HB1008.out)).mono ?_
    rintro e w4 ⟨rfl, hb⟩
    have HB1011 := Lib.hid (HB1007.out.trans (hb.mono HB1007.out.size))
    have HB1012 := Lib.hid (HB1008.out.trans (hb.mono HB1008.out.size))
    have HK1013 := Lib.hid ((hb.block (w2.heap.size) ((Array.getElem?_eq_some_iff.1 HK1009.out).1)).trans HK1009.out)
    clear hb
    clear kc1010
    have HB1014 : Hid (Below w4.heap.size w4 w4) := Lib.hid (Below.refl _ _)
    have HB1015 := Lib.hid (HB1011.out.alloc HB1011.out.size (.cells #[Value.slice none 0 0] 33))
    have HB1016 := Lib.hid (HB1012.out.alloc HB1012.out.size (.cells #[Value.slice none 0 0] 33))
    have HB1017 := Lib.hid (HB1014.out.alloc HB1014.out.size (.cells #[Value.slice none 0 0] 33))
    have HK1018 := Lib.hid ((Below.heap_alloc w4 (.cells #[Value.slice none 0 0] 33) (w2.heap.size) ((Array.getElem?_eq_some_iff.1 HK1013.out).1)).trans HK1013.out)
    have HK1019 := Lib.hid (Deep.blk_alloc_new w4 (.cells #[Value.slice none 0 0] 33))
    have kc1020 := cell_of_row _ (w2.heap.size) 0 _ _ _ HK1018.out
    try simp at kc1020
    have kc1021 := cell_of_row _ (w4.heap.size) 0 _ _ _ HK1019.out
    try simp at kc1021
    go_wp2_with fail
    refine (HFu.out _ none 0 (hRn _)).mono ?_
    rintro e w5 ⟨⟨x, rfl, ho⟩, hb⟩
    have HB1022 := Lib.hid (HB1015.out.trans (hb.mono HB1015.out.size))
    have HB1023 := Lib.hid (HB1016.out.trans (hb.mono HB1016.out.size))
    have HB1024 := Lib.hid (HB1017.out.trans (hb.mono HB1017.out.size))
    have HK1025 := Lib.hid ((hb.block (w2.heap.size) ((Array.getElem?_eq_some_iff.1 HK1018.out).1)).trans HK1018.out)
    have HK1026 := Lib.hid ((hb.block (w4.heap.size) ((Array.getElem?_eq_some_iff.1 HK1019.out).1)).trans HK1019.out)
    obtain ⟨Af, cf, rfl, _, hrs, _⟩ := rs_own ho
    have HRf := Lib.hid (fun W (hb : Below w5.heap.size w5 W) => (fun j hj => by
          obtain ⟨b, off, e, h1, h2⟩ := Rs.below hrs hb j hj
          exact ⟨b, off, e, Nat.lt_of_lt_of_le h1 hb.size, h2⟩ : Rs W W.heap.size Af (ivCells (bk fu))))
    clear ho hrs
    clear hb
    clear kc1020 kc1021
    have HB1027 : Hid (Below w5.heap.size w5 w5) := Lib.hid (Below.refl _ _)
    have HB1028 := Lib.hid (HB1022.out.alloc HB1022.out.size (.cells #[Value.slice Af (bk fu).length cf] 33))
    have HB1029 := Lib.hid (HB1023.out.alloc HB1023.out.size (.cells #[Value.slice Af (bk fu).length cf] 33))
    have HB1030 := Lib.hid (HB1024.out.alloc HB1024.out.size (.cells #[Value.slice Af (bk fu).length cf] 33))
    have HB1031 := Lib.hid (HB1027.out.alloc HB1027.out.size (.cells #[Value.slice Af (bk fu).length cf] 33))
    have HK1032 := Lib.hid ((Below.heap_alloc w5 (.cells #[Value.slice Af (bk fu).length cf] 33) (w2.heap.size) ((Array.getElem?_eq_some_iff.1 HK1025.out).1)).trans HK1025.out)
    have HK1033 := Lib.hid ((Below.heap_alloc w5 (.cells #[Value.slice Af (bk fu).length cf] 33) (w4.heap.size) ((Array.getElem?_eq_some_iff.1 HK1026.out).1)).trans HK1026.out)
    have HK1034 := Lib.hid (Deep.blk_alloc_new w5 (.cells #[Value.slice Af (bk fu).length cf] 33))
    have kc1035 := cell_of_row _ (w2.heap.size) 0 _ _ _ HK1032.out
    try simp at kc1035
    have kc1036 := cell_of_row _ (w4.heap.size) 0 _ _ _ HK1033.out
    try simp at kc1036
    have kc1037 := cell_of_row _ (w5.heap.size) 0 _ _ _ HK1034.out
    try simp at kc1037
    go_wp2_with fail
    refine (HMf.out _ _ _ _ _ (HRf.out _ HB1031.out) (HRs.out _ HB1029.out)).mono ?_
    rintro e w6 ⟨⟨x, rfl, ho⟩, hb⟩
    have HB1038 := Lib.hid (HB1028.out.trans (hb.mono HB1028.out.size))
    have HB1039 := Lib.hid (HB1029.out.trans (hb.mono HB1029.out.size))
    have HB1040 := Lib.hid (HB1030.out.trans (hb.mono HB1030.out.size))
    have HB1041 := Lib.hid (HB1031.out.trans (hb.mono HB1031.out.size))
    have HK1042 := Lib.hid ((hb.block (w2.heap.size) ((Array.getElem?_eq_some_iff.1 HK1032.out).1)).trans HK1032.out)
    have HK1043 := Lib.hid ((hb.block (w4.heap.size) ((Array.getElem?_eq_some_iff.1 HK1033.out).1)).trans HK1033.out)
    have HK1044 := Lib.hid ((hb.block (w5.heap.size) ((Array.getElem?_eq_some_iff.1 HK1034.out).1)).trans HK1034.out)
    obtain ⟨Ag, cg, rfl, _, _, _⟩ := rs_own ho
    clear ho
    clear hb
    clear kc1035 kc1036 kc1037
    have BW6w := HB1038
    have BW6w2 := HB1039
    have BW6w4 := HB1040
    have HB1045 : Hid (Below w6.heap.size w6 w6) := Lib.hid (Below.refl _ _)
    have HB1046 := Lib.hid (HB1038.out.alloc HB1038.out.size (.cells #[Value.slice Ag (bk (mgC fu cv)).length cg] 33))
    have HB1047 := Lib.hid (HB1039.out.alloc HB1039.out.size (.cells #[Value.slice Ag (bk (mgC fu cv)).length cg] 33))
    have HB1048 := Lib.hid (HB1040.out.alloc HB1040.out.size (.cells #[Value.slice Ag (bk (mgC fu cv)).length cg] 33))
    have HB1049 := Lib.hid (HB1041.out.alloc HB1041.out.size (.cells #[Value.slice Ag (bk (mgC fu cv)).length cg] 33))
    have HB1050 := Lib.hid (HB1045.out.alloc HB1045.out.size (.cells #[Value.slice Ag (bk (mgC fu cv)).length cg] 33))
    have HK1051 := Lib.hid ((Below.heap_alloc w6 (.cells #[Value.slice Ag (bk (mgC fu cv)).length cg] 33) (w2.heap.size) ((Array.getElem?_eq_some_iff.1 HK1042.out).1)).trans HK1042.out)
    have HK1052 := Lib.hid ((Below.heap_alloc w6 (.cells #[Value.slice Ag (bk (mgC fu cv)).length cg] 33) (w4.heap.size) ((Array.getElem?_eq_some_iff.1 HK1043.out).1)).trans HK1043.out)
    have HK1053 := Lib.hid ((Below.heap_alloc w6 (.cells #[Value.slice Ag (bk (mgC fu cv)).length cg] 33) (w5.heap.size) ((Array.getElem?_eq_some_iff.1 HK1044.out).1)).trans HK1044.out)
    have HK1054 := Lib.hid (Deep.blk_alloc_new w6 (.cells #[Value.slice Ag (bk (mgC fu cv)).length cg] 33))
    have kc1055 := cell_of_row _ (w2.heap.size) 0 _ _ _ HK1051.out
    try simp at kc1055
    have kc1056 := cell_of_row _ (w4.heap.size) 0 _ _ _ HK1052.out
    try simp at kc1056
    have kc1057 := cell_of_row _ (w5.heap.size) 0 _ _ _ HK1053.out
    try simp at kc1057
    have kc1058 := cell_of_row _ (w6.heap.size) 0 _ _ _ HK1054.out
    try simp at kc1058
    rcases hk2 with ⟨h1, rfl⟩ | ⟨h1, h2, h3, rfl⟩
    · have d1 : decide (m < 0) = true := by simpa using h1
      go_wp2_with fail
      go_ret
      exact ⟨by first | rfl | simp, HB1046.out⟩
    · exact absurd h2 (by omega)
  · have HMf := Lib.hid (fun W A c D d h1 h2 => merge_bad A c D d fu cv hF hC (by rw [hfs, hto]; omega) W h1 h2)
    have e1 : ((ml : Int) == 0) = false := by rw [beq_eq_false_iff_ne]; omega
    have e2 : decide (0 < (ml : Int)) = true := by simp; omega
    have e3 : 0 < ml := by omega
    have e4 : (0 : Int) < (ml : Int) := by omega
    have hk2 : ∃ k : Int, (m < 0 ∧ k = 2) ∨ (0 ≤ m ∧ 0 < sN cv 305 ∧ (1048576 : Int).tdiv (sN cv 305) < m ∧ k = 20) := by
      rcases hk with h | h
      · exact ⟨2, .inl ⟨h, rfl⟩⟩
      · exact ⟨20, .inr ⟨h.1, by rw [hto]; omega, by rw [hto]; exact h.2.2, rfl⟩⟩
    obtain ⟨k, hk2⟩ := hk2
    have HSc := Lib.hid (fun W A c h => scale_bad A c cv hC m k hk2 W h)
    rw [hto] at hk2
    clear hk hC hF hfs hto
    go_enter Try.func9, Try.ntmps9
    go_wp2_with fail
    refine (known_any _).mono ?_
    rintro e w1 ⟨rfl, hb⟩
    have HB0 := Lib.hid hb
    clear hb
    go_wp2_with fail
    refine (HOf.out _ (HR.out _ HB0.out)).mono ?_
    rintro e w2 ⟨⟨x, rfl, ho⟩, hb⟩
    have HB3001 := Lib.hid (HB0.out.trans (hb.mono HB0.out.size))
    obtain ⟨A, c, rfl, _, hrs, _⟩ := rs_own ho
    have HRs := Lib.hid (fun W (hb : Below w2.heap.size w2 W) => (fun j hj => by
          obtain ⟨b, off, e, h1, h2⟩ := Rs.below hrs hb j hj
          exact ⟨b, off, e, Nat.lt_of_lt_of_le h1 hb.size, h2⟩ : Rs W W.heap.size A (ivCells (bk cv))))
    clear ho hrs
    clear hb
    have HB3002 : Hid (Below w2.heap.size w2 w2) := Lib.hid (Below.refl _ _)
    have HB3003 := Lib.hid (HB3001.out.alloc HB3001.out.size (.cells #[Value.slice A (bk cv).length c] 33))
    have HB3004 := Lib.hid (HB3002.out.alloc HB3002.out.size (.cells #[Value.slice A (bk cv).length c] 33))
    have HK3005 := Lib.hid (Deep.blk_alloc_new w2 (.cells #[Value.slice A (bk cv).length c] 33))
    have kc3006 := cell_of_row _ (w2.heap.size) 0 _ _ _ HK3005.out
    try simp at kc3006
    go_wp2_with fail
    refine (HTt.out _ _ _ (HRs.out _ HB3004.out)).mono ?_
    rintro e w3 ⟨rfl, hb⟩
    have HB3007 := Lib.hid (HB3003.out.trans (hb.mono HB3003.out.size))
    have HB3008 := Lib.hid (HB3004.out.trans (hb.mono HB3004.out.size))
    have HK3009 := Lib.hid ((hb.block (w2.heap.size) ((Array.getElem?_eq_some_iff.1 HK3005.out).1)).trans HK3005.out)
    clear hb
    clear kc3006
    have kc3010 := cell_of_row _ (w2.heap.size) 0 _ _ _ HK3009.out
    try simp at kc3010
    go_wp2_with fail
    refine (HSc.out _ _ _ (HRs.out _ HB3008.out)).mono ?_
    rintro e w4 ⟨rfl, hb⟩
    have HB3011 := Lib.hid (HB3007.out.trans (hb.mono HB3007.out.size))
    have HB3012 := Lib.hid (HB3008.out.trans (hb.mono HB3008.out.size))
    have HK3013 := Lib.hid ((hb.block (w2.heap.size) ((Array.getElem?_eq_some_iff.1 HK3009.out).1)).trans HK3009.out)
    clear hb
    clear kc3010
    have HB3014 : Hid (Below w4.heap.size w4 w4) := Lib.hid (Below.refl _ _)
    have HB3015 := Lib.hid (HB3011.out.alloc HB3011.out.size (.cells #[Value.slice none 0 0] 33))
    have HB3016 := Lib.hid (HB3012.out.alloc HB3012.out.size (.cells #[Value.slice none 0 0] 33))
    have HB3017 := Lib.hid (HB3014.out.alloc HB3014.out.size (.cells #[Value.slice none 0 0] 33))
    have HK3018 := Lib.hid ((Below.heap_alloc w4 (.cells #[Value.slice none 0 0] 33) (w2.heap.size) ((Array.getElem?_eq_some_iff.1 HK3013.out).1)).trans HK3013.out)
    have HK3019 := Lib.hid (Deep.blk_alloc_new w4 (.cells #[Value.slice none 0 0] 33))
    have kc3020 := cell_of_row _ (w2.heap.size) 0 _ _ _ HK3018.out
    try simp at kc3020
    have kc3021 := cell_of_row _ (w4.heap.size) 0 _ _ _ HK3019.out
    try simp at kc3021
    go_wp2_with fail
    refine (HFu.out _ none 0 (hRn _)).mono ?_
    rintro e w5 ⟨⟨x, rfl, ho⟩, hb⟩
    have HB3022 := Lib.hid (HB3015.out.trans (hb.mono HB3015.out.size))
    have HB3023 := Lib.hid (HB3016.out.trans (hb.mono HB3016.out.size))
    have HB3024 := Lib.hid (HB3017.out.trans (hb.mono HB3017.out.size))
    have HK3025 := Lib.hid ((hb.block (w2.heap.size) ((Array.getElem?_eq_some_iff.1 HK3018.out).1)).trans HK3018.out)
    have HK3026 := Lib.hid ((hb.block (w4.heap.size) ((Array.getElem?_eq_some_iff.1 HK3019.out).1)).trans HK3019.out)
    obtain ⟨Af, cf, rfl, _, hrs, _⟩ := rs_own ho
    have HRf := Lib.hid (fun W (hb : Below w5.heap.size w5 W) => (fun j hj => by
          obtain ⟨b, off, e, h1, h2⟩ := Rs.below hrs hb j hj
          exact ⟨b, off, e, Nat.lt_of_lt_of_le h1 hb.size, h2⟩ : Rs W W.heap.size Af (ivCells (bk fu))))
    clear ho hrs
    clear hb
    clear kc3020 kc3021
    have HB3027 : Hid (Below w5.heap.size w5 w5) := Lib.hid (Below.refl _ _)
    have HB3028 := Lib.hid (HB3022.out.alloc HB3022.out.size (.cells #[Value.slice Af (bk fu).length cf] 33))
    have HB3029 := Lib.hid (HB3023.out.alloc HB3023.out.size (.cells #[Value.slice Af (bk fu).length cf] 33))
    have HB3030 := Lib.hid (HB3024.out.alloc HB3024.out.size (.cells #[Value.slice Af (bk fu).length cf] 33))
    have HB3031 := Lib.hid (HB3027.out.alloc HB3027.out.size (.cells #[Value.slice Af (bk fu).length cf] 33))
    have HK3032 := Lib.hid ((Below.heap_alloc w5 (.cells #[Value.slice Af (bk fu).length cf] 33) (w2.heap.size) ((Array.getElem?_eq_some_iff.1 HK3025.out).1)).trans HK3025.out)
    have HK3033 := Lib.hid ((Below.heap_alloc w5 (.cells #[Value.slice Af (bk fu).length cf] 33) (w4.heap.size) ((Array.getElem?_eq_some_iff.1 HK3026.out).1)).trans HK3026.out)
    have HK3034 := Lib.hid (Deep.blk_alloc_new w5 (.cells #[Value.slice Af (bk fu).length cf] 33))
    have kc3035 := cell_of_row _ (w2.heap.size) 0 _ _ _ HK3032.out
    try simp at kc3035
    have kc3036 := cell_of_row _ (w4.heap.size) 0 _ _ _ HK3033.out
    try simp at kc3036
    have kc3037 := cell_of_row _ (w5.heap.size) 0 _ _ _ HK3034.out
    try simp at kc3037
    go_wp2_with fail
    refine (HMf.out _ _ _ _ _ (HRf.out _ HB3031.out) (HRs.out _ HB3029.out)).mono ?_
    rintro e w6 ⟨rfl, hb⟩
    have HB3038 := Lib.hid (HB3028.out.trans (hb.mono HB3028.out.size))
    have HB3039 := Lib.hid (HB3029.out.trans (hb.mono HB3029.out.size))
    have HB3040 := Lib.hid (HB3030.out.trans (hb.mono HB3030.out.size))
    have HB3041 := Lib.hid (HB3031.out.trans (hb.mono HB3031.out.size))
    have HK3042 := Lib.hid ((hb.block (w2.heap.size) ((Array.getElem?_eq_some_iff.1 HK3032.out).1)).trans HK3032.out)
    have HK3043 := Lib.hid ((hb.block (w4.heap.size) ((Array.getElem?_eq_some_iff.1 HK3033.out).1)).trans HK3033.out)
    have HK3044 := Lib.hid ((hb.block (w5.heap.size) ((Array.getElem?_eq_some_iff.1 HK3034.out).1)).trans HK3034.out)
    clear hb
    clear kc3035 kc3036 kc3037
    have BW6w := HB3038
    have BW6w2 := HB3039
    have BW6w4 := HB3040
    have HB3045 : Hid (Below w6.heap.size w6 w6) := Lib.hid (Below.refl _ _)
    have HB3046 := Lib.hid (HB3038.out.alloc HB3038.out.size (.cells #[Value.slice none 0 0] 33))
    have HB3047 := Lib.hid (HB3039.out.alloc HB3039.out.size (.cells #[Value.slice none 0 0] 33))
    have HB3048 := Lib.hid (HB3040.out.alloc HB3040.out.size (.cells #[Value.slice none 0 0] 33))
    have HB3049 := Lib.hid (HB3041.out.alloc HB3041.out.size (.cells #[Value.slice none 0 0] 33))
    have HB3050 := Lib.hid (HB3045.out.alloc HB3045.out.size (.cells #[Value.slice none 0 0] 33))
    have HK3051 := Lib.hid ((Below.heap_alloc w6 (.cells #[Value.slice none 0 0] 33) (w2.heap.size) ((Array.getElem?_eq_some_iff.1 HK3042.out).1)).trans HK3042.out)
    have HK3052 := Lib.hid ((Below.heap_alloc w6 (.cells #[Value.slice none 0 0] 33) (w4.heap.size) ((Array.getElem?_eq_some_iff.1 HK3043.out).1)).trans HK3043.out)
    have HK3053 := Lib.hid ((Below.heap_alloc w6 (.cells #[Value.slice none 0 0] 33) (w5.heap.size) ((Array.getElem?_eq_some_iff.1 HK3044.out).1)).trans HK3044.out)
    have HK3054 := Lib.hid (Deep.blk_alloc_new w6 (.cells #[Value.slice none 0 0] 33))
    have kc3055 := cell_of_row _ (w2.heap.size) 0 _ _ _ HK3051.out
    try simp at kc3055
    have kc3056 := cell_of_row _ (w4.heap.size) 0 _ _ _ HK3052.out
    try simp at kc3056
    have kc3057 := cell_of_row _ (w5.heap.size) 0 _ _ _ HK3053.out
    try simp at kc3057
    have kc3058 := cell_of_row _ (w6.heap.size) 0 _ _ _ HK3054.out
    try simp at kc3058
    rcases hk2 with ⟨h1, rfl⟩ | ⟨h1, h2, h3, rfl⟩
    · have d1 : decide (m < 0) = true := by simpa using h1
      go_wp2_with fail
      go_ret
      exact ⟨by first | rfl | simp, HB3046.out⟩
    · have d1 : decide (m < 0) = false := by simpa using h1
      obtain ⟨q, hq⟩ : ∃ q, q = (1048576 : Int).tdiv (ml : Int) := ⟨_, rfl⟩
      rw [← hq] at h3
      have hqb : 0 ≤ q ∧ q ≤ 1048576 := by
        rw [hq, Int.tdiv_eq_ediv_of_nonneg (by omega)]
        exact ⟨Int.ediv_nonneg (by omega) (by omega), Int.ediv_le_self _ (by omega)⟩
      have hq2 := hq.symm
      have hwq : IntKind.i64.wrap q = q := by simp only [IntKind.wrap_i64]; omega
      have d3 : decide (q < m) = true := by simpa using h3
      have hd0 : (ml : Int) ≠ 0 := by omega
      clear hq
      go_wp2_with fail
      go_ret
      exact ⟨by first | rfl | simp, HB3046.out⟩
set_option maxRecDepth 100000 in
set_option maxHeartbeats 8000000 in
theorem walk_ok (w : World) (A0 : Option Addr) (c0 : Nat) (L0 : List Int) (hL0 : L0.length ≤ 9223372036854775807) (hs0 : ∀ x ∈ L0, -9223372036854775808 ≤ x ∧ x ≤ 9223372036854775807) (hR0 : Rd (Value.int .i64) w A0 L0) (m : Int)
    (hk : 0 ≤ m ∧ ((vsN L0 40).length = 0 ∨ m ≤ (1048576 : Int).tdiv ((vsN L0 40).length : Int))) :
    Calls Try.prog 9 #[.slice A0 L0.length c0, .int .i64 m] w fun e w' => e = .returned (.bool true) ∧ Below w.heap.size w w' := by
  have HOf := Lib.hid (fun W h => lof_any A0 c0 L0 hL0 hs0 W h)
  have HR := Lib.hid (fun W (hb : Below w.heap.size w W) => hR0.below hb)
  have hln := vsN_len L0 40
  have hok := vsN_ok L0 40
  clear hR0 hs0 hL0
  obtain ⟨M, hM⟩ : ∃ M, M = vsN L0 40 := ⟨_, rfl⟩
  rw [← hM] at HOf hln hok hk
  clear hM
  have hC := Cv.of M (by omega) hok
  have hto := sN_cvN M hok M.length (Nat.le_refl _)
  rw [show bkS M = bk (cvN M M.length) from rfl] at HOf
  obtain ⟨cv, hcv⟩ : ∃ cv, cv = cvN M M.length := ⟨_, rfl⟩
  rw [← hcv] at HOf hC hto
  obtain ⟨ml, hml⟩ : ∃ ml, ml = M.length := ⟨_, rfl⟩
  rw [← hml] at hto hln hk
  clear hcv hml hok
  have hzc := Cv.zero
  have hzn : sN (List.replicate 305 (0 : Int)) 305 = 0 := by
    have : ∀ n, sN (List.replicate 305 (0 : Int)) n = 0 := by
      intro n
      induction n with
      | zero => rfl
      | succ n ih => show sN _ n + _ = 0; rw [ih, rep_get]; omega
    exact this 305
  have h7 := ix_lt 7 (by omega)
  have hF := hzc.add (ix 7) 1048576 h7 (by omega) (by rw [hzn]; omega)
  have HFu := Lib.hid (fun W A c h => add_ok A c (List.replicate 305 0) hzc 7 (by omega) 1048576 (by omega) (by rw [hzn]; omega) W h)
  rw [bk_zero] at HFu
  have hfs := adC_sum (List.replicate 305 0) (ix 7) 1048576 h7 hzc.len
  rw [hzn] at hfs
  obtain ⟨fu, hfu⟩ : ∃ fu, fu = adC (List.replicate 305 0) (ix 7) 1048576 := ⟨_, rfl⟩
  rw [← hfu] at HFu hF hfs
  clear hfu hzn hzc h7
  have HTt := Lib.hid (fun W A c h => total_any A c (bk cv) (Cv.bklen cv) hC.vb W h)
  rw [Cv.tt, hto] at HTt
  have hRn : ∀ W : World, Rs W W.heap.size none (ivCells []) := fun W j hj => absurd hj (by simp [ivCells])
  have hms : sN cv 305 * m ≤ 1048576 := by
    rw [hto]
    rcases hk.2 with h | h
    · rw [h]; omega
    · by_cases h0 : ml = 0
      · rw [h0]; omega
      · rw [Int.tdiv_eq_ediv_of_nonneg (by omega)] at h
        rw [Int.mul_comm]
        exact (Int.le_ediv_iff_mul_le (by omega)).1 h
  have hCs := hC.scale m hk.1 hms
  have hC2 := hC.scale 2 (by omega) (by rw [hto]; omega)
  have HSc := Lib.hid (fun W A c h => scale_ok A c cv hC m hk.1 hms W h)
  have HS2 := Lib.hid (fun W A c h => scale_ok A c cv hC 2 (by omega) (by rw [hto]; omega) W h)
  have HMt := Lib.hid (fun W A c D d h1 h2 => merge_ok A c D d cv cv hC hC (by rw [hto]; omega) W h1 h2)
  have e22 : mgC cv cv = scC cv 2 := by
    refine list_ext_get _ _ ((opL_len _ _ _ _).trans (opL_len _ _ _ _).symm) (fun i _ => ?_)
    rw [mgC_get _ _ hC.len hC.len, scC_get _ _ hC.len]; omega
  rw [e22] at HMt
  have HEq := Lib.hid (fun W A c D d h1 h2 => equal_any A c (bk (scC cv 2)) (by have := Cv.bklen (scC cv 2); omega) D d (bk (scC cv 2)) (by have := Cv.bklen (scC cv 2); omega) W h1 h2)
  rw [show (decide (bk (scC cv 2) = bk (scC cv 2))) = true by simp] at HEq
  have HCk := Lib.hid (fun W A c h => hcheck_any A c (bk (scC cv m)) (Cv.bklen _) hCs.ivok W h)
  rw [hCs.chk] at HCk
  have HAx := Lib.hid (fun W A c k hk h => at_any A c (scC cv m) k hk W h)
  have HAh := Lib.hid (fun W A c k hk h => at_any A c cv k hk W h)
  have HGt := Lib.hid (fun k => scC_get cv m hC.len k)
  have HBd := Lib.hid (fun k => (by
    have h1 := hC.bd k
    refine ⟨h1, Int.mul_nonneg h1.1 hk.1, ?_⟩
    by_cases h : k < 305
    · exact Int.le_trans (Int.mul_le_mul_of_nonneg_right (le_sN cv hC.pos 305 k h).2 hk.1) hms
    · rw [getD_out hC.len k h]; omega : (0 ≤ cv.getD k 0 ∧ cv.getD k 0 ≤ 1048576) ∧ 0 ≤ cv.getD k 0 * m ∧ cv.getD k 0 * m ≤ 1048576))
  have hzl : ml = 0 → (bk (scC cv m)).length = 0 := fun h => by
    have h1 : ∀ i, (scC cv m).getD i 0 = 0 := fun i => by
      rw [scC_get _ _ hC.len]
      have a := hC.pos i
      by_cases hi : i < 305
      · have b := (le_sN cv hC.pos 305 i hi).2
        rw [hto] at b
        rw [show cv.getD i 0 = 0 by omega]; omega
      · rw [getD_out hC.len i hi]; omega
    rw [show scC cv m = List.replicate 305 0 from list_ext_get _ _ (hCs.len.trans List.length_replicate.symm) (fun i _ => by rw [h1, rep_get]), bk_zero]; rfl
  obtain ⟨B2, hB2⟩ : ∃ B2, B2 = bk (scC cv 2) := ⟨_, rfl⟩
  rw [← hB2] at HMt HS2 HEq
  obtain ⟨cx, hcx⟩ : ∃ cx, cx = scC cv m := ⟨_, rfl⟩
  rw [← hcx] at HSc HCk HAx HGt hzl
  have d1 : decide (m < 0) = false := by simpa using hk.1
  obtain ⟨q, hq⟩ : ∃ q, q = (1048576 : Int).tdiv (ml : Int) := ⟨_, rfl⟩
  rw [← hq] at hk
  have hqb : 0 < ml → 0 ≤ q ∧ q ≤ 1048576 := fun h => by
    rw [hq, Int.tdiv_eq_ediv_of_nonneg (by omega)]
    exact ⟨Int.ediv_nonneg (by omega) (by omega), Int.ediv_le_self _ (by omega)⟩
  have hq2 := hq.symm
  clear hB2 hcx hq hms hCs hC2 e22
  by_cases hz : ml = 0
  · have HMf := Lib.hid (fun W A c D d h1 h2 => merge_ok A c D d fu cv hF hC (by rw [hfs, hto]; omega) W h1 h2)
    have hml0 : ml = 0 := hz
    have e1 : ((ml : Int) == 0) = true := by rw [beq_iff_eq]; omega
    have e2 : decide (0 < (ml : Int)) = false := by simp; omega
    have hzl2 := hzl hz
    have EZ : Hid ((((bk cx).length : Nat) : Int) = 0) := Lib.hid (by omega)
    clear hzl2 hk hC hF hfs hto hzl hqb hq2
    go_enter Try.func9, Try.ntmps9
    go_wp2_with fail
    refine (known_any _).mono ?_
    rintro e w1 ⟨rfl, hb⟩
    have HB0 := Lib.hid hb
    clear hb
    go_wp2_with fail
    refine (HOf.out _ (HR.out _ HB0.out)).mono ?_
    rintro e w2 ⟨⟨x, rfl, ho⟩, hb⟩
    have HB1001 := Lib.hid (HB0.out.trans (hb.mono HB0.out.size))
    obtain ⟨A, c, rfl, _, hrs, _⟩ := rs_own ho
    have HRs := Lib.hid (fun W (hb : Below w2.heap.size w2 W) => (fun j hj => by
          obtain ⟨b, off, e, h1, h2⟩ := Rs.below hrs hb j hj
          exact ⟨b, off, e, Nat.lt_of_lt_of_le h1 hb.size, h2⟩ : Rs W W.heap.size A (ivCells (bk cv))))
    clear ho hrs
    clear hb
    have HB1002 : Hid (Below w2.heap.size w2 w2) := Lib.hid (Below.refl _ _)
    have HB1003 := Lib.hid (HB1001.out.alloc HB1001.out.size (.cells #[Value.slice A (bk cv).length c] 33))
    have HB1004 := Lib.hid (HB1002.out.alloc HB1002.out.size (.cells #[Value.slice A (bk cv).length c] 33))
    have HK1005 := Lib.hid (Deep.blk_alloc_new w2 (.cells #[Value.slice A (bk cv).length c] 33))
    have kc1006 := cell_of_row _ (w2.heap.size) 0 _ _ _ HK1005.out
    try simp at kc1006
    go_wp2_with fail
    refine (HTt.out _ _ _ (HRs.out _ HB1004.out)).mono ?_
    rintro e w3 ⟨rfl, hb⟩
    have HB1007 := Lib.hid (HB1003.out.trans (hb.mono HB1003.out.size))
    have HB1008 := Lib.hid (HB1004.out.trans (hb.mono HB1004.out.size))
    have HK1009 := Lib.hid ((hb.block (w2.heap.size) ((Array.getElem?_eq_some_iff.1 HK1005.out).1)).trans HK1005.out)
    clear hb
    clear kc1006
    have kc1010 := cell_of_row _ (w2.heap.size) 0 _ _ _ HK1009.out
    try simp at kc1010
    go_wp2_with fail
    refine (HSc.out _ _ _ (HRs.out _ HB1008.out)).mono ?_
    rintro e w4 ⟨⟨x, rfl, ho⟩, hb⟩
    have HB1011 := Lib.hid (HB1007.out.trans (hb.mono HB1007.out.size))
    have HB1012 := Lib.hid (HB1008.out.trans (hb.mono HB1008.out.size))
    have HK1013 := Lib.hid ((hb.block (w2.heap.size) ((Array.getElem?_eq_some_iff.1 HK1009.out).1)).trans HK1009.out)
    obtain ⟨Ax, cc, rfl, _, hrs, _⟩ := rs_own ho
    have HRx := Lib.hid (fun W (hb : Below w4.heap.size w4 W) => (fun j hj => by
          obtain ⟨b, off, e, h1, h2⟩ := Rs.below hrs hb j hj
          exact ⟨b, off, e, Nat.lt_of_lt_of_le h1 hb.size, h2⟩ : Rs W W.heap.size Ax (ivCells (bk cx))))
    clear ho hrs
    clear hb
    clear kc1010
    have HB1014 : Hid (Below w4.heap.size w4 w4) := Lib.hid (Below.refl _ _)
    have HB1015 := Lib.hid (HB1011.out.alloc HB1011.out.size (.cells #[Value.slice Ax (bk cx).length cc] 33))
    have HB1016 := Lib.hid (HB1012.out.alloc HB1012.out.size (.cells #[Value.slice Ax (bk cx).length cc] 33))
    have HB1017 := Lib.hid (HB1014.out.alloc HB1014.out.size (.cells #[Value.slice Ax (bk cx).length cc] 33))
    have HK1018 := Lib.hid ((Below.heap_alloc w4 (.cells #[Value.slice Ax (bk cx).length cc] 33) (w2.heap.size) ((Array.getElem?_eq_some_iff.1 HK1013.out).1)).trans HK1013.out)
    have HK1019 := Lib.hid (Deep.blk_alloc_new w4 (.cells #[Value.slice Ax (bk cx).length cc] 33))
    have kc1020 := cell_of_row _ (w2.heap.size) 0 _ _ _ HK1018.out
    try simp at kc1020
    have kc1021 := cell_of_row _ (w4.heap.size) 0 _ _ _ HK1019.out
    try simp at kc1021
    go_wp2_with fail
    refine (HFu.out _ none 0 (hRn _)).mono ?_
    rintro e w5 ⟨⟨x, rfl, ho⟩, hb⟩
    have HB1022 := Lib.hid (HB1015.out.trans (hb.mono HB1015.out.size))
    have HB1023 := Lib.hid (HB1016.out.trans (hb.mono HB1016.out.size))
    have HB1024 := Lib.hid (HB1017.out.trans (hb.mono HB1017.out.size))
    have HK1025 := Lib.hid ((hb.block (w2.heap.size) ((Array.getElem?_eq_some_iff.1 HK1018.out).1)).trans HK1018.out)
    have HK1026 := Lib.hid ((hb.block (w4.heap.size) ((Array.getElem?_eq_some_iff.1 HK1019.out).1)).trans HK1019.out)
    obtain ⟨Af, cf, rfl, _, hrs, _⟩ := rs_own ho
    have HRf := Lib.hid (fun W (hb : Below w5.heap.size w5 W) => (fun j hj => by
          obtain ⟨b, off, e, h1, h2⟩ := Rs.below hrs hb j hj
          exact ⟨b, off, e, Nat.lt_of_lt_of_le h1 hb.size, h2⟩ : Rs W W.heap.size Af (ivCells (bk fu))))
    clear ho hrs
    clear hb
    clear kc1020 kc1021
    have HB1027 : Hid (Below w5.heap.size w5 w5) := Lib.hid (Below.refl _ _)
    have HB1028 := Lib.hid (HB1022.out.alloc HB1022.out.size (.cells #[Value.slice Af (bk fu).length cf] 33))
    have HB1029 := Lib.hid (HB1023.out.alloc HB1023.out.size (.cells #[Value.slice Af (bk fu).length cf] 33))
    have HB1030 := Lib.hid (HB1024.out.alloc HB1024.out.size (.cells #[Value.slice Af (bk fu).length cf] 33))
    have HB1031 := Lib.hid (HB1027.out.alloc HB1027.out.size (.cells #[Value.slice Af (bk fu).length cf] 33))
    have HK1032 := Lib.hid ((Below.heap_alloc w5 (.cells #[Value.slice Af (bk fu).length cf] 33) (w2.heap.size) ((Array.getElem?_eq_some_iff.1 HK1025.out).1)).trans HK1025.out)
    have HK1033 := Lib.hid ((Below.heap_alloc w5 (.cells #[Value.slice Af (bk fu).length cf] 33) (w4.heap.size) ((Array.getElem?_eq_some_iff.1 HK1026.out).1)).trans HK1026.out)
    have HK1034 := Lib.hid (Deep.blk_alloc_new w5 (.cells #[Value.slice Af (bk fu).length cf] 33))
    have kc1035 := cell_of_row _ (w2.heap.size) 0 _ _ _ HK1032.out
    try simp at kc1035
    have kc1036 := cell_of_row _ (w4.heap.size) 0 _ _ _ HK1033.out
    try simp at kc1036
    have kc1037 := cell_of_row _ (w5.heap.size) 0 _ _ _ HK1034.out
    try simp at kc1037
    go_wp2_with fail
    refine (HMf.out _ _ _ _ _ (HRf.out _ HB1031.out) (HRs.out _ HB1029.out)).mono ?_
    rintro e w6 ⟨⟨x, rfl, ho⟩, hb⟩
    have HB1038 := Lib.hid (HB1028.out.trans (hb.mono HB1028.out.size))
    have HB1039 := Lib.hid (HB1029.out.trans (hb.mono HB1029.out.size))
    have HB1040 := Lib.hid (HB1030.out.trans (hb.mono HB1030.out.size))
    have HB1041 := Lib.hid (HB1031.out.trans (hb.mono HB1031.out.size))
    have HK1042 := Lib.hid ((hb.block (w2.heap.size) ((Array.getElem?_eq_some_iff.1 HK1032.out).1)).trans HK1032.out)
    have HK1043 := Lib.hid ((hb.block (w4.heap.size) ((Array.getElem?_eq_some_iff.1 HK1033.out).1)).trans HK1033.out)
    have HK1044 := Lib.hid ((hb.block (w5.heap.size) ((Array.getElem?_eq_some_iff.1 HK1034.out).1)).trans HK1034.out)
    obtain ⟨Ag, cg, rfl, _, _, _⟩ := rs_own ho
    clear ho
    clear hb
    clear kc1035 kc1036 kc1037
    have BW6w := HB1038
    have BW6w2 := HB1039
    have BW6w4 := HB1040
    have HB1045 : Hid (Below w6.heap.size w6 w6) := Lib.hid (Below.refl _ _)
    have HB1046 := Lib.hid (HB1038.out.alloc HB1038.out.size (.cells #[Value.slice Ag (bk (mgC fu cv)).length cg] 33))
    have HB1047 := Lib.hid (HB1039.out.alloc HB1039.out.size (.cells #[Value.slice Ag (bk (mgC fu cv)).length cg] 33))
    have HB1048 := Lib.hid (HB1040.out.alloc HB1040.out.size (.cells #[Value.slice Ag (bk (mgC fu cv)).length cg] 33))
    have HB1049 := Lib.hid (HB1041.out.alloc HB1041.out.size (.cells #[Value.slice Ag (bk (mgC fu cv)).length cg] 33))
    have HB1050 := Lib.hid (HB1045.out.alloc HB1045.out.size (.cells #[Value.slice Ag (bk (mgC fu cv)).length cg] 33))
    have HK1051 := Lib.hid ((Below.heap_alloc w6 (.cells #[Value.slice Ag (bk (mgC fu cv)).length cg] 33) (w2.heap.size) ((Array.getElem?_eq_some_iff.1 HK1042.out).1)).trans HK1042.out)
    have HK1052 := Lib.hid ((Below.heap_alloc w6 (.cells #[Value.slice Ag (bk (mgC fu cv)).length cg] 33) (w4.heap.size) ((Array.getElem?_eq_some_iff.1 HK1043.out).1)).trans HK1043.out)
    have HK1053 := Lib.hid ((Below.heap_alloc w6 (.cells #[Value.slice Ag (bk (mgC fu cv)).length cg] 33) (w5.heap.size) ((Array.getElem?_eq_some_iff.1 HK1044.out).1)).trans HK1044.out)
    have HK1054 := Lib.hid (Deep.blk_alloc_new w6 (.cells #[Value.slice Ag (bk (mgC fu cv)).length cg] 33))
    have kc1055 := cell_of_row _ (w2.heap.size) 0 _ _ _ HK1051.out
    try simp at kc1055
    have kc1056 := cell_of_row _ (w4.heap.size) 0 _ _ _ HK1052.out
    try simp at kc1056
    have kc1057 := cell_of_row _ (w5.heap.size) 0 _ _ _ HK1053.out
    try simp at kc1057
    have kc1058 := cell_of_row _ (w6.heap.size) 0 _ _ _ HK1054.out
    try simp at kc1058
    clear kc1055 kc1056 kc1057 kc1058
    go_wp2_with fail
    go_loopw [13] (fun iv wr => ∃ k : Nat, k ≤ 305 ∧ iv = .int .i64 (k : Int) ∧ Hid (wr.heap[w4.heap.size]? = some (.cells #[Value.slice Ax (bk cx).length cc] 33 (0, 0))) ∧ Hid (wr.heap[w2.heap.size]? = some (.cells #[Value.slice A (bk cv).length c] 33 (0, 0))) ∧ Hid (Below w6.heap.size w6 wr)) (fun iv _ => 305 - (intOf iv).toNat)
    case atStart => exact ⟨0, Nat.zero_le _, rfl, HK1052, HK1051, HB1050⟩
    case round =>
      obtain ⟨k, hk, rfl, HX, HHb, HB⟩ := hrel
      have hk0 : (0 : Int) ≤ (k : Int) := by omega
      by_cases hlt : k < 305
      · have hkI : (k : Int) < 305 := by omega
        have hw1 : IntKind.i64.wrap ((k : Int) + 1) = (k : Int) + 1 := by simp only [IntKind.wrap_i64]; omega
        have hg := HGt.out k
        have hbd := HBd.out k
        have HA1 := Lib.hid (fun W A c h => HAx.out W A c k hlt h)
        have HA2 := Lib.hid (fun W A c h => HAh.out W A c k hlt h)
        obtain ⟨y, hy⟩ : ∃ y, y = cv.getD k 0 := ⟨_, rfl⟩
        obtain ⟨z, hz⟩ : ∃ z, z = cx.getD k 0 := ⟨_, rfl⟩
        rw [← hy] at hg hbd HA2
        rw [← hz] at hg HA1
        clear hy hz
        have hwy : IntKind.i64.wrap (y * m) = y * m := by simp only [IntKind.wrap_i64]; omega
        have hgz : (z != y * m) = false := by rw [hg]; simp
        clear hbd
        go_wp2_with fail
        have HD1559 : Hid (∀ n, Below w.heap.size w ((wr).drewN n)) := Lib.hid (fun n => below_drewN (BW6w.out.trans (HB.out.mono BW6w.out.size)) n)
        have HD1560 : Hid (∀ n, Below w2.heap.size w2 ((wr).drewN n)) := Lib.hid (fun n => below_drewN (BW6w2.out.trans (HB.out.mono BW6w2.out.size)) n)
        have HD1561 : Hid (∀ n, Below w4.heap.size w4 ((wr).drewN n)) := Lib.hid (fun n => below_drewN (BW6w4.out.trans (HB.out.mono BW6w4.out.size)) n)
        have HD1562 : Hid (∀ n, Below w6.heap.size w6 ((wr).drewN n)) := Lib.hid (fun n => below_drewN HB.out n)
        have HE1563 : Hid (∀ n, ((wr).drewN n).heap[w4.heap.size]? = some (.cells #[Value.slice Ax (bk cx).length cc] 33 (0, 0))) := Lib.hid (fun n => HX.out)
        have HE1564 : Hid (∀ n, ((wr).drewN n).heap[w2.heap.size]? = some (.cells #[Value.slice A (bk cv).length c] 33 (0, 0))) := Lib.hid (fun n => HHb.out)
        go_region_held3 (fun W => W.cell? ⟨w4.heap.size, 0, none⟩ = some (Value.slice Ax (bk cx).length cc) ∧ W.cell? ⟨w2.heap.size, 0, none⟩ = some (Value.slice A (bk cv).length c))
          (first | exact ⟨cell_of_row _ (w4.heap.size) 0 _ _ _ HK1577.out, cell_of_row _ (w2.heap.size) 0 _ _ _ HK1578.out⟩ | exact ⟨cell_of_row _ (w4.heap.size) 0 _ _ _ HK1570.out, cell_of_row _ (w2.heap.size) 0 _ _ _ HK1571.out⟩ | exact ⟨cell_of_row _ (w4.heap.size) 0 _ _ _ (HE1563.out _), cell_of_row _ (w2.heap.size) 0 _ _ _ (HE1564.out _)⟩ | assumption)
          ((first
            | (go_at_call 28; have hgd := HB1566; clear hgd; refine (HA2.out _ _ _ (HRs.out _ HB1567.out)).mono ?_; rintro e v1572 ⟨rfl, hb⟩; have HB1573 := Lib.hid (HB1566.out.trans (hb.mono HB1566.out.size)); have HB1574 := Lib.hid (HB1567.out.trans (hb.mono HB1567.out.size)); have HB1575 := Lib.hid (HB1568.out.trans (hb.mono HB1568.out.size)); have HB1576 := Lib.hid (HB1569.out.trans (hb.mono HB1569.out.size)); have HK1577 := Lib.hid ((hb.block (w4.heap.size) ((Array.getElem?_eq_some_iff.1 HK1570.out).1)).trans HK1570.out); have HK1578 := Lib.hid ((hb.block (w2.heap.size) ((Array.getElem?_eq_some_iff.1 HK1571.out).1)).trans HK1571.out); clear hb)
            | (go_at_call 28; refine (HA1.out _ _ _ (HRx.out _ (HD1561.out _))).mono ?_; rintro e v1565 ⟨rfl, hb⟩; have HB1566 := Lib.hid ((HD1559.out _).trans (hb.mono (HD1559.out _).size)); have HB1567 := Lib.hid ((HD1560.out _).trans (hb.mono (HD1560.out _).size)); have HB1568 := Lib.hid ((HD1561.out _).trans (hb.mono (HD1561.out _).size)); have HB1569 := Lib.hid ((HD1562.out _).trans (hb.mono (HD1562.out _).size)); have HK1570 := Lib.hid ((hb.block (w4.heap.size) ((Array.getElem?_eq_some_iff.1 (HE1563.out _)).1)).trans (HE1563.out _)); have HK1571 := Lib.hid ((hb.block (w2.heap.size) ((Array.getElem?_eq_some_iff.1 (HE1564.out _)).1)).trans (HE1564.out _)); clear hb)
            | fail))
        go_wp2_with fail
        go_roundw
        case rel => exact ⟨k + 1, by omega, by go_num, HK1577, HK1578, HB1576⟩
        case measure => simp [intOf] <;> omega
      · obtain rfl : k = 305 := by omega
        have kc1859 := cell_of_row _ (w4.heap.size) 0 _ _ _ HX.out
        try simp at kc1859
        have kc1860 := cell_of_row _ (w2.heap.size) 0 _ _ _ HHb.out
        try simp at kc1860
        go_wp2_with fail
        refine (HMt.out _ _ _ _ _ (HRs.out _ (BW6w2.out.trans (HB.out.mono BW6w2.out.size))) (HRs.out _ (BW6w2.out.trans (HB.out.mono BW6w2.out.size)))).mono ?_
        rintro e w8 ⟨⟨x, rfl, ho⟩, hb⟩
        have HB1861 := Lib.hid ((BW6w.out.trans (HB.out.mono BW6w.out.size)).trans (hb.mono (BW6w.out.trans (HB.out.mono BW6w.out.size)).size))
        have HB1862 := Lib.hid ((BW6w2.out.trans (HB.out.mono BW6w2.out.size)).trans (hb.mono (BW6w2.out.trans (HB.out.mono BW6w2.out.size)).size))
        have HB1863 := Lib.hid ((BW6w4.out.trans (HB.out.mono BW6w4.out.size)).trans (hb.mono (BW6w4.out.trans (HB.out.mono BW6w4.out.size)).size))
        have HK1864 := Lib.hid ((hb.block (w4.heap.size) ((Array.getElem?_eq_some_iff.1 HX.out).1)).trans HX.out)
        have HK1865 := Lib.hid ((hb.block (w2.heap.size) ((Array.getElem?_eq_some_iff.1 HHb.out).1)).trans HHb.out)
        obtain ⟨At, ct, rfl, _, hrs, _⟩ := rs_own ho
        have HRt := Lib.hid (fun W (hb : Below w8.heap.size w8 W) => (fun j hj => by
              obtain ⟨b, off, e, h1, h2⟩ := Rs.below hrs hb j hj
              exact ⟨b, off, e, Nat.lt_of_lt_of_le h1 hb.size, h2⟩ : Rs W W.heap.size At (ivCells B2)))
        clear ho hrs
        clear hb
        clear kc1859 kc1860
        have HB1866 : Hid (Below w8.heap.size w8 w8) := Lib.hid (Below.refl _ _)
        have HB1867 := Lib.hid (HB1861.out.alloc HB1861.out.size (.cells #[Value.slice At B2.length ct] 33))
        have HB1868 := Lib.hid (HB1862.out.alloc HB1862.out.size (.cells #[Value.slice At B2.length ct] 33))
        have HB1869 := Lib.hid (HB1863.out.alloc HB1863.out.size (.cells #[Value.slice At B2.length ct] 33))
        have HB1870 := Lib.hid (HB1866.out.alloc HB1866.out.size (.cells #[Value.slice At B2.length ct] 33))
        have HK1871 := Lib.hid ((Below.heap_alloc w8 (.cells #[Value.slice At B2.length ct] 33) (w4.heap.size) ((Array.getElem?_eq_some_iff.1 HK1864.out).1)).trans HK1864.out)
        have HK1872 := Lib.hid ((Below.heap_alloc w8 (.cells #[Value.slice At B2.length ct] 33) (w2.heap.size) ((Array.getElem?_eq_some_iff.1 HK1865.out).1)).trans HK1865.out)
        have HK1873 := Lib.hid (Deep.blk_alloc_new w8 (.cells #[Value.slice At B2.length ct] 33))
        have kc1874 := cell_of_row _ (w4.heap.size) 0 _ _ _ HK1871.out
        try simp at kc1874
        have kc1875 := cell_of_row _ (w2.heap.size) 0 _ _ _ HK1872.out
        try simp at kc1875
        have kc1876 := cell_of_row _ (w8.heap.size) 0 _ _ _ HK1873.out
        try simp at kc1876
        go_wp2_with fail
        refine (HS2.out _ _ _ (HRs.out _ HB1868.out)).mono ?_
        rintro e w9 ⟨⟨x, rfl, ho⟩, hb⟩
        have HB1877 := Lib.hid (HB1867.out.trans (hb.mono HB1867.out.size))
        have HB1878 := Lib.hid (HB1868.out.trans (hb.mono HB1868.out.size))
        have HB1879 := Lib.hid (HB1869.out.trans (hb.mono HB1869.out.size))
        have HB1880 := Lib.hid (HB1870.out.trans (hb.mono HB1870.out.size))
        have HK1881 := Lib.hid ((hb.block (w4.heap.size) ((Array.getElem?_eq_some_iff.1 HK1871.out).1)).trans HK1871.out)
        have HK1882 := Lib.hid ((hb.block (w2.heap.size) ((Array.getElem?_eq_some_iff.1 HK1872.out).1)).trans HK1872.out)
        have HK1883 := Lib.hid ((hb.block (w8.heap.size) ((Array.getElem?_eq_some_iff.1 HK1873.out).1)).trans HK1873.out)
        obtain ⟨Au, cu, rfl, _, hrs, _⟩ := rs_own ho
        have HRu := Lib.hid (fun W (hb : Below w9.heap.size w9 W) => (fun j hj => by
              obtain ⟨b, off, e, h1, h2⟩ := Rs.below hrs hb j hj
              exact ⟨b, off, e, Nat.lt_of_lt_of_le h1 hb.size, h2⟩ : Rs W W.heap.size Au (ivCells B2)))
        clear ho hrs
        clear hb
        clear kc1874 kc1875 kc1876
        have HB1884 : Hid (Below w9.heap.size w9 w9) := Lib.hid (Below.refl _ _)
        have HB1885 := Lib.hid (HB1877.out.alloc HB1877.out.size (.cells #[Value.slice Au B2.length cu] 33))
        have HB1886 := Lib.hid (HB1878.out.alloc HB1878.out.size (.cells #[Value.slice Au B2.length cu] 33))
        have HB1887 := Lib.hid (HB1879.out.alloc HB1879.out.size (.cells #[Value.slice Au B2.length cu] 33))
        have HB1888 := Lib.hid (HB1880.out.alloc HB1880.out.size (.cells #[Value.slice Au B2.length cu] 33))
        have HB1889 := Lib.hid (HB1884.out.alloc HB1884.out.size (.cells #[Value.slice Au B2.length cu] 33))
        have HK1890 := Lib.hid ((Below.heap_alloc w9 (.cells #[Value.slice Au B2.length cu] 33) (w4.heap.size) ((Array.getElem?_eq_some_iff.1 HK1881.out).1)).trans HK1881.out)
        have HK1891 := Lib.hid ((Below.heap_alloc w9 (.cells #[Value.slice Au B2.length cu] 33) (w2.heap.size) ((Array.getElem?_eq_some_iff.1 HK1882.out).1)).trans HK1882.out)
        have HK1892 := Lib.hid ((Below.heap_alloc w9 (.cells #[Value.slice Au B2.length cu] 33) (w8.heap.size) ((Array.getElem?_eq_some_iff.1 HK1883.out).1)).trans HK1883.out)
        have HK1893 := Lib.hid (Deep.blk_alloc_new w9 (.cells #[Value.slice Au B2.length cu] 33))
        have kc1894 := cell_of_row _ (w4.heap.size) 0 _ _ _ HK1890.out
        try simp at kc1894
        have kc1895 := cell_of_row _ (w2.heap.size) 0 _ _ _ HK1891.out
        try simp at kc1895
        have kc1896 := cell_of_row _ (w8.heap.size) 0 _ _ _ HK1892.out
        try simp at kc1896
        have kc1897 := cell_of_row _ (w9.heap.size) 0 _ _ _ HK1893.out
        try simp at kc1897
        go_wp2_with fail
        refine (HCk.out _ _ _ (HRx.out _ HB1887.out)).mono ?_
        rintro e wA ⟨rfl, hb⟩
        have HB1898 := Lib.hid (HB1885.out.trans (hb.mono HB1885.out.size))
        have HB1899 := Lib.hid (HB1886.out.trans (hb.mono HB1886.out.size))
        have HB1900 := Lib.hid (HB1887.out.trans (hb.mono HB1887.out.size))
        have HB1901 := Lib.hid (HB1888.out.trans (hb.mono HB1888.out.size))
        have HB1902 := Lib.hid (HB1889.out.trans (hb.mono HB1889.out.size))
        have HK1903 := Lib.hid ((hb.block (w4.heap.size) ((Array.getElem?_eq_some_iff.1 HK1890.out).1)).trans HK1890.out)
        have HK1904 := Lib.hid ((hb.block (w2.heap.size) ((Array.getElem?_eq_some_iff.1 HK1891.out).1)).trans HK1891.out)
        have HK1905 := Lib.hid ((hb.block (w8.heap.size) ((Array.getElem?_eq_some_iff.1 HK1892.out).1)).trans HK1892.out)
        have HK1906 := Lib.hid ((hb.block (w9.heap.size) ((Array.getElem?_eq_some_iff.1 HK1893.out).1)).trans HK1893.out)
        clear hb
        clear kc1894 kc1895 kc1896 kc1897
        have kc1907 := cell_of_row _ (w4.heap.size) 0 _ _ _ HK1903.out
        try simp at kc1907
        have kc1908 := cell_of_row _ (w2.heap.size) 0 _ _ _ HK1904.out
        try simp at kc1908
        have kc1909 := cell_of_row _ (w8.heap.size) 0 _ _ _ HK1905.out
        try simp at kc1909
        have kc1910 := cell_of_row _ (w9.heap.size) 0 _ _ _ HK1906.out
        try simp at kc1910
        go_wp2_with fail
        refine (HEq.out _ _ _ _ _ (HRt.out _ HB1901.out) (HRu.out _ HB1902.out)).mono ?_
        rintro e wB ⟨rfl, hb⟩
        have HB1911 := Lib.hid (HB1898.out.trans (hb.mono HB1898.out.size))
        have HB1912 := Lib.hid (HB1899.out.trans (hb.mono HB1899.out.size))
        have HB1913 := Lib.hid (HB1900.out.trans (hb.mono HB1900.out.size))
        have HB1914 := Lib.hid (HB1901.out.trans (hb.mono HB1901.out.size))
        have HB1915 := Lib.hid (HB1902.out.trans (hb.mono HB1902.out.size))
        have HK1916 := Lib.hid ((hb.block (w4.heap.size) ((Array.getElem?_eq_some_iff.1 HK1903.out).1)).trans HK1903.out)
        have HK1917 := Lib.hid ((hb.block (w2.heap.size) ((Array.getElem?_eq_some_iff.1 HK1904.out).1)).trans HK1904.out)
        have HK1918 := Lib.hid ((hb.block (w8.heap.size) ((Array.getElem?_eq_some_iff.1 HK1905.out).1)).trans HK1905.out)
        have HK1919 := Lib.hid ((hb.block (w9.heap.size) ((Array.getElem?_eq_some_iff.1 HK1906.out).1)).trans HK1906.out)
        clear hb
        clear kc1907 kc1908 kc1909 kc1910
        have kc1920 := cell_of_row _ (w4.heap.size) 0 _ _ _ HK1916.out
        try simp at kc1920
        have kc1921 := cell_of_row _ (w2.heap.size) 0 _ _ _ HK1917.out
        try simp at kc1921
        have kc1922 := cell_of_row _ (w8.heap.size) 0 _ _ _ HK1918.out
        try simp at kc1922
        have kc1923 := cell_of_row _ (w9.heap.size) 0 _ _ _ HK1919.out
        try simp at kc1923
        have ez := EZ.out
        go_wp2_with fail
        go_ret
        exact ⟨by first | rfl | simp, HB1911.out⟩
  · have HMf := Lib.hid (fun W A c D d h1 h2 => merge_bad A c D d fu cv hF hC (by rw [hfs, hto]; omega) W h1 h2)
    have e1 : ((ml : Int) == 0) = false := by rw [beq_eq_false_iff_ne]; omega
    have e2 : decide (0 < (ml : Int)) = true := by simp; omega
    have e3 : 0 < ml := by omega
    have e4 : (0 : Int) < (ml : Int) := by omega
    have hqc := hqb (by omega)
    have hwq : IntKind.i64.wrap q = q := by simp only [IntKind.wrap_i64]; omega
    have d3 : decide (q < m) = false := by
      rcases hk.2 with h | h
      · exact absurd h hz
      · simpa using h
    have hd0 : (ml : Int) ≠ 0 := by omega
    clear hk hC hF hfs hto hzl hqb hqc
    go_enter Try.func9, Try.ntmps9
    go_wp2_with fail
    refine (known_any _).mono ?_
    rintro e w1 ⟨rfl, hb⟩
    have HB0 := Lib.hid hb
    clear hb
    go_wp2_with fail
    refine (HOf.out _ (HR.out _ HB0.out)).mono ?_
    rintro e w2 ⟨⟨x, rfl, ho⟩, hb⟩
    have HB3001 := Lib.hid (HB0.out.trans (hb.mono HB0.out.size))
    obtain ⟨A, c, rfl, _, hrs, _⟩ := rs_own ho
    have HRs := Lib.hid (fun W (hb : Below w2.heap.size w2 W) => (fun j hj => by
          obtain ⟨b, off, e, h1, h2⟩ := Rs.below hrs hb j hj
          exact ⟨b, off, e, Nat.lt_of_lt_of_le h1 hb.size, h2⟩ : Rs W W.heap.size A (ivCells (bk cv))))
    clear ho hrs
    clear hb
    have HB3002 : Hid (Below w2.heap.size w2 w2) := Lib.hid (Below.refl _ _)
    have HB3003 := Lib.hid (HB3001.out.alloc HB3001.out.size (.cells #[Value.slice A (bk cv).length c] 33))
    have HB3004 := Lib.hid (HB3002.out.alloc HB3002.out.size (.cells #[Value.slice A (bk cv).length c] 33))
    have HK3005 := Lib.hid (Deep.blk_alloc_new w2 (.cells #[Value.slice A (bk cv).length c] 33))
    have kc3006 := cell_of_row _ (w2.heap.size) 0 _ _ _ HK3005.out
    try simp at kc3006
    go_wp2_with fail
    refine (HTt.out _ _ _ (HRs.out _ HB3004.out)).mono ?_
    rintro e w3 ⟨rfl, hb⟩
    have HB3007 := Lib.hid (HB3003.out.trans (hb.mono HB3003.out.size))
    have HB3008 := Lib.hid (HB3004.out.trans (hb.mono HB3004.out.size))
    have HK3009 := Lib.hid ((hb.block (w2.heap.size) ((Array.getElem?_eq_some_iff.1 HK3005.out).1)).trans HK3005.out)
    clear hb
    clear kc3006
    have kc3010 := cell_of_row _ (w2.heap.size) 0 _ _ _ HK3009.out
    try simp at kc3010
    go_wp2_with fail
    refine (HSc.out _ _ _ (HRs.out _ HB3008.out)).mono ?_
    rintro e w4 ⟨⟨x, rfl, ho⟩, hb⟩
    have HB3011 := Lib.hid (HB3007.out.trans (hb.mono HB3007.out.size))
    have HB3012 := Lib.hid (HB3008.out.trans (hb.mono HB3008.out.size))
    have HK3013 := Lib.hid ((hb.block (w2.heap.size) ((Array.getElem?_eq_some_iff.1 HK3009.out).1)).trans HK3009.out)
    obtain ⟨Ax, cc, rfl, _, hrs, _⟩ := rs_own ho
    have HRx := Lib.hid (fun W (hb : Below w4.heap.size w4 W) => (fun j hj => by
          obtain ⟨b, off, e, h1, h2⟩ := Rs.below hrs hb j hj
          exact ⟨b, off, e, Nat.lt_of_lt_of_le h1 hb.size, h2⟩ : Rs W W.heap.size Ax (ivCells (bk cx))))
    clear ho hrs
    clear hb
    clear kc3010
    have HB3014 : Hid (Below w4.heap.size w4 w4) := Lib.hid (Below.refl _ _)
    have HB3015 := Lib.hid (HB3011.out.alloc HB3011.out.size (.cells #[Value.slice Ax (bk cx).length cc] 33))
    have HB3016 := Lib.hid (HB3012.out.alloc HB3012.out.size (.cells #[Value.slice Ax (bk cx).length cc] 33))
    have HB3017 := Lib.hid (HB3014.out.alloc HB3014.out.size (.cells #[Value.slice Ax (bk cx).length cc] 33))
    have HK3018 := Lib.hid ((Below.heap_alloc w4 (.cells #[Value.slice Ax (bk cx).length cc] 33) (w2.heap.size) ((Array.getElem?_eq_some_iff.1 HK3013.out).1)).trans HK3013.out)
    have HK3019 := Lib.hid (Deep.blk_alloc_new w4 (.cells #[Value.slice Ax (bk cx).length cc] 33))
    have kc3020 := cell_of_row _ (w2.heap.size) 0 _ _ _ HK3018.out
    try simp at kc3020
    have kc3021 := cell_of_row _ (w4.heap.size) 0 _ _ _ HK3019.out
    try simp at kc3021
    go_wp2_with fail
    refine (HFu.out _ none 0 (hRn _)).mono ?_
    rintro e w5 ⟨⟨x, rfl, ho⟩, hb⟩
    have HB3022 := Lib.hid (HB3015.out.trans (hb.mono HB3015.out.size))
    have HB3023 := Lib.hid (HB3016.out.trans (hb.mono HB3016.out.size))
    have HB3024 := Lib.hid (HB3017.out.trans (hb.mono HB3017.out.size))
    have HK3025 := Lib.hid ((hb.block (w2.heap.size) ((Array.getElem?_eq_some_iff.1 HK3018.out).1)).trans HK3018.out)
    have HK3026 := Lib.hid ((hb.block (w4.heap.size) ((Array.getElem?_eq_some_iff.1 HK3019.out).1)).trans HK3019.out)
    obtain ⟨Af, cf, rfl, _, hrs, _⟩ := rs_own ho
    have HRf := Lib.hid (fun W (hb : Below w5.heap.size w5 W) => (fun j hj => by
          obtain ⟨b, off, e, h1, h2⟩ := Rs.below hrs hb j hj
          exact ⟨b, off, e, Nat.lt_of_lt_of_le h1 hb.size, h2⟩ : Rs W W.heap.size Af (ivCells (bk fu))))
    clear ho hrs
    clear hb
    clear kc3020 kc3021
    have HB3027 : Hid (Below w5.heap.size w5 w5) := Lib.hid (Below.refl _ _)
    have HB3028 := Lib.hid (HB3022.out.alloc HB3022.out.size (.cells #[Value.slice Af (bk fu).length cf] 33))
    have HB3029 := Lib.hid (HB3023.out.alloc HB3023.out.size (.cells #[Value.slice Af (bk fu).length cf] 33))
    have HB3030 := Lib.hid (HB3024.out.alloc HB3024.out.size (.cells #[Value.slice Af (bk fu).length cf] 33))
    have HB3031 := Lib.hid (HB3027.out.alloc HB3027.out.size (.cells #[Value.slice Af (bk fu).length cf] 33))
    have HK3032 := Lib.hid ((Below.heap_alloc w5 (.cells #[Value.slice Af (bk fu).length cf] 33) (w2.heap.size) ((Array.getElem?_eq_some_iff.1 HK3025.out).1)).trans HK3025.out)
    have HK3033 := Lib.hid ((Below.heap_alloc w5 (.cells #[Value.slice Af (bk fu).length cf] 33) (w4.heap.size) ((Array.getElem?_eq_some_iff.1 HK3026.out).1)).trans HK3026.out)
    have HK3034 := Lib.hid (Deep.blk_alloc_new w5 (.cells #[Value.slice Af (bk fu).length cf] 33))
    have kc3035 := cell_of_row _ (w2.heap.size) 0 _ _ _ HK3032.out
    try simp at kc3035
    have kc3036 := cell_of_row _ (w4.heap.size) 0 _ _ _ HK3033.out
    try simp at kc3036
    have kc3037 := cell_of_row _ (w5.heap.size) 0 _ _ _ HK3034.out
    try simp at kc3037
    go_wp2_with fail
    refine (HMf.out _ _ _ _ _ (HRf.out _ HB3031.out) (HRs.out _ HB3029.out)).mono ?_
    rintro e w6 ⟨rfl, hb⟩
    have HB3038 := Lib.hid (HB3028.out.trans (hb.mono HB3028.out.size))
    have HB3039 := Lib.hid (HB3029.out.trans (hb.mono HB3029.out.size))
    have HB3040 := Lib.hid (HB3030.out.trans (hb.mono HB3030.out.size))
    have HB3041 := Lib.hid (HB3031.out.trans (hb.mono HB3031.out.size))
    have HK3042 := Lib.hid ((hb.block (w2.heap.size) ((Array.getElem?_eq_some_iff.1 HK3032.out).1)).trans HK3032.out)
    have HK3043 := Lib.hid ((hb.block (w4.heap.size) ((Array.getElem?_eq_some_iff.1 HK3033.out).1)).trans HK3033.out)
    have HK3044 := Lib.hid ((hb.block (w5.heap.size) ((Array.getElem?_eq_some_iff.1 HK3034.out).1)).trans HK3034.out)
    clear hb
    clear kc3035 kc3036 kc3037
    have BW6w := HB3038
    have BW6w2 := HB3039
    have BW6w4 := HB3040
    have HB3045 : Hid (Below w6.heap.size w6 w6) := Lib.hid (Below.refl _ _)
    have HB3046 := Lib.hid (HB3038.out.alloc HB3038.out.size (.cells #[Value.slice none 0 0] 33))
    have HB3047 := Lib.hid (HB3039.out.alloc HB3039.out.size (.cells #[Value.slice none 0 0] 33))
    have HB3048 := Lib.hid (HB3040.out.alloc HB3040.out.size (.cells #[Value.slice none 0 0] 33))
    have HB3049 := Lib.hid (HB3041.out.alloc HB3041.out.size (.cells #[Value.slice none 0 0] 33))
    have HB3050 := Lib.hid (HB3045.out.alloc HB3045.out.size (.cells #[Value.slice none 0 0] 33))
    have HK3051 := Lib.hid ((Below.heap_alloc w6 (.cells #[Value.slice none 0 0] 33) (w2.heap.size) ((Array.getElem?_eq_some_iff.1 HK3042.out).1)).trans HK3042.out)
    have HK3052 := Lib.hid ((Below.heap_alloc w6 (.cells #[Value.slice none 0 0] 33) (w4.heap.size) ((Array.getElem?_eq_some_iff.1 HK3043.out).1)).trans HK3043.out)
    have HK3053 := Lib.hid ((Below.heap_alloc w6 (.cells #[Value.slice none 0 0] 33) (w5.heap.size) ((Array.getElem?_eq_some_iff.1 HK3044.out).1)).trans HK3044.out)
    have HK3054 := Lib.hid (Deep.blk_alloc_new w6 (.cells #[Value.slice none 0 0] 33))
    have kc3055 := cell_of_row _ (w2.heap.size) 0 _ _ _ HK3051.out
    try simp at kc3055
    have kc3056 := cell_of_row _ (w4.heap.size) 0 _ _ _ HK3052.out
    try simp at kc3056
    have kc3057 := cell_of_row _ (w5.heap.size) 0 _ _ _ HK3053.out
    try simp at kc3057
    have kc3058 := cell_of_row _ (w6.heap.size) 0 _ _ _ HK3054.out
    try simp at kc3058
    clear kc3055 kc3056 kc3057 kc3058
    go_wp2_with fail
    go_loopw [13] (fun iv wr => ∃ k : Nat, k ≤ 305 ∧ iv = .int .i64 (k : Int) ∧ Hid (wr.heap[w4.heap.size]? = some (.cells #[Value.slice Ax (bk cx).length cc] 33 (0, 0))) ∧ Hid (wr.heap[w2.heap.size]? = some (.cells #[Value.slice A (bk cv).length c] 33 (0, 0))) ∧ Hid (Below w6.heap.size w6 wr)) (fun iv _ => 305 - (intOf iv).toNat)
    case atStart => exact ⟨0, Nat.zero_le _, rfl, HK3052, HK3051, HB3050⟩
    case round =>
      obtain ⟨k, hk, rfl, HX, HHb, HB⟩ := hrel
      have hk0 : (0 : Int) ≤ (k : Int) := by omega
      by_cases hlt : k < 305
      · have hkI : (k : Int) < 305 := by omega
        have hw1 : IntKind.i64.wrap ((k : Int) + 1) = (k : Int) + 1 := by simp only [IntKind.wrap_i64]; omega
        have hg := HGt.out k
        have hbd := HBd.out k
        have HA1 := Lib.hid (fun W A c h => HAx.out W A c k hlt h)
        have HA2 := Lib.hid (fun W A c h => HAh.out W A c k hlt h)
        obtain ⟨y, hy⟩ : ∃ y, y = cv.getD k 0 := ⟨_, rfl⟩
        obtain ⟨z, hz⟩ : ∃ z, z = cx.getD k 0 := ⟨_, rfl⟩
        rw [← hy] at hg hbd HA2
        rw [← hz] at hg HA1
        clear hy hz
        have hwy : IntKind.i64.wrap (y * m) = y * m := by simp only [IntKind.wrap_i64]; omega
        have hgz : (z != y * m) = false := by rw [hg]; simp
        clear hbd
        go_wp2_with fail
        have HD3559 : Hid (∀ n, Below w.heap.size w ((wr).drewN n)) := Lib.hid (fun n => below_drewN (BW6w.out.trans (HB.out.mono BW6w.out.size)) n)
        have HD3560 : Hid (∀ n, Below w2.heap.size w2 ((wr).drewN n)) := Lib.hid (fun n => below_drewN (BW6w2.out.trans (HB.out.mono BW6w2.out.size)) n)
        have HD3561 : Hid (∀ n, Below w4.heap.size w4 ((wr).drewN n)) := Lib.hid (fun n => below_drewN (BW6w4.out.trans (HB.out.mono BW6w4.out.size)) n)
        have HD3562 : Hid (∀ n, Below w6.heap.size w6 ((wr).drewN n)) := Lib.hid (fun n => below_drewN HB.out n)
        have HE3563 : Hid (∀ n, ((wr).drewN n).heap[w4.heap.size]? = some (.cells #[Value.slice Ax (bk cx).length cc] 33 (0, 0))) := Lib.hid (fun n => HX.out)
        have HE3564 : Hid (∀ n, ((wr).drewN n).heap[w2.heap.size]? = some (.cells #[Value.slice A (bk cv).length c] 33 (0, 0))) := Lib.hid (fun n => HHb.out)
        go_region_held3 (fun W => W.cell? ⟨w4.heap.size, 0, none⟩ = some (Value.slice Ax (bk cx).length cc) ∧ W.cell? ⟨w2.heap.size, 0, none⟩ = some (Value.slice A (bk cv).length c))
          (first | exact ⟨cell_of_row _ (w4.heap.size) 0 _ _ _ HK3577.out, cell_of_row _ (w2.heap.size) 0 _ _ _ HK3578.out⟩ | exact ⟨cell_of_row _ (w4.heap.size) 0 _ _ _ HK3570.out, cell_of_row _ (w2.heap.size) 0 _ _ _ HK3571.out⟩ | exact ⟨cell_of_row _ (w4.heap.size) 0 _ _ _ (HE3563.out _), cell_of_row _ (w2.heap.size) 0 _ _ _ (HE3564.out _)⟩ | assumption)
          ((first
            | (go_at_call 28; have hgd := HB3566; clear hgd; refine (HA2.out _ _ _ (HRs.out _ HB3567.out)).mono ?_; rintro e v3572 ⟨rfl, hb⟩; have HB3573 := Lib.hid (HB3566.out.trans (hb.mono HB3566.out.size)); have HB3574 := Lib.hid (HB3567.out.trans (hb.mono HB3567.out.size)); have HB3575 := Lib.hid (HB3568.out.trans (hb.mono HB3568.out.size)); have HB3576 := Lib.hid (HB3569.out.trans (hb.mono HB3569.out.size)); have HK3577 := Lib.hid ((hb.block (w4.heap.size) ((Array.getElem?_eq_some_iff.1 HK3570.out).1)).trans HK3570.out); have HK3578 := Lib.hid ((hb.block (w2.heap.size) ((Array.getElem?_eq_some_iff.1 HK3571.out).1)).trans HK3571.out); clear hb)
            | (go_at_call 28; refine (HA1.out _ _ _ (HRx.out _ (HD3561.out _))).mono ?_; rintro e v3565 ⟨rfl, hb⟩; have HB3566 := Lib.hid ((HD3559.out _).trans (hb.mono (HD3559.out _).size)); have HB3567 := Lib.hid ((HD3560.out _).trans (hb.mono (HD3560.out _).size)); have HB3568 := Lib.hid ((HD3561.out _).trans (hb.mono (HD3561.out _).size)); have HB3569 := Lib.hid ((HD3562.out _).trans (hb.mono (HD3562.out _).size)); have HK3570 := Lib.hid ((hb.block (w4.heap.size) ((Array.getElem?_eq_some_iff.1 (HE3563.out _)).1)).trans (HE3563.out _)); have HK3571 := Lib.hid ((hb.block (w2.heap.size) ((Array.getElem?_eq_some_iff.1 (HE3564.out _)).1)).trans (HE3564.out _)); clear hb)
            | fail))
        go_wp2_with fail
        go_roundw
        case rel => exact ⟨k + 1, by omega, by go_num, HK3577, HK3578, HB3576⟩
        case measure => simp [intOf] <;> omega
      · obtain rfl : k = 305 := by omega
        have kc3859 := cell_of_row _ (w4.heap.size) 0 _ _ _ HX.out
        try simp at kc3859
        have kc3860 := cell_of_row _ (w2.heap.size) 0 _ _ _ HHb.out
        try simp at kc3860
        go_wp2_with fail
        refine (HMt.out _ _ _ _ _ (HRs.out _ (BW6w2.out.trans (HB.out.mono BW6w2.out.size))) (HRs.out _ (BW6w2.out.trans (HB.out.mono BW6w2.out.size)))).mono ?_
        rintro e w8 ⟨⟨x, rfl, ho⟩, hb⟩
        have HB3861 := Lib.hid ((BW6w.out.trans (HB.out.mono BW6w.out.size)).trans (hb.mono (BW6w.out.trans (HB.out.mono BW6w.out.size)).size))
        have HB3862 := Lib.hid ((BW6w2.out.trans (HB.out.mono BW6w2.out.size)).trans (hb.mono (BW6w2.out.trans (HB.out.mono BW6w2.out.size)).size))
        have HB3863 := Lib.hid ((BW6w4.out.trans (HB.out.mono BW6w4.out.size)).trans (hb.mono (BW6w4.out.trans (HB.out.mono BW6w4.out.size)).size))
        have HK3864 := Lib.hid ((hb.block (w4.heap.size) ((Array.getElem?_eq_some_iff.1 HX.out).1)).trans HX.out)
        have HK3865 := Lib.hid ((hb.block (w2.heap.size) ((Array.getElem?_eq_some_iff.1 HHb.out).1)).trans HHb.out)
        obtain ⟨At, ct, rfl, _, hrs, _⟩ := rs_own ho
        have HRt := Lib.hid (fun W (hb : Below w8.heap.size w8 W) => (fun j hj => by
              obtain ⟨b, off, e, h1, h2⟩ := Rs.below hrs hb j hj
              exact ⟨b, off, e, Nat.lt_of_lt_of_le h1 hb.size, h2⟩ : Rs W W.heap.size At (ivCells B2)))
        clear ho hrs
        clear hb
        clear kc3859 kc3860
        have HB3866 : Hid (Below w8.heap.size w8 w8) := Lib.hid (Below.refl _ _)
        have HB3867 := Lib.hid (HB3861.out.alloc HB3861.out.size (.cells #[Value.slice At B2.length ct] 33))
        have HB3868 := Lib.hid (HB3862.out.alloc HB3862.out.size (.cells #[Value.slice At B2.length ct] 33))
        have HB3869 := Lib.hid (HB3863.out.alloc HB3863.out.size (.cells #[Value.slice At B2.length ct] 33))
        have HB3870 := Lib.hid (HB3866.out.alloc HB3866.out.size (.cells #[Value.slice At B2.length ct] 33))
        have HK3871 := Lib.hid ((Below.heap_alloc w8 (.cells #[Value.slice At B2.length ct] 33) (w4.heap.size) ((Array.getElem?_eq_some_iff.1 HK3864.out).1)).trans HK3864.out)
        have HK3872 := Lib.hid ((Below.heap_alloc w8 (.cells #[Value.slice At B2.length ct] 33) (w2.heap.size) ((Array.getElem?_eq_some_iff.1 HK3865.out).1)).trans HK3865.out)
        have HK3873 := Lib.hid (Deep.blk_alloc_new w8 (.cells #[Value.slice At B2.length ct] 33))
        have kc3874 := cell_of_row _ (w4.heap.size) 0 _ _ _ HK3871.out
        try simp at kc3874
        have kc3875 := cell_of_row _ (w2.heap.size) 0 _ _ _ HK3872.out
        try simp at kc3875
        have kc3876 := cell_of_row _ (w8.heap.size) 0 _ _ _ HK3873.out
        try simp at kc3876
        go_wp2_with fail
        refine (HS2.out _ _ _ (HRs.out _ HB3868.out)).mono ?_
        rintro e w9 ⟨⟨x, rfl, ho⟩, hb⟩
        have HB3877 := Lib.hid (HB3867.out.trans (hb.mono HB3867.out.size))
        have HB3878 := Lib.hid (HB3868.out.trans (hb.mono HB3868.out.size))
        have HB3879 := Lib.hid (HB3869.out.trans (hb.mono HB3869.out.size))
        have HB3880 := Lib.hid (HB3870.out.trans (hb.mono HB3870.out.size))
        have HK3881 := Lib.hid ((hb.block (w4.heap.size) ((Array.getElem?_eq_some_iff.1 HK3871.out).1)).trans HK3871.out)
        have HK3882 := Lib.hid ((hb.block (w2.heap.size) ((Array.getElem?_eq_some_iff.1 HK3872.out).1)).trans HK3872.out)
        have HK3883 := Lib.hid ((hb.block (w8.heap.size) ((Array.getElem?_eq_some_iff.1 HK3873.out).1)).trans HK3873.out)
        obtain ⟨Au, cu, rfl, _, hrs, _⟩ := rs_own ho
        have HRu := Lib.hid (fun W (hb : Below w9.heap.size w9 W) => (fun j hj => by
              obtain ⟨b, off, e, h1, h2⟩ := Rs.below hrs hb j hj
              exact ⟨b, off, e, Nat.lt_of_lt_of_le h1 hb.size, h2⟩ : Rs W W.heap.size Au (ivCells B2)))
        clear ho hrs
        clear hb
        clear kc3874 kc3875 kc3876
        have HB3884 : Hid (Below w9.heap.size w9 w9) := Lib.hid (Below.refl _ _)
        have HB3885 := Lib.hid (HB3877.out.alloc HB3877.out.size (.cells #[Value.slice Au B2.length cu] 33))
        have HB3886 := Lib.hid (HB3878.out.alloc HB3878.out.size (.cells #[Value.slice Au B2.length cu] 33))
        have HB3887 := Lib.hid (HB3879.out.alloc HB3879.out.size (.cells #[Value.slice Au B2.length cu] 33))
        have HB3888 := Lib.hid (HB3880.out.alloc HB3880.out.size (.cells #[Value.slice Au B2.length cu] 33))
        have HB3889 := Lib.hid (HB3884.out.alloc HB3884.out.size (.cells #[Value.slice Au B2.length cu] 33))
        have HK3890 := Lib.hid ((Below.heap_alloc w9 (.cells #[Value.slice Au B2.length cu] 33) (w4.heap.size) ((Array.getElem?_eq_some_iff.1 HK3881.out).1)).trans HK3881.out)
        have HK3891 := Lib.hid ((Below.heap_alloc w9 (.cells #[Value.slice Au B2.length cu] 33) (w2.heap.size) ((Array.getElem?_eq_some_iff.1 HK3882.out).1)).trans HK3882.out)
        have HK3892 := Lib.hid ((Below.heap_alloc w9 (.cells #[Value.slice Au B2.length cu] 33) (w8.heap.size) ((Array.getElem?_eq_some_iff.1 HK3883.out).1)).trans HK3883.out)
        have HK3893 := Lib.hid (Deep.blk_alloc_new w9 (.cells #[Value.slice Au B2.length cu] 33))
        have kc3894 := cell_of_row _ (w4.heap.size) 0 _ _ _ HK3890.out
        try simp at kc3894
        have kc3895 := cell_of_row _ (w2.heap.size) 0 _ _ _ HK3891.out
        try simp at kc3895
        have kc3896 := cell_of_row _ (w8.heap.size) 0 _ _ _ HK3892.out
        try simp at kc3896
        have kc3897 := cell_of_row _ (w9.heap.size) 0 _ _ _ HK3893.out
        try simp at kc3897
        go_wp2_with fail
        refine (HCk.out _ _ _ (HRx.out _ HB3887.out)).mono ?_
        rintro e wA ⟨rfl, hb⟩
        have HB3898 := Lib.hid (HB3885.out.trans (hb.mono HB3885.out.size))
        have HB3899 := Lib.hid (HB3886.out.trans (hb.mono HB3886.out.size))
        have HB3900 := Lib.hid (HB3887.out.trans (hb.mono HB3887.out.size))
        have HB3901 := Lib.hid (HB3888.out.trans (hb.mono HB3888.out.size))
        have HB3902 := Lib.hid (HB3889.out.trans (hb.mono HB3889.out.size))
        have HK3903 := Lib.hid ((hb.block (w4.heap.size) ((Array.getElem?_eq_some_iff.1 HK3890.out).1)).trans HK3890.out)
        have HK3904 := Lib.hid ((hb.block (w2.heap.size) ((Array.getElem?_eq_some_iff.1 HK3891.out).1)).trans HK3891.out)
        have HK3905 := Lib.hid ((hb.block (w8.heap.size) ((Array.getElem?_eq_some_iff.1 HK3892.out).1)).trans HK3892.out)
        have HK3906 := Lib.hid ((hb.block (w9.heap.size) ((Array.getElem?_eq_some_iff.1 HK3893.out).1)).trans HK3893.out)
        clear hb
        clear kc3894 kc3895 kc3896 kc3897
        have kc3907 := cell_of_row _ (w4.heap.size) 0 _ _ _ HK3903.out
        try simp at kc3907
        have kc3908 := cell_of_row _ (w2.heap.size) 0 _ _ _ HK3904.out
        try simp at kc3908
        have kc3909 := cell_of_row _ (w8.heap.size) 0 _ _ _ HK3905.out
        try simp at kc3909
        have kc3910 := cell_of_row _ (w9.heap.size) 0 _ _ _ HK3906.out
        try simp at kc3910
        go_wp2_with fail
        refine (HEq.out _ _ _ _ _ (HRt.out _ HB3901.out) (HRu.out _ HB3902.out)).mono ?_
        rintro e wB ⟨rfl, hb⟩
        have HB3911 := Lib.hid (HB3898.out.trans (hb.mono HB3898.out.size))
        have HB3912 := Lib.hid (HB3899.out.trans (hb.mono HB3899.out.size))
        have HB3913 := Lib.hid (HB3900.out.trans (hb.mono HB3900.out.size))
        have HB3914 := Lib.hid (HB3901.out.trans (hb.mono HB3901.out.size))
        have HB3915 := Lib.hid (HB3902.out.trans (hb.mono HB3902.out.size))
        have HK3916 := Lib.hid ((hb.block (w4.heap.size) ((Array.getElem?_eq_some_iff.1 HK3903.out).1)).trans HK3903.out)
        have HK3917 := Lib.hid ((hb.block (w2.heap.size) ((Array.getElem?_eq_some_iff.1 HK3904.out).1)).trans HK3904.out)
        have HK3918 := Lib.hid ((hb.block (w8.heap.size) ((Array.getElem?_eq_some_iff.1 HK3905.out).1)).trans HK3905.out)
        have HK3919 := Lib.hid ((hb.block (w9.heap.size) ((Array.getElem?_eq_some_iff.1 HK3906.out).1)).trans HK3906.out)
        clear hb
        clear kc3907 kc3908 kc3909 kc3910
        have kc3920 := cell_of_row _ (w4.heap.size) 0 _ _ _ HK3916.out
        try simp at kc3920
        have kc3921 := cell_of_row _ (w2.heap.size) 0 _ _ _ HK3917.out
        try simp at kc3921
        have kc3922 := cell_of_row _ (w8.heap.size) 0 _ _ _ HK3918.out
        try simp at kc3922
        have kc3923 := cell_of_row _ (w9.heap.size) 0 _ _ _ HK3919.out
        try simp at kc3923
        go_wp2_with fail
        go_ret
        exact ⟨by first | rfl | simp, HB3911.out⟩
theorem walk (w : World) (A0 : Option Addr) (c0 : Nat) (L0 : List Int) (hL0 : L0.length ≤ 9223372036854775807) (hs0 : ∀ x ∈ L0, -9223372036854775808 ≤ x ∧ x ≤ 9223372036854775807) (hR0 : Rd (Value.int .i64) w A0 L0) (m : Int) (_wm : (Lit.int .i64 m).wf = true) :
    Calls Try.prog 9 #[.slice A0 L0.length c0, .int .i64 m] w fun e w' => e = .returned (.bool true) ∧ Below w.heap.size w w' := by
  by_cases h1 : m < 0
  · exact walk_bad w A0 c0 L0 hL0 hs0 hR0 m (.inl h1)
  by_cases h2 : (vsN L0 40).length = 0
  · exact walk_ok w A0 c0 L0 hL0 hs0 hR0 m ⟨by omega, .inl h2⟩
  by_cases h3 : (1048576 : Int).tdiv ((vsN L0 40).length : Int) < m
  · exact walk_bad w A0 c0 L0 hL0 hs0 hR0 m (.inr ⟨by omega, by omega, h3⟩)
  · exact walk_ok w A0 c0 L0 hL0 hs0 hR0 m ⟨by omega, .inr (by omega)⟩
set_option maxRecDepth 100000 in
theorem lifted (os : Os) (started : os.Started) (H : Type) (enc : TypeId × Value → H) :
    ReturnsInHanded {} Try.checked os 9 .any (Rows.histogramScalesSpec.pre6 enc Try.prog Try.f9 Rows.histogramScalesRow.domain false) (Rows.histogramScalesSpec.post enc Try.prog Try.f9 false true false false) := by
  refine returnsInHanded_of_change (C := Try.checked) own started (by kernel_rfl) Try.func9
    (ChangeSpec.witness6 (enc := enc) (C := Try.checked) false ⟨#[], #[.slice none 0 0, .int .i64 0], []⟩ 8 (by kernel_rfl) (by kernel_rfl) (by kernel_rfl) (by kernel_rfl)) ?_
  intro W base args ds gs before hval0 hW _ _
  have hval : ∀ (j : Nat) t v, Try.f9.params[j]? = some t → args[j]? = some v → Value.okWide Try.prog W .any base t v := hval0
  have hW' := hW
  obtain ⟨p, q, hA0, hV, rfl, _, _⟩ := hW
  have hA : DataW.TrodAll enc Try.prog W 0 (fun _ => true) true Try.f9.params.toList args.toList ds p := hA0
  rw [Try.params9] at hA hval
  obtain ⟨v0, vs0, d0, ds0, p0, q0, hargs0, rfl, rfl, h0, r0⟩ := trodAll_cons hA
  obtain ⟨v1, vs1, d1, ds1, p1, q1, hargs1, rfl, rfl, h1, r1⟩ := trodAll_cons r0
  obtain ⟨rfl, rfl, rfl⟩ := trodAll_nil r1
  obtain rfl : args = #[v0, v1] := by cases args; simp_all
  obtain ⟨rfl, rfl⟩ := trodVars_none hV
  have lt0 : ∀ x ∈ p0, x.block < W.heap.size := fun x hx => hW'.lt x (by simp [hx])
  obtain ⟨A0, c0, L0, rfl, hL0, hs0, hR0⟩ := open_numb (hval 0 36 v0 rfl rfl) h0 lt0
  obtain ⟨a1, rfl, rfl, rfl, wa1⟩ := open_int Try.underlying3 (hval 1 3 v1 rfl rfl) h1
  clear hA0 hval0
  simp only [List.append_nil] at hW'
  refine (walk W A0 c0 L0 hL0 hs0 hR0 a1 wa1).mono fun e W' ⟨he, hb⟩ => ?_
  subst he
  exact ⟨_, rfl, post_mem hW' hb (fun _ _ _ => trodAll_mk1 (shut_bool Try.underlying4 _)) (fun sp hsp => by
    have t := trodAll_cons_mk (carry laidOut (by kernel_rfl) (of_decide_eq_true (by kernel_rfl)) h0 hb lt0 sp (fun x hx => hsp x (by simp [hx]))) (trodAll_cons_mk (shut_int Try.underlying3 wa1) trodAll_mk0)
    simp only [List.append_nil] at t
    exact t) (fun _ => rfl) (ok_one (by kernel_rfl) rfl (okWide_bool_mk Try.underlying4 _))⟩

theorem proved : Rows.HistogramScalesSaid :=
  OpenClaim.holds_of_wide 9 Try.f9 rfl rfl rfl rfl rfl rfl rfl ⟨rfl, rfl, rfl, rfl, rfl⟩ rfl rfl rfl rfl rfl (by kernel_rfl) Try.func9 (by kernel_rfl)
    (of_decide_eq_true (by kernel_rfl)) (by unfold Func.isWrapper; first | (rw [if_pos (by decide +kernel)]; kernel_rfl) | (rw [if_neg (by decide +kernel)]; exact ⟨rfl, rfl⟩))
    (fun os started H enc _ => lifted os started H enc)

end Go.Proofs.Ytolgcphmmghlbaa.lawScales
