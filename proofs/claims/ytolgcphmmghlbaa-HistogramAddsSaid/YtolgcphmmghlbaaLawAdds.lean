/- HistogramAdds: for any numbers, any value and any count the law returns true (written by wip/bin/gen_hadd.py). -/
import Derived.Test.YtolgcphmmghlbaaIa
import Derived.Test.YtolgcphmmghlbaaHk
import Derived.Test.YtolgcphmmghlbaaHl
import Derived.Test.YtolgcphmmghlbaaHm
import Derived.Test.YtolgcphmmghlbaaHv
namespace Go.Proofs.Ytolgcphmmghlbaa.lawAdds
open Go.Proofs.Ytolgcphmmghlbaa Go.ChangeShapes Go.WideShapes Go.ChangeAt Go.RowKit Go.Joins

theorem laidOut : laidOutB Try.prog = true := by kernel_rfl
set_option maxRecDepth 100000 in
set_option maxHeartbeats 8000000 in
theorem walk_bad (w : World) (A0 : Option Addr) (c0 : Nat) (L0 : List Int) (hL0 : L0.length ≤ 9223372036854775807) (hs0 : ∀ x ∈ L0, -9223372036854775808 ≤ x ∧ x ≤ 9223372036854775807) (hR0 : Rd (Value.int .i64) w A0 L0) (v n : Int)
    (hk : (v < 0) ∨ (0 ≤ v ∧ 1099511627776 < v) ∨ (0 ≤ v ∧ v ≤ 1099511627776 ∧ n < 0) ∨ (0 ≤ v ∧ v ≤ 1099511627776 ∧ 0 ≤ n ∧ 1048576 < n) ∨ (0 ≤ v ∧ v ≤ 1099511627776 ∧ 0 ≤ n ∧ n ≤ 1048576 ∧ 1048576 - ((vsN L0 40).length : Int) < n)) :
    Calls Try.prog 7 #[.slice A0 L0.length c0, .int .i64 v, .int .i64 n] w fun e w' => e = .returned (.bool true) ∧ Below w.heap.size w w' := by
  have HOf := Lib.hid (fun W h => lof_any A0 c0 L0 hL0 hs0 W h)
  have HVs := Lib.hid (fun W h => values_any A0 c0 L0 hL0 hs0 W h)
  have HR := Lib.hid (fun W (hb : Below w.heap.size w W) => hR0.below hb)
  have hln := vsN_len L0 40
  have hok := vsN_ok L0 40
  clear hR0 hs0 hL0
  obtain ⟨M, hM⟩ : ∃ M, M = vsN L0 40 := ⟨_, rfl⟩
  rw [← hM] at HOf HVs hln hok hk
  clear hM
  have hC := Cv.of M (by omega) hok
  have hto := sN_cvN M hok M.length (Nat.le_refl _)
  have HCt := Lib.hid (fun W A c h => count_any A c M (by omega) hok W h)
  rw [show bkN (cvN M M.length) 305 = bk (cvN M M.length) from rfl] at HCt
  rw [show bkS M = bk (cvN M M.length) from rfl] at HOf
  obtain ⟨cv, hcv⟩ : ∃ cv, cv = cvN M M.length := ⟨_, rfl⟩
  rw [← hcv] at HOf HCt hC hto
  obtain ⟨ml, hml⟩ : ∃ ml, ml = M.length := ⟨_, rfl⟩
  rw [← hml] at hto hln
  have HTt := Lib.hid (fun W A c h => total_any A c (bk cv) (Cv.bklen cv) hC.vb W h)
  rw [Cv.tt, hto] at HTt
  rw [← hml] at hk
  clear HCt HVs
  have hk2 : ∃ k : Int, ((v < 0 ∨ 1099511627776 < v) ∧ k = 2) ∨ (0 ≤ v ∧ v ≤ 1099511627776 ∧ n < 0 ∧ k = 2) ∨ (0 ≤ v ∧ v ≤ 1099511627776 ∧ 0 ≤ n ∧ 1048576 < n ∧ k = 2) ∨ (0 ≤ v ∧ v ≤ 1099511627776 ∧ 0 ≤ n ∧ n ≤ 1048576 ∧ 1048576 - sN cv 305 < n ∧ k = 20) := by
    rcases hk with h | h | h | h | h
    · exact ⟨2, .inl ⟨.inl h, rfl⟩⟩
    · exact ⟨2, .inl ⟨.inr h.2, rfl⟩⟩
    · exact ⟨2, .inr (.inl ⟨h.1, h.2.1, h.2.2, rfl⟩)⟩
    · exact ⟨2, .inr (.inr (.inl ⟨h.1, h.2.1, h.2.2.1, h.2.2.2, rfl⟩))⟩
    · exact ⟨20, .inr (.inr (.inr ⟨h.1, h.2.1, h.2.2.1, h.2.2.2.1, by rw [hto]; exact h.2.2.2.2, rfl⟩))⟩
  obtain ⟨k, hk2⟩ := hk2
  have HAd := Lib.hid (fun W A c h => add_bad A c cv hC v n k hk2 W h)
  have hk3 : (k = 2 ∧ ((v < 0) ∨ (0 ≤ v ∧ 1099511627776 < v) ∨ (0 ≤ v ∧ v ≤ 1099511627776 ∧ n < 0) ∨ (0 ≤ v ∧ v ≤ 1099511627776 ∧ 0 ≤ n ∧ 1048576 < n))) ∨ (k = 20 ∧ 0 ≤ v ∧ v ≤ 1099511627776 ∧ 0 ≤ n ∧ n ≤ 1048576 ∧ 1048576 - (ml : Int) < n) := by
    rw [hto] at hk2
    omega
  have hwt : IntKind.i64.wrap (1048576 - (ml : Int)) = 1048576 - (ml : Int) := by simp only [IntKind.wrap_i64]; omega
  clear hk hk2 hcv hml hC hok
  go_enter Try.func7, Try.ntmps7
  go_wp2_with fail
  refine (known_any _).mono ?_
  rintro e w1 ⟨rfl, hb⟩
  have HB0 := Lib.hid hb
  clear hb
  go_wp2_with fail
  refine (HOf.out _ (HR.out _ HB0.out)).mono ?_
  rintro e w2 ⟨⟨x, rfl, ho⟩, hb⟩
  have HB1 := Lib.hid (HB0.out.trans (hb.mono HB0.out.size))
  obtain ⟨A, c, rfl, _, hrs, _⟩ := rs_own ho
  have HRs := Lib.hid (fun W (hb : Below w2.heap.size w2 W) => (fun j hj => by
        obtain ⟨b, off, e, h1, h2⟩ := Rs.below hrs hb j hj
        exact ⟨b, off, e, Nat.lt_of_lt_of_le h1 hb.size, h2⟩ : Rs W W.heap.size A (ivCells (bk cv))))
  clear ho hrs
  clear hb
  have HB2 : Hid (Below w2.heap.size w2 w2) := Lib.hid (Below.refl _ _)
  have HB3 := Lib.hid (HB1.out.alloc HB1.out.size (.cells #[Value.slice A (bk cv).length c] 33))
  have HB4 := Lib.hid (HB2.out.alloc HB2.out.size (.cells #[Value.slice A (bk cv).length c] 33))
  have HK5 := Lib.hid (Deep.blk_alloc_new w2 (.cells #[Value.slice A (bk cv).length c] 33))
  have kc6 := cell_of_row _ (w2.heap.size) 0 _ _ _ HK5.out
  try simp at kc6
  go_wp2_with fail
  refine (HAd.out _ _ _ (HRs.out _ HB4.out)).mono ?_
  rintro e w3 ⟨rfl, hb⟩
  have HB7 := Lib.hid (HB3.out.trans (hb.mono HB3.out.size))
  have HB8 := Lib.hid (HB4.out.trans (hb.mono HB4.out.size))
  have HK9 := Lib.hid ((hb.block (w2.heap.size) ((Array.getElem?_eq_some_iff.1 HK5.out).1)).trans HK5.out)
  clear hb
  clear kc6
  have HB10 : Hid (Below w3.heap.size w3 w3) := Lib.hid (Below.refl _ _)
  have HB11 := Lib.hid (HB7.out.alloc HB7.out.size (.cells #[Value.slice none 0 0] 33))
  have HB12 := Lib.hid (HB8.out.alloc HB8.out.size (.cells #[Value.slice none 0 0] 33))
  have HB13 := Lib.hid (HB10.out.alloc HB10.out.size (.cells #[Value.slice none 0 0] 33))
  have HK14 := Lib.hid ((Below.heap_alloc w3 (.cells #[Value.slice none 0 0] 33) (w2.heap.size) ((Array.getElem?_eq_some_iff.1 HK9.out).1)).trans HK9.out)
  have HK15 := Lib.hid (Deep.blk_alloc_new w3 (.cells #[Value.slice none 0 0] 33))
  have kc16 := cell_of_row _ (w2.heap.size) 0 _ _ _ HK14.out
  try simp at kc16
  have kc17 := cell_of_row _ (w3.heap.size) 0 _ _ _ HK15.out
  try simp at kc17
  rcases hk3 with ⟨rfl, h1 | ⟨h1, h2⟩ | ⟨h1, h2, h3⟩ | ⟨h1, h2, h3, h4⟩⟩ | ⟨rfl, h1, h2, h3, h4, h5⟩
  · have d1 : decide (v < 0) = true := by simpa using h1
    go_wp2_with fail
    go_ret
    exact ⟨by first | rfl | simp, HB11.out⟩
  · have d1 : decide (v < 0) = false := by simpa using h1
    have d2 : decide (1099511627776 < v) = true := by simpa using h2
    go_wp2_with fail
    go_ret
    exact ⟨by first | rfl | simp, HB11.out⟩
  · have d1 : decide (v < 0) = false := by simpa using h1
    have d2 : decide (1099511627776 < v) = false := by simpa using h2
    have d3 : decide (n < 0) = true := by simpa using h3
    go_wp2_with fail
    go_ret
    exact ⟨by first | rfl | simp, HB11.out⟩
  · have d1 : decide (v < 0) = false := by simpa using h1
    have d2 : decide (1099511627776 < v) = false := by simpa using h2
    have d3 : decide (n < 0) = false := by simpa using h3
    have d4 : decide (1048576 < n) = true := by simpa using h4
    go_wp2_with fail
    go_ret
    exact ⟨by first | rfl | simp, HB11.out⟩
  · have d1 : decide (v < 0) = false := by simpa using h1
    have d2 : decide (1099511627776 < v) = false := by simpa using h2
    have d3 : decide (n < 0) = false := by simpa using h3
    have d4 : decide (1048576 < n) = false := by simpa using h4
    have d5 : decide (1048576 - (ml : Int) < n) = true := by simpa using h5
    go_wp2_with fail
    refine (HTt.out _ _ _ (HRs.out _ HB12.out)).mono ?_
    rintro e w4 ⟨rfl, hb⟩
    have HB18 := Lib.hid (HB11.out.trans (hb.mono HB11.out.size))
    have HB19 := Lib.hid (HB12.out.trans (hb.mono HB12.out.size))
    have HB20 := Lib.hid (HB13.out.trans (hb.mono HB13.out.size))
    have HK21 := Lib.hid ((hb.block (w2.heap.size) ((Array.getElem?_eq_some_iff.1 HK14.out).1)).trans HK14.out)
    have HK22 := Lib.hid ((hb.block (w3.heap.size) ((Array.getElem?_eq_some_iff.1 HK15.out).1)).trans HK15.out)
    clear hb
    clear kc16 kc17
    have kc23 := cell_of_row _ (w2.heap.size) 0 _ _ _ HK21.out
    try simp at kc23
    have kc24 := cell_of_row _ (w3.heap.size) 0 _ _ _ HK22.out
    try simp at kc24
    go_wp2_with fail
    go_ret
    exact ⟨by first | rfl | simp, HB18.out⟩
set_option maxRecDepth 100000 in
set_option maxHeartbeats 8000000 in
theorem walk_ok (w : World) (A0 : Option Addr) (c0 : Nat) (L0 : List Int) (hL0 : L0.length ≤ 9223372036854775807) (hs0 : ∀ x ∈ L0, -9223372036854775808 ≤ x ∧ x ≤ 9223372036854775807) (hR0 : Rd (Value.int .i64) w A0 L0) (v : Nat) (n : Int) (hv : v ≤ 1099511627776) (hn : 0 ≤ n) (hn2 : n ≤ 1048576 - ((vsN L0 40).length : Int)) :
    Calls Try.prog 7 #[.slice A0 L0.length c0, .int .i64 (v : Int), .int .i64 n] w fun e w' => e = .returned (.bool true) ∧ Below w.heap.size w w' := by
  have HOf := Lib.hid (fun W h => lof_any A0 c0 L0 hL0 hs0 W h)
  have HVs := Lib.hid (fun W h => values_any A0 c0 L0 hL0 hs0 W h)
  have HR := Lib.hid (fun W (hb : Below w.heap.size w W) => hR0.below hb)
  have hln := vsN_len L0 40
  have hok := vsN_ok L0 40
  clear hR0 hs0 hL0
  obtain ⟨M, hM⟩ : ∃ M, M = vsN L0 40 := ⟨_, rfl⟩
  rw [← hM] at HOf HVs hln hok hn2
  clear hM
  have hC := Cv.of M (by omega) hok
  have hto := sN_cvN M hok M.length (Nat.le_refl _)
  have HCt := Lib.hid (fun W A c h => count_any A c M (by omega) hok W h)
  rw [show bkN (cvN M M.length) 305 = bk (cvN M M.length) from rfl] at HCt
  rw [show bkS M = bk (cvN M M.length) from rfl] at HOf
  obtain ⟨cv, hcv⟩ : ∃ cv, cv = cvN M M.length := ⟨_, rfl⟩
  rw [← hcv] at HOf HCt hC hto
  obtain ⟨ml, hml⟩ : ∃ ml, ml = M.length := ⟨_, rfl⟩
  rw [← hml] at hto hln
  have HTt := Lib.hid (fun W A c h => total_any A c (bk cv) (Cv.bklen cv) hC.vb W h)
  rw [Cv.tt, hto] at HTt
  rw [← hml] at hn2
  have hi5 := ix_lt v hv
  have hCa := hC.add (ix v) n hi5 hn (by rw [hto]; exact hn2)
  have HAd := Lib.hid (fun W A c h => add_ok A c cv hC v hv n hn (by rw [hto]; exact hn2) W h)
  have HTx := Lib.hid (fun W A c h => total_any A c (bk (adC cv (ix v) n)) (Cv.bklen _) hCa.vb W h)
  rw [Cv.tt, adC_sum cv (ix v) n hi5 hC.len, hto] at HTx
  have HCk := Lib.hid (fun W A c h => hcheck_any A c (bk (adC cv (ix v) n)) (Cv.bklen _) hCa.ivok W h)
  rw [hCa.chk] at HCk
  have HSm := Lib.hid (fun W A c D d h1 h2 => same_any A D c d (bk cv) (bk cv) (by have := Cv.bklen cv; omega) (by have := Cv.bklen cv; omega) W h1 h2)
  rw [show (decide (bk cv = bk cv)) = true by simp] at HSm
  have HAx := Lib.hid (fun W A c k hk h => at_any A c (adC cv (ix v) n) k hk W h)
  have HAh := Lib.hid (fun W A c k hk h => at_any A c cv k hk W h)
  have HGt := Lib.hid (fun k => adC_get cv (ix v) k n hi5 hC.len)
  have HBd := Lib.hid (fun k => hC.bd k)
  have HI := Lib.hid (fun W => lindex_any v hv W)
  obtain ⟨i, hi⟩ : ∃ i, i = ix v := ⟨_, rfl⟩
  rw [← hi] at HAd HTx HCk HAx HGt HI hi5
  obtain ⟨cx, hcx⟩ : ∃ cx, cx = adC cv i n := ⟨_, rfl⟩
  rw [← hcx] at HAd HTx HCk HAx HGt
  have d1 : decide ((v : Int) < 0) = false := by simp
  have d2 : decide (1099511627776 < (v : Int)) = false := by simp; omega
  have d3 : decide (n < 0) = false := by simpa using hn
  have d4 : decide (1048576 < n) = false := by simp; omega
  have d5 : decide (1048576 - (ml : Int) < n) = false := by simp; omega
  have hwt : IntKind.i64.wrap (1048576 - (ml : Int)) = 1048576 - (ml : Int) := by simp only [IntKind.wrap_i64]; omega
  have hwn : IntKind.i64.wrap ((ml : Int) + n) = (ml : Int) + n := by simp only [IntKind.wrap_i64]; omega
  clear hcx hi hcv hml hC hok hCa hto hv
  go_enter Try.func7, Try.ntmps7
  go_wp2_with fail
  refine (known_any _).mono ?_
  rintro e w1 ⟨rfl, hb⟩
  have HB0 := Lib.hid hb
  clear hb
  go_wp2_with fail
  refine (HOf.out _ (HR.out _ HB0.out)).mono ?_
  rintro e w2 ⟨⟨x, rfl, ho⟩, hb⟩
  have HB1 := Lib.hid (HB0.out.trans (hb.mono HB0.out.size))
  obtain ⟨A, c, rfl, _, hrs, _⟩ := rs_own ho
  have HRs := Lib.hid (fun W (hb : Below w2.heap.size w2 W) => (fun j hj => by
        obtain ⟨b, off, e, h1, h2⟩ := Rs.below hrs hb j hj
        exact ⟨b, off, e, Nat.lt_of_lt_of_le h1 hb.size, h2⟩ : Rs W W.heap.size A (ivCells (bk cv))))
  clear ho hrs
  clear hb
  have HB2 : Hid (Below w2.heap.size w2 w2) := Lib.hid (Below.refl _ _)
  have HB3 := Lib.hid (HB1.out.alloc HB1.out.size (.cells #[Value.slice A (bk cv).length c] 33))
  have HB4 := Lib.hid (HB2.out.alloc HB2.out.size (.cells #[Value.slice A (bk cv).length c] 33))
  have HK5 := Lib.hid (Deep.blk_alloc_new w2 (.cells #[Value.slice A (bk cv).length c] 33))
  have kc6 := cell_of_row _ (w2.heap.size) 0 _ _ _ HK5.out
  try simp at kc6
  go_wp2_with fail
  refine (HAd.out _ _ _ (HRs.out _ HB4.out)).mono ?_
  rintro e w3 ⟨⟨x, rfl, ho⟩, hb⟩
  have HB7 := Lib.hid (HB3.out.trans (hb.mono HB3.out.size))
  have HB8 := Lib.hid (HB4.out.trans (hb.mono HB4.out.size))
  have HK9 := Lib.hid ((hb.block (w2.heap.size) ((Array.getElem?_eq_some_iff.1 HK5.out).1)).trans HK5.out)
  obtain ⟨Ax, cc, rfl, _, hrs, _⟩ := rs_own ho
  have HRx := Lib.hid (fun W (hb : Below w3.heap.size w3 W) => (fun j hj => by
        obtain ⟨b, off, e, h1, h2⟩ := Rs.below hrs hb j hj
        exact ⟨b, off, e, Nat.lt_of_lt_of_le h1 hb.size, h2⟩ : Rs W W.heap.size Ax (ivCells (bk cx))))
  clear ho hrs
  clear hb
  clear kc6
  have HB10 : Hid (Below w3.heap.size w3 w3) := Lib.hid (Below.refl _ _)
  have HB11 := Lib.hid (HB7.out.alloc HB7.out.size (.cells #[Value.slice Ax (bk cx).length cc] 33))
  have HB12 := Lib.hid (HB8.out.alloc HB8.out.size (.cells #[Value.slice Ax (bk cx).length cc] 33))
  have HB13 := Lib.hid (HB10.out.alloc HB10.out.size (.cells #[Value.slice Ax (bk cx).length cc] 33))
  have HK14 := Lib.hid ((Below.heap_alloc w3 (.cells #[Value.slice Ax (bk cx).length cc] 33) (w2.heap.size) ((Array.getElem?_eq_some_iff.1 HK9.out).1)).trans HK9.out)
  have HK15 := Lib.hid (Deep.blk_alloc_new w3 (.cells #[Value.slice Ax (bk cx).length cc] 33))
  have kc16 := cell_of_row _ (w2.heap.size) 0 _ _ _ HK14.out
  try simp at kc16
  have kc17 := cell_of_row _ (w3.heap.size) 0 _ _ _ HK15.out
  try simp at kc17
  go_wp2_with fail
  refine (HTt.out _ _ _ (HRs.out _ HB12.out)).mono ?_
  rintro e w4 ⟨rfl, hb⟩
  have HB18 := Lib.hid (HB11.out.trans (hb.mono HB11.out.size))
  have HB19 := Lib.hid (HB12.out.trans (hb.mono HB12.out.size))
  have HB20 := Lib.hid (HB13.out.trans (hb.mono HB13.out.size))
  have HK21 := Lib.hid ((hb.block (w2.heap.size) ((Array.getElem?_eq_some_iff.1 HK14.out).1)).trans HK14.out)
  have HK22 := Lib.hid ((hb.block (w3.heap.size) ((Array.getElem?_eq_some_iff.1 HK15.out).1)).trans HK15.out)
  clear hb
  clear kc16 kc17
  have kc23 := cell_of_row _ (w2.heap.size) 0 _ _ _ HK21.out
  try simp at kc23
  have kc24 := cell_of_row _ (w3.heap.size) 0 _ _ _ HK22.out
  try simp at kc24
  go_wp2_with fail
  clear kc23 kc24
  have HB25 : Hid (Below w4.heap.size w4 w4) := Lib.hid (Below.refl _ _)
  have HD26 : Hid (∀ n, Below w.heap.size w ((w4).drewN n)) := Lib.hid (fun n => below_drewN HB18.out n)
  have HD27 : Hid (∀ n, Below w2.heap.size w2 ((w4).drewN n)) := Lib.hid (fun n => below_drewN HB19.out n)
  have HD28 : Hid (∀ n, Below w3.heap.size w3 ((w4).drewN n)) := Lib.hid (fun n => below_drewN HB20.out n)
  have HD29 : Hid (∀ n, Below w4.heap.size w4 ((w4).drewN n)) := Lib.hid (fun n => below_drewN HB25.out n)
  have HE30 : Hid (∀ n, ((w4).drewN n).heap[w2.heap.size]? = some (.cells #[Value.slice A (bk cv).length c] 33 (0, 0))) := Lib.hid (fun n => HK21.out)
  have HE31 : Hid (∀ n, ((w4).drewN n).heap[w3.heap.size]? = some (.cells #[Value.slice Ax (bk cx).length cc] 33 (0, 0))) := Lib.hid (fun n => HK22.out)
  go_region_held3 (fun W => W.cell? ⟨w3.heap.size, 0, none⟩ = some (Value.slice Ax (bk cx).length cc) ∧ W.cell? ⟨w2.heap.size, 0, none⟩ = some (Value.slice A (bk cv).length c))
    (first | exact ⟨cell_of_row _ (w3.heap.size) 0 _ _ _ HK73.out, cell_of_row _ (w2.heap.size) 0 _ _ _ HK72.out⟩ | exact ⟨cell_of_row _ (w3.heap.size) 0 _ _ _ HK66.out, cell_of_row _ (w2.heap.size) 0 _ _ _ HK65.out⟩ | exact ⟨cell_of_row _ (w3.heap.size) 0 _ _ _ HK59.out, cell_of_row _ (w2.heap.size) 0 _ _ _ HK58.out⟩ | exact ⟨cell_of_row _ (w3.heap.size) 0 _ _ _ HK52.out, cell_of_row _ (w2.heap.size) 0 _ _ _ HK51.out⟩ | exact ⟨cell_of_row _ (w3.heap.size) 0 _ _ _ HK45.out, cell_of_row _ (w2.heap.size) 0 _ _ _ HK44.out⟩ | exact ⟨cell_of_row _ (w3.heap.size) 0 _ _ _ HK38.out, cell_of_row _ (w2.heap.size) 0 _ _ _ HK37.out⟩ | exact ⟨cell_of_row _ (w3.heap.size) 0 _ _ _ (HE31.out _), cell_of_row _ (w2.heap.size) 0 _ _ _ (HE30.out _)⟩ | assumption)
    ((first
      | (go_at_call 22; have hgd := HB61; clear hgd; refine (HSm.out _ _ _ _ _ (HRs.out _ HB62.out) HRe.out).mono ?_; rintro e v67 ⟨rfl, hb⟩; have HB68 := Lib.hid (HB61.out.trans (hb.mono HB61.out.size)); have HB69 := Lib.hid (HB62.out.trans (hb.mono HB62.out.size)); have HB70 := Lib.hid (HB63.out.trans (hb.mono HB63.out.size)); have HB71 := Lib.hid (HB64.out.trans (hb.mono HB64.out.size)); have HK72 := Lib.hid ((hb.block (w2.heap.size) ((Array.getElem?_eq_some_iff.1 HK65.out).1)).trans HK65.out); have HK73 := Lib.hid ((hb.block (w3.heap.size) ((Array.getElem?_eq_some_iff.1 HK66.out).1)).trans HK66.out); clear hb)
      | (go_at_call 23; have hgd := HB54; clear hgd; refine (HCt.out _ _ _ HRd.out).mono ?_; rintro e v60 ⟨⟨y, rfl, ho⟩, hb⟩; have HB61 := Lib.hid (HB54.out.trans (hb.mono HB54.out.size)); have HB62 := Lib.hid (HB55.out.trans (hb.mono HB55.out.size)); have HB63 := Lib.hid (HB56.out.trans (hb.mono HB56.out.size)); have HB64 := Lib.hid (HB57.out.trans (hb.mono HB57.out.size)); have HK65 := Lib.hid ((hb.block (w2.heap.size) ((Array.getElem?_eq_some_iff.1 HK58.out).1)).trans HK58.out); have HK66 := Lib.hid ((hb.block (w3.heap.size) ((Array.getElem?_eq_some_iff.1 HK59.out).1)).trans HK59.out); obtain ⟨E, ec, rfl, _, hrd, _⟩ := rs_own ho; have HRe := Lib.hid hrd; clear ho hrd; clear hb)
      | (go_at_call 27; have hgd := HB47; clear hgd; refine (HVs.out _ (HR.out _ HB47.out)).mono ?_; rintro e v53 ⟨⟨y, rfl, ho⟩, hb⟩; have HB54 := Lib.hid (HB47.out.trans (hb.mono HB47.out.size)); have HB55 := Lib.hid (HB48.out.trans (hb.mono HB48.out.size)); have HB56 := Lib.hid (HB49.out.trans (hb.mono HB49.out.size)); have HB57 := Lib.hid (HB50.out.trans (hb.mono HB50.out.size)); have HK58 := Lib.hid ((hb.block (w2.heap.size) ((Array.getElem?_eq_some_iff.1 HK51.out).1)).trans HK51.out); have HK59 := Lib.hid ((hb.block (w3.heap.size) ((Array.getElem?_eq_some_iff.1 HK52.out).1)).trans HK52.out); obtain ⟨D, dc, rfl, _, hrd⟩ := out_own ho; have HRd := Lib.hid hrd; clear ho hrd; clear hb)
      | (go_at_call 24; have hgd := HB40; clear hgd; refine (HTt.out _ _ _ (HRs.out _ HB41.out)).mono ?_; rintro e v46 ⟨rfl, hb⟩; have HB47 := Lib.hid (HB40.out.trans (hb.mono HB40.out.size)); have HB48 := Lib.hid (HB41.out.trans (hb.mono HB41.out.size)); have HB49 := Lib.hid (HB42.out.trans (hb.mono HB42.out.size)); have HB50 := Lib.hid (HB43.out.trans (hb.mono HB43.out.size)); have HK51 := Lib.hid ((hb.block (w2.heap.size) ((Array.getElem?_eq_some_iff.1 HK44.out).1)).trans HK44.out); have HK52 := Lib.hid ((hb.block (w3.heap.size) ((Array.getElem?_eq_some_iff.1 HK45.out).1)).trans HK45.out); clear hb)
      | (go_at_call 24; have hgd := HB33; clear hgd; refine (HTx.out _ _ _ (HRx.out _ HB35.out)).mono ?_; rintro e v39 ⟨rfl, hb⟩; have HB40 := Lib.hid (HB33.out.trans (hb.mono HB33.out.size)); have HB41 := Lib.hid (HB34.out.trans (hb.mono HB34.out.size)); have HB42 := Lib.hid (HB35.out.trans (hb.mono HB35.out.size)); have HB43 := Lib.hid (HB36.out.trans (hb.mono HB36.out.size)); have HK44 := Lib.hid ((hb.block (w2.heap.size) ((Array.getElem?_eq_some_iff.1 HK37.out).1)).trans HK37.out); have HK45 := Lib.hid ((hb.block (w3.heap.size) ((Array.getElem?_eq_some_iff.1 HK38.out).1)).trans HK38.out); clear hb)
      | (go_at_call 18; refine (HCk.out _ _ _ (HRx.out _ (HD28.out _))).mono ?_; rintro e v32 ⟨rfl, hb⟩; have HB33 := Lib.hid ((HD26.out _).trans (hb.mono (HD26.out _).size)); have HB34 := Lib.hid ((HD27.out _).trans (hb.mono (HD27.out _).size)); have HB35 := Lib.hid ((HD28.out _).trans (hb.mono (HD28.out _).size)); have HB36 := Lib.hid ((HD29.out _).trans (hb.mono (HD29.out _).size)); have HK37 := Lib.hid ((hb.block (w2.heap.size) ((Array.getElem?_eq_some_iff.1 (HE30.out _)).1)).trans (HE30.out _)); have HK38 := Lib.hid ((hb.block (w3.heap.size) ((Array.getElem?_eq_some_iff.1 (HE31.out _)).1)).trans (HE31.out _)); clear hb)
      | fail))
  have HB74 : Hid (Below v67.heap.size v67 v67) := Lib.hid (Below.refl _ _)
  go_wp2_with fail
  go_loopw [11, 12] (fun iv _ wr => ∃ k : Nat, k ≤ 305 ∧ iv = .int .i64 (k : Int) ∧ Hid (wr.heap[w3.heap.size]? = some (.cells #[Value.slice Ax (bk cx).length cc] 33 (0, 0))) ∧ Hid (wr.heap[w2.heap.size]? = some (.cells #[Value.slice A (bk cv).length c] 33 (0, 0))) ∧ Hid (Below v67.heap.size v67 wr)) (fun iv _ _ => 305 - (intOf iv).toNat)
  case atStart => exact ⟨0, Nat.zero_le _, rfl, HK73, HK72, Lib.hid (Below.refl _ _)⟩
  case round =>
    obtain ⟨k, hk, rfl, HX, HHb, HB⟩ := hrel
    have hk0 : (0 : Int) ≤ (k : Int) := by omega
    by_cases hlt : k < 305
    · have hkI : (k : Int) < 305 := by omega
      have hw1 : IntKind.i64.wrap ((k : Int) + 1) = (k : Int) + 1 := by simp only [IntKind.wrap_i64]; omega
      have hg := HGt.out k
      have hbd := HBd.out k
      have HA1 := Lib.hid (fun W A c h => HAx.out W A c k hlt h)
      have HA2 := Lib.hid (fun W A c h => HAh.out W A c k hlt h)
      obtain ⟨y, hy⟩ : ∃ y, y = cv.getD k 0 := ⟨_, rfl⟩
      obtain ⟨z, hz⟩ : ∃ z, z = cx.getD k 0 := ⟨_, rfl⟩
      rw [← hy] at hg hbd HA2
      rw [← hz] at hg HA1
      clear hy hz
      by_cases hki : k = i
      · rw [if_pos hki] at hg
        subst hki
        have hwy : IntKind.i64.wrap (y + n) = y + n := by simp only [IntKind.wrap_i64]; omega
        have hgz : (z != y + n) = false := by rw [hg]; simp
        have hkk : ((k : Int) == (k : Int)) = true := by simp
        go_wp2_with fail
        refine (HI.out _).mono ?_
        rintro e w' ⟨rfl, rfl⟩
        go_wp2_with fail
        have HD501 : Hid (∀ n, Below w.heap.size w ((wr).drewN n)) := Lib.hid (fun n => below_drewN (HB68.out.trans (HB.out.mono HB68.out.size)) n)
        have HD502 : Hid (∀ n, Below w2.heap.size w2 ((wr).drewN n)) := Lib.hid (fun n => below_drewN (HB69.out.trans (HB.out.mono HB69.out.size)) n)
        have HD503 : Hid (∀ n, Below w3.heap.size w3 ((wr).drewN n)) := Lib.hid (fun n => below_drewN (HB70.out.trans (HB.out.mono HB70.out.size)) n)
        have HD504 : Hid (∀ n, Below v67.heap.size v67 ((wr).drewN n)) := Lib.hid (fun n => below_drewN HB.out n)
        have HE505 : Hid (∀ n, ((wr).drewN n).heap[w3.heap.size]? = some (.cells #[Value.slice Ax (bk cx).length cc] 33 (0, 0))) := Lib.hid (fun n => HX.out)
        have HE506 : Hid (∀ n, ((wr).drewN n).heap[w2.heap.size]? = some (.cells #[Value.slice A (bk cv).length c] 33 (0, 0))) := Lib.hid (fun n => HHb.out)
        go_region_held3 (fun W => W.cell? ⟨w3.heap.size, 0, none⟩ = some (Value.slice Ax (bk cx).length cc) ∧ W.cell? ⟨w2.heap.size, 0, none⟩ = some (Value.slice A (bk cv).length c))
          (first | exact ⟨cell_of_row _ (w3.heap.size) 0 _ _ _ HK519.out, cell_of_row _ (w2.heap.size) 0 _ _ _ HK520.out⟩ | exact ⟨cell_of_row _ (w3.heap.size) 0 _ _ _ HK512.out, cell_of_row _ (w2.heap.size) 0 _ _ _ HK513.out⟩ | exact ⟨cell_of_row _ (w3.heap.size) 0 _ _ _ (HE505.out _), cell_of_row _ (w2.heap.size) 0 _ _ _ (HE506.out _)⟩ | assumption)
          ((first
            | (go_at_call 28; have hgd := HB508; clear hgd; refine (HA2.out _ _ _ (HRs.out _ HB509.out)).mono ?_; rintro e v514 ⟨rfl, hb⟩; have HB515 := Lib.hid (HB508.out.trans (hb.mono HB508.out.size)); have HB516 := Lib.hid (HB509.out.trans (hb.mono HB509.out.size)); have HB517 := Lib.hid (HB510.out.trans (hb.mono HB510.out.size)); have HB518 := Lib.hid (HB511.out.trans (hb.mono HB511.out.size)); have HK519 := Lib.hid ((hb.block (w3.heap.size) ((Array.getElem?_eq_some_iff.1 HK512.out).1)).trans HK512.out); have HK520 := Lib.hid ((hb.block (w2.heap.size) ((Array.getElem?_eq_some_iff.1 HK513.out).1)).trans HK513.out); clear hb)
            | (go_at_call 28; refine (HA1.out _ _ _ (HRx.out _ (HD503.out _))).mono ?_; rintro e v507 ⟨rfl, hb⟩; have HB508 := Lib.hid ((HD501.out _).trans (hb.mono (HD501.out _).size)); have HB509 := Lib.hid ((HD502.out _).trans (hb.mono (HD502.out _).size)); have HB510 := Lib.hid ((HD503.out _).trans (hb.mono (HD503.out _).size)); have HB511 := Lib.hid ((HD504.out _).trans (hb.mono (HD504.out _).size)); have HK512 := Lib.hid ((hb.block (w3.heap.size) ((Array.getElem?_eq_some_iff.1 (HE505.out _)).1)).trans (HE505.out _)); have HK513 := Lib.hid ((hb.block (w2.heap.size) ((Array.getElem?_eq_some_iff.1 (HE506.out _)).1)).trans (HE506.out _)); clear hb)
            | fail))
        go_wp2_with fail
        go_roundw
        case rel => exact ⟨k + 1, by omega, by go_num, HK519, HK520, HB518⟩
        case measure => simp [intOf] <;> omega
      · rw [if_neg hki] at hg
        have hwy : IntKind.i64.wrap (y + 0) = y + 0 := by simp only [IntKind.wrap_i64]; omega
        have hwz : IntKind.i64.wrap y = y := by simp only [IntKind.wrap_i64]; omega
        have hgz : (z != y) = false := by rw [hg]; simp
        have hkk : ((k : Int) == (i : Int)) = false := by rw [beq_eq_false_iff_ne]; omega
        have hkj : ¬ (k : Int) = (i : Int) := by omega
        go_wp2_with fail
        refine (HI.out _).mono ?_
        rintro e w' ⟨rfl, rfl⟩
        go_wp2_with fail
        have HD601 : Hid (∀ n, Below w.heap.size w ((wr).drewN n)) := Lib.hid (fun n => below_drewN (HB68.out.trans (HB.out.mono HB68.out.size)) n)
        have HD602 : Hid (∀ n, Below w2.heap.size w2 ((wr).drewN n)) := Lib.hid (fun n => below_drewN (HB69.out.trans (HB.out.mono HB69.out.size)) n)
        have HD603 : Hid (∀ n, Below w3.heap.size w3 ((wr).drewN n)) := Lib.hid (fun n => below_drewN (HB70.out.trans (HB.out.mono HB70.out.size)) n)
        have HD604 : Hid (∀ n, Below v67.heap.size v67 ((wr).drewN n)) := Lib.hid (fun n => below_drewN HB.out n)
        have HE605 : Hid (∀ n, ((wr).drewN n).heap[w3.heap.size]? = some (.cells #[Value.slice Ax (bk cx).length cc] 33 (0, 0))) := Lib.hid (fun n => HX.out)
        have HE606 : Hid (∀ n, ((wr).drewN n).heap[w2.heap.size]? = some (.cells #[Value.slice A (bk cv).length c] 33 (0, 0))) := Lib.hid (fun n => HHb.out)
        go_region_held3 (fun W => W.cell? ⟨w3.heap.size, 0, none⟩ = some (Value.slice Ax (bk cx).length cc) ∧ W.cell? ⟨w2.heap.size, 0, none⟩ = some (Value.slice A (bk cv).length c))
          (first | exact ⟨cell_of_row _ (w3.heap.size) 0 _ _ _ HK619.out, cell_of_row _ (w2.heap.size) 0 _ _ _ HK620.out⟩ | exact ⟨cell_of_row _ (w3.heap.size) 0 _ _ _ HK612.out, cell_of_row _ (w2.heap.size) 0 _ _ _ HK613.out⟩ | exact ⟨cell_of_row _ (w3.heap.size) 0 _ _ _ (HE605.out _), cell_of_row _ (w2.heap.size) 0 _ _ _ (HE606.out _)⟩ | assumption)
          ((first
            | (go_at_call 28; have hgd := HB608; clear hgd; refine (HA2.out _ _ _ (HRs.out _ HB609.out)).mono ?_; rintro e v614 ⟨rfl, hb⟩; have HB615 := Lib.hid (HB608.out.trans (hb.mono HB608.out.size)); have HB616 := Lib.hid (HB609.out.trans (hb.mono HB609.out.size)); have HB617 := Lib.hid (HB610.out.trans (hb.mono HB610.out.size)); have HB618 := Lib.hid (HB611.out.trans (hb.mono HB611.out.size)); have HK619 := Lib.hid ((hb.block (w3.heap.size) ((Array.getElem?_eq_some_iff.1 HK612.out).1)).trans HK612.out); have HK620 := Lib.hid ((hb.block (w2.heap.size) ((Array.getElem?_eq_some_iff.1 HK613.out).1)).trans HK613.out); clear hb)
            | (go_at_call 28; refine (HA1.out _ _ _ (HRx.out _ (HD603.out _))).mono ?_; rintro e v607 ⟨rfl, hb⟩; have HB608 := Lib.hid ((HD601.out _).trans (hb.mono (HD601.out _).size)); have HB609 := Lib.hid ((HD602.out _).trans (hb.mono (HD602.out _).size)); have HB610 := Lib.hid ((HD603.out _).trans (hb.mono (HD603.out _).size)); have HB611 := Lib.hid ((HD604.out _).trans (hb.mono (HD604.out _).size)); have HK612 := Lib.hid ((hb.block (w3.heap.size) ((Array.getElem?_eq_some_iff.1 (HE605.out _)).1)).trans (HE605.out _)); have HK613 := Lib.hid ((hb.block (w2.heap.size) ((Array.getElem?_eq_some_iff.1 (HE606.out _)).1)).trans (HE606.out _)); clear hb)
            | fail))
        go_wp2_with fail
        go_roundw
        case rel => exact ⟨k + 1, by omega, by go_num, HK619, HK620, HB618⟩
        case measure => simp [intOf] <;> omega
    · obtain rfl : k = 305 := by omega
      go_wp2_with fail
      go_ret
      exact ⟨by first | rfl | simp, HB68.out.trans (HB.out.mono HB68.out.size)⟩
theorem walk (w : World) (A0 : Option Addr) (c0 : Nat) (L0 : List Int) (hL0 : L0.length ≤ 9223372036854775807) (hs0 : ∀ x ∈ L0, -9223372036854775808 ≤ x ∧ x ≤ 9223372036854775807) (hR0 : Rd (Value.int .i64) w A0 L0) (v : Int) (_wv : (Lit.int .i64 v).wf = true) (n : Int) (_wn : (Lit.int .i64 n).wf = true) :
    Calls Try.prog 7 #[.slice A0 L0.length c0, .int .i64 v, .int .i64 n] w fun e w' => e = .returned (.bool true) ∧ Below w.heap.size w w' := by
  by_cases h1 : v < 0
  · exact walk_bad w A0 c0 L0 hL0 hs0 hR0 v n (.inl h1)
  by_cases h2 : 1099511627776 < v
  · exact walk_bad w A0 c0 L0 hL0 hs0 hR0 v n (.inr (.inl ⟨by omega, h2⟩))
  by_cases h3 : n < 0
  · exact walk_bad w A0 c0 L0 hL0 hs0 hR0 v n (.inr (.inr (.inl ⟨by omega, by omega, h3⟩)))
  by_cases h4 : 1048576 < n
  · exact walk_bad w A0 c0 L0 hL0 hs0 hR0 v n (.inr (.inr (.inr (.inl ⟨by omega, by omega, by omega, h4⟩))))
  by_cases h5 : 1048576 - ((vsN L0 40).length : Int) < n
  · exact walk_bad w A0 c0 L0 hL0 hs0 hR0 v n (.inr (.inr (.inr (.inr ⟨by omega, by omega, by omega, by omega, h5⟩))))
  obtain ⟨u, rfl⟩ : ∃ u : Nat, v = (u : Int) := ⟨v.toNat, by omega⟩
  exact walk_ok w A0 c0 L0 hL0 hs0 hR0 u n (by omega) (by omega) (by omega)
set_option maxRecDepth 100000 in
theorem lifted (os : Os) (started : os.Started) (H : Type) (enc : TypeId × Value → H) :
    ReturnsInHanded {} Try.checked os 7 .any (Rows.histogramAddsSpec.pre6 enc Try.prog Try.f7 Rows.histogramAddsRow.domain false) (Rows.histogramAddsSpec.post enc Try.prog Try.f7 false true false false) := by
  refine returnsInHanded_of_change (C := Try.checked) own started (by kernel_rfl) Try.func7
    (ChangeSpec.witness6 (enc := enc) (C := Try.checked) false ⟨#[], #[.slice none 0 0, .int .i64 0, .int .i64 0], []⟩ 8 (by kernel_rfl) (by kernel_rfl) (by kernel_rfl) (by kernel_rfl)) ?_
  intro W base args ds gs before hval0 hW _ _
  have hval : ∀ (j : Nat) t v, Try.f7.params[j]? = some t → args[j]? = some v → Value.okWide Try.prog W .any base t v := hval0
  have hW' := hW
  obtain ⟨p, q, hA0, hV, rfl, _, _⟩ := hW
  have hA : DataW.TrodAll enc Try.prog W 0 (fun _ => true) true Try.f7.params.toList args.toList ds p := hA0
  rw [Try.params7] at hA hval
  obtain ⟨v0, vs0, d0, ds0, p0, q0, hargs0, rfl, rfl, h0, r0⟩ := trodAll_cons hA
  obtain ⟨v1, vs1, d1, ds1, p1, q1, hargs1, rfl, rfl, h1, r1⟩ := trodAll_cons r0
  obtain ⟨v2, vs2, d2, ds2, p2, q2, hargs2, rfl, rfl, h2, r2⟩ := trodAll_cons r1
  obtain ⟨rfl, rfl, rfl⟩ := trodAll_nil r2
  obtain rfl : args = #[v0, v1, v2] := by cases args; simp_all
  obtain ⟨rfl, rfl⟩ := trodVars_none hV
  have lt0 : ∀ x ∈ p0, x.block < W.heap.size := fun x hx => hW'.lt x (by simp [hx])
  obtain ⟨A0, c0, L0, rfl, hL0, hs0, hR0⟩ := open_numb (hval 0 36 v0 rfl rfl) h0 lt0
  obtain ⟨a1, rfl, rfl, rfl, wa1⟩ := open_int Try.underlying3 (hval 1 3 v1 rfl rfl) h1
  obtain ⟨a2, rfl, rfl, rfl, wa2⟩ := open_int Try.underlying3 (hval 2 3 v2 rfl rfl) h2
  clear hA0 hval0
  simp only [List.append_nil] at hW'
  refine (walk W A0 c0 L0 hL0 hs0 hR0 a1 wa1 a2 wa2).mono fun e W' ⟨he, hb⟩ => ?_
  subst he
  exact ⟨_, rfl, post_mem hW' hb (fun _ _ _ => trodAll_mk1 (shut_bool Try.underlying4 _)) (fun sp hsp => by
    have t := trodAll_cons_mk (carry laidOut (by kernel_rfl) (of_decide_eq_true (by kernel_rfl)) h0 hb lt0 sp (fun x hx => hsp x (by simp [hx]))) (trodAll_cons_mk (shut_int Try.underlying3 wa1) (trodAll_cons_mk (shut_int Try.underlying3 wa2) trodAll_mk0))
    simp only [List.append_nil] at t
    exact t) (fun _ => rfl) (ok_one (by kernel_rfl) rfl (okWide_bool_mk Try.underlying4 _))⟩

theorem proved : Rows.HistogramAddsSaid :=
  OpenClaim.holds_of_wide 7 Try.f7 rfl rfl rfl rfl rfl rfl rfl ⟨rfl, rfl, rfl, rfl, rfl⟩ rfl rfl rfl rfl rfl (by kernel_rfl) Try.func7 (by kernel_rfl)
    (of_decide_eq_true (by kernel_rfl)) (by unfold Func.isWrapper; first | (rw [if_pos (by decide +kernel)]; kernel_rfl) | (rw [if_neg (by decide +kernel)]; exact ⟨rfl, rfl⟩))
    (fun os started H enc _ => lifted os started H enc)

end Go.Proofs.Ytolgcphmmghlbaa.lawAdds
