/- ColumnErrors: for every list of values, every kind and every number the law returns true. No condition. -/
import Derived.Test.YtomjgkflnfjjbaaKq
import Derived.Test.YtomjgkflnfjjbaaKp
import Derived.Test.YtomjgkflnfjjbaaKu
namespace Go.Proofs.Ytomjgkflnfjjbaa.lawErrors
open Go.ChangeShapes Go.WideShapes Go.ChangeAt Go.RowKit Go.Joins En

theorem make_ints (n : Nat) (hn : n ≤ 1000000) (w : World) :
    (Instr.makeSlice 22 (.int .i64 (n : Int)) (.int .i64 (n : Int))).run Try.prog w = .ok (.slice (some ⟨w.heap.size, 0, none⟩) n n) (w.alloc (.cells (List.replicate n (.int .i64 0)).toArray 3)) := by
  obtain ⟨i0, hi0, hz0, hz1, hz2⟩ := info_parts info_int0
  have h := run_make w 22 3 i0 _ Try.underlying22 hi0 hz0 .i64 .i64 n n (by omega) (Int.le_refl _) (by rw [hz2]; omega) (by omega)
  rw [Int.toNat_natCast, hz1, Nat.mul_one] at h
  rw [h]
  have e : madeCells (Value.cells (.int .i64 0)) n = (List.replicate n (.int .i64 0)).toArray := by
    have := toList_madeCells_one (.int .i64 0) n
    rw [← this]; rfl
  rw [e]
theorem rd_zeros (w : World) (n : Nat) (t : TypeId) : Rd (Value.int .i64) (w.alloc (.cells (List.replicate n (.int .i64 0)).toArray t)) (some ⟨w.heap.size, 0, none⟩) (List.replicate n 0) := fun k hk => by
  refine ⟨_, _, rfl, by simp, ?_⟩
  rw [cell_of_row _ _ _ _ _ _ (Deep.blk_alloc_new w _)]
  simp at hk ⊢
  simp [hk]
theorem chk_zeros (n : Nat) (h : n ≤ 4096) : chkV (List.replicate n 0) = 0 :=
  chkV_of (by simpa using h) (fun x hx => by have := (List.mem_replicate.1 hx).2; omega)
set_option maxRecDepth 100000 in
theorem walk_long (w : World) (A : Option Addr) (c : Nat) (L : List Int) (hR : Rd (Value.int .i64) w A L) (k : Int) (wk : -9223372036854775808 ≤ k ∧ k ≤ 9223372036854775807) (r : Int) (wr : 0 ≤ r ∧ r ≤ 255) (h20 : 20 < L.length) :
    Calls Try.prog 3 #[.slice A L.length c, .int .i64 k, .int .u8 r] w fun e w' => e = .returned (.bool true) ∧ Below w.heap.size w w' := by
  obtain ⟨n, hn⟩ : ∃ n, n = L.length := ⟨_, rfl⟩
  rw [← hn] at h20 ⊢
  clear hn hR
  have hd : decide (20 < n) = true := by simpa using h20
  go_enter Try.func3, Try.ntmps3
  go_wp2_with fail
  refine (known_any _).mono ?_
  rintro e w1 ⟨rfl, hb⟩
  have HB1 := Lib.hid hb
  clear hb
  go_wp2_with fail
  refine (known_any _).mono ?_
  rintro e w2 ⟨rfl, hb⟩
  have HB2 := Lib.hid (HB1.out.trans (hb.mono HB1.out.size))
  clear hb
  go_wp2_with fail
  go_ret
  exact ⟨rfl, HB2.out⟩
set_option maxRecDepth 100000 in
set_option maxHeartbeats 4000000 in
theorem walk_ok_in_fit (w : World) (A : Option Addr) (c : Nat) (L : List Int) (hR : Rd (Value.int .i64) w A L) (k : Int) (wk : -9223372036854775808 ≤ k ∧ k ≤ 9223372036854775807) (r : Int) (wr : 0 ≤ r ∧ r ≤ 255) (h20 : L.length ≤ 20) (hc : chkV L = 0) (hk : 1 ≤ k ∧ k ≤ 4) (hm : r % 3 ≠ 2) :
    Calls Try.prog 3 #[.slice A L.length c, .int .i64 k, .int .u8 r] w fun e w' => e = .returned (.bool true) ∧ Below w.heap.size w w' := by
  obtain ⟨m, hmm⟩ : ∃ m : Nat, (m : Int) = r % 3 := ⟨(r % 3).toNat, by omega⟩
  have q1 : r.tmod 3 = (m : Int) := by rw [Int.tmod_eq_emod_of_nonneg (by omega)]; omega
  have q2 : r % 3 = (m : Int) := hmm.symm
  have hmle : (m : Int) ≤ 2 := by omega
  obtain ⟨n, hn⟩ : ∃ n : Nat, n = 4095 + m := ⟨_, rfl⟩
  have hnb : n ≤ 4096 := by omega
  have q3 : 4095 + (m : Int) = (n : Int) := by omega
  have hmk := fun W => make_ints n (by omega) W
  have HNm := Lib.hid (fun W => new_ok (some ⟨W.heap.size, 0, none⟩) n (List.replicate n 0) (by simp; omega) (chk_zeros n (by omega)) (W.alloc (.cells (List.replicate n (.int .i64 0)).toArray 3)) (rd_zeros W n 3))
  rw [List.length_replicate] at HNm
  obtain ⟨ZC, hZC⟩ : ∃ Z : Array Value, Z = (List.replicate n (.int .i64 0)).toArray := ⟨_, rfl⟩
  rw [← hZC] at hmk HNm
  have hnd : decide ((4096 : Int) < (n : Int)) = false := by simp; omega
  have HR := Lib.hid hR
  have HCk := Lib.hid (fun W h => rcheck_any A c L (by omega) W h)
  rw [hc] at HCk
  have HNw := Lib.hid (fun W h => new_ok A c L (by omega) hc W h)
  obtain ⟨hl4, hv4⟩ := chkV_ok hc
  have HEn := Lib.hid (fun W h => as_form k hk A c L hc W h)
  have HFm := Lib.hid (fun W h => rform_any k hk A c L hl4 hv4 W h)
  obtain ⟨S, hS⟩ : ∃ S, S = fmB k L := ⟨_, rfl⟩
  rw [← hS] at HEn HFm
  clear hl4 hv4 hS
  have k1 : decide (k < 1) = false := by simp; omega
  have k2 : decide (4 < k) = false := by simp; omega
  obtain ⟨ln, hln⟩ : ∃ ln, ln = L.length := ⟨_, rfl⟩
  rw [← hln] at h20 HCk HNw HEn HFm ⊢
  have hd : decide (20 < ln) = false := by simp; omega
  clear hR hmm hm hn hZC hln hk hc
  go_enter Try.func3, Try.ntmps3
  go_wp2_with fail
  refine (known_any _).mono ?_
  rintro e w1 ⟨rfl, hb⟩
  have HB1 := Lib.hid hb
  clear hb
  go_wp2_with fail
  refine (HCk.out _ (HR.out.below HB1.out)).mono ?_
  rintro e w' ⟨rfl, rfl⟩
  go_wp2_with fail
  refine (HNw.out _ (HR.out.below HB1.out)).mono ?_
  rintro e w2 ⟨⟨q, rfl, _⟩, hb⟩
  have HB2 := Lib.hid (HB1.out.trans (hb.mono HB1.out.size))
  clear hb
  go_wp2_with fail
  refine (HEn.out _ (HR.out.below HB2.out)).mono ?_
  rintro e w3 ⟨rfl, hb⟩
  have HB3 := Lib.hid (HB2.out.trans (hb.mono HB2.out.size))
  clear hb
  go_wp2_with fail
  refine (HFm.out _ (HR.out.below HB3.out)).mono ?_
  rintro e w4 ⟨rfl, hb⟩
  have HB4 := Lib.hid (HB3.out.trans (hb.mono HB3.out.size))
  clear hb
  go_wp2_with fail
  refine (HNm.out w4).mono ?_
  rintro e w5 ⟨⟨q5, rfl, _⟩, hb⟩
  have HB5 := Lib.hid ((HB4.out.alloc HB4.out.size (.cells ZC 3)).trans (hb.mono (by have := HB4.out.size; simp; omega)))
  clear hb
  clear hmk
  go_wp2_with fail
  go_ret
  exact ⟨rfl, HB5.out⟩
set_option maxRecDepth 100000 in
set_option maxHeartbeats 4000000 in
theorem walk_ok_in_big (w : World) (A : Option Addr) (c : Nat) (L : List Int) (hR : Rd (Value.int .i64) w A L) (k : Int) (wk : -9223372036854775808 ≤ k ∧ k ≤ 9223372036854775807) (r : Int) (wr : 0 ≤ r ∧ r ≤ 255) (h20 : L.length ≤ 20) (hc : chkV L = 0) (hk : 1 ≤ k ∧ k ≤ 4) (hm : r % 3 = 2) :
    Calls Try.prog 3 #[.slice A L.length c, .int .i64 k, .int .u8 r] w fun e w' => e = .returned (.bool true) ∧ Below w.heap.size w w' := by
  obtain ⟨m, hmm⟩ : ∃ m : Nat, (m : Int) = r % 3 := ⟨(r % 3).toNat, by omega⟩
  have q1 : r.tmod 3 = (m : Int) := by rw [Int.tmod_eq_emod_of_nonneg (by omega)]; omega
  have q2 : r % 3 = (m : Int) := hmm.symm
  have hmle : (m : Int) ≤ 2 := by omega
  obtain ⟨n, hn⟩ : ∃ n : Nat, n = 4095 + m := ⟨_, rfl⟩
  have hnb : n = 4097 := by omega
  have q3 : 4095 + (m : Int) = (n : Int) := by omega
  have hmk := fun W => make_ints n (by omega) W
  subst hnb
  have HNm := Lib.hid (fun W => new_bad (some ⟨W.heap.size, 0, none⟩) 4097 (List.replicate 4097 0) (by simp) (by unfold chkV; rw [if_pos (by simp)]; decide) (W.alloc (.cells (List.replicate 4097 (.int .i64 0)).toArray 3)) (rd_zeros W 4097 3))
  rw [show chkV (List.replicate 4097 0) = 6 by unfold chkV; rw [if_pos (by simp)], List.length_replicate] at HNm
  obtain ⟨ZC, hZC⟩ : ∃ Z : Array Value, Z = (List.replicate 4097 (.int .i64 0)).toArray := ⟨_, rfl⟩
  rw [← hZC] at hmk HNm
  rw [show (((4097 : Nat) : Int)) = 4097 from rfl] at hmk q3
  have HR := Lib.hid hR
  have HCk := Lib.hid (fun W h => rcheck_any A c L (by omega) W h)
  rw [hc] at HCk
  have HNw := Lib.hid (fun W h => new_ok A c L (by omega) hc W h)
  obtain ⟨hl4, hv4⟩ := chkV_ok hc
  have HEn := Lib.hid (fun W h => as_form k hk A c L hc W h)
  have HFm := Lib.hid (fun W h => rform_any k hk A c L hl4 hv4 W h)
  obtain ⟨S, hS⟩ : ∃ S, S = fmB k L := ⟨_, rfl⟩
  rw [← hS] at HEn HFm
  clear hl4 hv4 hS
  have k1 : decide (k < 1) = false := by simp; omega
  have k2 : decide (4 < k) = false := by simp; omega
  obtain ⟨ln, hln⟩ : ∃ ln, ln = L.length := ⟨_, rfl⟩
  rw [← hln] at h20 HCk HNw HEn HFm ⊢
  have hd : decide (20 < ln) = false := by simp; omega
  clear hR hmm hm hn hZC hln hk hc
  go_enter Try.func3, Try.ntmps3
  go_wp2_with fail
  refine (known_any _).mono ?_
  rintro e w1 ⟨rfl, hb⟩
  have HB1 := Lib.hid hb
  clear hb
  go_wp2_with fail
  refine (HCk.out _ (HR.out.below HB1.out)).mono ?_
  rintro e w' ⟨rfl, rfl⟩
  go_wp2_with fail
  refine (HNw.out _ (HR.out.below HB1.out)).mono ?_
  rintro e w2 ⟨⟨q, rfl, _⟩, hb⟩
  have HB2 := Lib.hid (HB1.out.trans (hb.mono HB1.out.size))
  clear hb
  go_wp2_with fail
  refine (HEn.out _ (HR.out.below HB2.out)).mono ?_
  rintro e w3 ⟨rfl, hb⟩
  have HB3 := Lib.hid (HB2.out.trans (hb.mono HB2.out.size))
  clear hb
  go_wp2_with fail
  refine (HFm.out _ (HR.out.below HB3.out)).mono ?_
  rintro e w4 ⟨rfl, hb⟩
  have HB4 := Lib.hid (HB3.out.trans (hb.mono HB3.out.size))
  clear hb
  go_wp2_with fail
  refine (HNm.out w4).mono ?_
  rintro e w5 ⟨rfl, hw⟩
  subst hw
  have HB5 := Lib.hid (HB4.out.alloc HB4.out.size (.cells ZC 3))
  clear hmk
  go_wp2_with fail
  go_ret
  exact ⟨rfl, HB5.out⟩
set_option maxRecDepth 100000 in
set_option maxHeartbeats 4000000 in
theorem walk_ok_lo_fit (w : World) (A : Option Addr) (c : Nat) (L : List Int) (hR : Rd (Value.int .i64) w A L) (k : Int) (wk : -9223372036854775808 ≤ k ∧ k ≤ 9223372036854775807) (r : Int) (wr : 0 ≤ r ∧ r ≤ 255) (h20 : L.length ≤ 20) (hc : chkV L = 0) (hk : k < 1) (hm : r % 3 ≠ 2) :
    Calls Try.prog 3 #[.slice A L.length c, .int .i64 k, .int .u8 r] w fun e w' => e = .returned (.bool true) ∧ Below w.heap.size w w' := by
  obtain ⟨m, hmm⟩ : ∃ m : Nat, (m : Int) = r % 3 := ⟨(r % 3).toNat, by omega⟩
  have q1 : r.tmod 3 = (m : Int) := by rw [Int.tmod_eq_emod_of_nonneg (by omega)]; omega
  have q2 : r % 3 = (m : Int) := hmm.symm
  have hmle : (m : Int) ≤ 2 := by omega
  obtain ⟨n, hn⟩ : ∃ n : Nat, n = 4095 + m := ⟨_, rfl⟩
  have hnb : n ≤ 4096 := by omega
  have q3 : 4095 + (m : Int) = (n : Int) := by omega
  have hmk := fun W => make_ints n (by omega) W
  have HNm := Lib.hid (fun W => new_ok (some ⟨W.heap.size, 0, none⟩) n (List.replicate n 0) (by simp; omega) (chk_zeros n (by omega)) (W.alloc (.cells (List.replicate n (.int .i64 0)).toArray 3)) (rd_zeros W n 3))
  rw [List.length_replicate] at HNm
  obtain ⟨ZC, hZC⟩ : ∃ Z : Array Value, Z = (List.replicate n (.int .i64 0)).toArray := ⟨_, rfl⟩
  rw [← hZC] at hmk HNm
  have hnd : decide ((4096 : Int) < (n : Int)) = false := by simp; omega
  have HR := Lib.hid hR
  have HCk := Lib.hid (fun W h => rcheck_any A c L (by omega) W h)
  rw [hc] at HCk
  have HNw := Lib.hid (fun W h => new_ok A c L (by omega) hc W h)
  have HEn := Lib.hid (fun W (_ : Rd (Value.int .i64) W A L) => as_kind k wk (by omega) A L.length c W)
  have k1 : decide (k < 1) = true := by simp; omega
  obtain ⟨ln, hln⟩ : ∃ ln, ln = L.length := ⟨_, rfl⟩
  rw [← hln] at h20 HCk HNw HEn ⊢
  have hd : decide (20 < ln) = false := by simp; omega
  clear hR hmm hm hn hZC hln hk hc
  go_enter Try.func3, Try.ntmps3
  go_wp2_with fail
  refine (known_any _).mono ?_
  rintro e w1 ⟨rfl, hb⟩
  have HB1 := Lib.hid hb
  clear hb
  go_wp2_with fail
  refine (HCk.out _ (HR.out.below HB1.out)).mono ?_
  rintro e w' ⟨rfl, rfl⟩
  go_wp2_with fail
  refine (HNw.out _ (HR.out.below HB1.out)).mono ?_
  rintro e w2 ⟨⟨q, rfl, _⟩, hb⟩
  have HB2 := Lib.hid (HB1.out.trans (hb.mono HB1.out.size))
  clear hb
  go_wp2_with fail
  refine (HEn.out _ (HR.out.below HB2.out)).mono ?_
  rintro e w3 ⟨rfl, hb⟩
  have HB3 := Lib.hid (HB2.out.trans (hb.mono HB2.out.size))
  clear hb
  go_wp2_with fail
  refine (HNm.out w3).mono ?_
  rintro e w5 ⟨⟨q5, rfl, _⟩, hb⟩
  have HB5 := Lib.hid ((HB3.out.alloc HB3.out.size (.cells ZC 3)).trans (hb.mono (by have := HB3.out.size; simp; omega)))
  clear hb
  clear hmk
  go_wp2_with fail
  go_ret
  exact ⟨rfl, HB5.out⟩
set_option maxRecDepth 100000 in
set_option maxHeartbeats 4000000 in
theorem walk_ok_lo_big (w : World) (A : Option Addr) (c : Nat) (L : List Int) (hR : Rd (Value.int .i64) w A L) (k : Int) (wk : -9223372036854775808 ≤ k ∧ k ≤ 9223372036854775807) (r : Int) (wr : 0 ≤ r ∧ r ≤ 255) (h20 : L.length ≤ 20) (hc : chkV L = 0) (hk : k < 1) (hm : r % 3 = 2) :
    Calls Try.prog 3 #[.slice A L.length c, .int .i64 k, .int .u8 r] w fun e w' => e = .returned (.bool true) ∧ Below w.heap.size w w' := by
  obtain ⟨m, hmm⟩ : ∃ m : Nat, (m : Int) = r % 3 := ⟨(r % 3).toNat, by omega⟩
  have q1 : r.tmod 3 = (m : Int) := by rw [Int.tmod_eq_emod_of_nonneg (by omega)]; omega
  have q2 : r % 3 = (m : Int) := hmm.symm
  have hmle : (m : Int) ≤ 2 := by omega
  obtain ⟨n, hn⟩ : ∃ n : Nat, n = 4095 + m := ⟨_, rfl⟩
  have hnb : n = 4097 := by omega
  have q3 : 4095 + (m : Int) = (n : Int) := by omega
  have hmk := fun W => make_ints n (by omega) W
  subst hnb
  have HNm := Lib.hid (fun W => new_bad (some ⟨W.heap.size, 0, none⟩) 4097 (List.replicate 4097 0) (by simp) (by unfold chkV; rw [if_pos (by simp)]; decide) (W.alloc (.cells (List.replicate 4097 (.int .i64 0)).toArray 3)) (rd_zeros W 4097 3))
  rw [show chkV (List.replicate 4097 0) = 6 by unfold chkV; rw [if_pos (by simp)], List.length_replicate] at HNm
  obtain ⟨ZC, hZC⟩ : ∃ Z : Array Value, Z = (List.replicate 4097 (.int .i64 0)).toArray := ⟨_, rfl⟩
  rw [← hZC] at hmk HNm
  rw [show (((4097 : Nat) : Int)) = 4097 from rfl] at hmk q3
  have HR := Lib.hid hR
  have HCk := Lib.hid (fun W h => rcheck_any A c L (by omega) W h)
  rw [hc] at HCk
  have HNw := Lib.hid (fun W h => new_ok A c L (by omega) hc W h)
  have HEn := Lib.hid (fun W (_ : Rd (Value.int .i64) W A L) => as_kind k wk (by omega) A L.length c W)
  have k1 : decide (k < 1) = true := by simp; omega
  obtain ⟨ln, hln⟩ : ∃ ln, ln = L.length := ⟨_, rfl⟩
  rw [← hln] at h20 HCk HNw HEn ⊢
  have hd : decide (20 < ln) = false := by simp; omega
  clear hR hmm hm hn hZC hln hk hc
  go_enter Try.func3, Try.ntmps3
  go_wp2_with fail
  refine (known_any _).mono ?_
  rintro e w1 ⟨rfl, hb⟩
  have HB1 := Lib.hid hb
  clear hb
  go_wp2_with fail
  refine (HCk.out _ (HR.out.below HB1.out)).mono ?_
  rintro e w' ⟨rfl, rfl⟩
  go_wp2_with fail
  refine (HNw.out _ (HR.out.below HB1.out)).mono ?_
  rintro e w2 ⟨⟨q, rfl, _⟩, hb⟩
  have HB2 := Lib.hid (HB1.out.trans (hb.mono HB1.out.size))
  clear hb
  go_wp2_with fail
  refine (HEn.out _ (HR.out.below HB2.out)).mono ?_
  rintro e w3 ⟨rfl, hb⟩
  have HB3 := Lib.hid (HB2.out.trans (hb.mono HB2.out.size))
  clear hb
  go_wp2_with fail
  refine (HNm.out w3).mono ?_
  rintro e w5 ⟨rfl, hw⟩
  subst hw
  have HB5 := Lib.hid (HB3.out.alloc HB3.out.size (.cells ZC 3))
  clear hmk
  go_wp2_with fail
  go_ret
  exact ⟨rfl, HB5.out⟩
set_option maxRecDepth 100000 in
set_option maxHeartbeats 4000000 in
theorem walk_ok_hi_fit (w : World) (A : Option Addr) (c : Nat) (L : List Int) (hR : Rd (Value.int .i64) w A L) (k : Int) (wk : -9223372036854775808 ≤ k ∧ k ≤ 9223372036854775807) (r : Int) (wr : 0 ≤ r ∧ r ≤ 255) (h20 : L.length ≤ 20) (hc : chkV L = 0) (hk : 4 < k) (hm : r % 3 ≠ 2) :
    Calls Try.prog 3 #[.slice A L.length c, .int .i64 k, .int .u8 r] w fun e w' => e = .returned (.bool true) ∧ Below w.heap.size w w' := by
  obtain ⟨m, hmm⟩ : ∃ m : Nat, (m : Int) = r % 3 := ⟨(r % 3).toNat, by omega⟩
  have q1 : r.tmod 3 = (m : Int) := by rw [Int.tmod_eq_emod_of_nonneg (by omega)]; omega
  have q2 : r % 3 = (m : Int) := hmm.symm
  have hmle : (m : Int) ≤ 2 := by omega
  obtain ⟨n, hn⟩ : ∃ n : Nat, n = 4095 + m := ⟨_, rfl⟩
  have hnb : n ≤ 4096 := by omega
  have q3 : 4095 + (m : Int) = (n : Int) := by omega
  have hmk := fun W => make_ints n (by omega) W
  have HNm := Lib.hid (fun W => new_ok (some ⟨W.heap.size, 0, none⟩) n (List.replicate n 0) (by simp; omega) (chk_zeros n (by omega)) (W.alloc (.cells (List.replicate n (.int .i64 0)).toArray 3)) (rd_zeros W n 3))
  rw [List.length_replicate] at HNm
  obtain ⟨ZC, hZC⟩ : ∃ Z : Array Value, Z = (List.replicate n (.int .i64 0)).toArray := ⟨_, rfl⟩
  rw [← hZC] at hmk HNm
  have hnd : decide ((4096 : Int) < (n : Int)) = false := by simp; omega
  have HR := Lib.hid hR
  have HCk := Lib.hid (fun W h => rcheck_any A c L (by omega) W h)
  rw [hc] at HCk
  have HNw := Lib.hid (fun W h => new_ok A c L (by omega) hc W h)
  have HEn := Lib.hid (fun W (_ : Rd (Value.int .i64) W A L) => as_kind k wk (by omega) A L.length c W)
  have k1 : decide (k < 1) = false := by simp; omega
  have k2 : decide (4 < k) = true := by simp; omega
  obtain ⟨ln, hln⟩ : ∃ ln, ln = L.length := ⟨_, rfl⟩
  rw [← hln] at h20 HCk HNw HEn ⊢
  have hd : decide (20 < ln) = false := by simp; omega
  clear hR hmm hm hn hZC hln hk hc
  go_enter Try.func3, Try.ntmps3
  go_wp2_with fail
  refine (known_any _).mono ?_
  rintro e w1 ⟨rfl, hb⟩
  have HB1 := Lib.hid hb
  clear hb
  go_wp2_with fail
  refine (HCk.out _ (HR.out.below HB1.out)).mono ?_
  rintro e w' ⟨rfl, rfl⟩
  go_wp2_with fail
  refine (HNw.out _ (HR.out.below HB1.out)).mono ?_
  rintro e w2 ⟨⟨q, rfl, _⟩, hb⟩
  have HB2 := Lib.hid (HB1.out.trans (hb.mono HB1.out.size))
  clear hb
  go_wp2_with fail
  refine (HEn.out _ (HR.out.below HB2.out)).mono ?_
  rintro e w3 ⟨rfl, hb⟩
  have HB3 := Lib.hid (HB2.out.trans (hb.mono HB2.out.size))
  clear hb
  go_wp2_with fail
  refine (HNm.out w3).mono ?_
  rintro e w5 ⟨⟨q5, rfl, _⟩, hb⟩
  have HB5 := Lib.hid ((HB3.out.alloc HB3.out.size (.cells ZC 3)).trans (hb.mono (by have := HB3.out.size; simp; omega)))
  clear hb
  clear hmk
  go_wp2_with fail
  go_ret
  exact ⟨rfl, HB5.out⟩
set_option maxRecDepth 100000 in
set_option maxHeartbeats 4000000 in
theorem walk_ok_hi_big (w : World) (A : Option Addr) (c : Nat) (L : List Int) (hR : Rd (Value.int .i64) w A L) (k : Int) (wk : -9223372036854775808 ≤ k ∧ k ≤ 9223372036854775807) (r : Int) (wr : 0 ≤ r ∧ r ≤ 255) (h20 : L.length ≤ 20) (hc : chkV L = 0) (hk : 4 < k) (hm : r % 3 = 2) :
    Calls Try.prog 3 #[.slice A L.length c, .int .i64 k, .int .u8 r] w fun e w' => e = .returned (.bool true) ∧ Below w.heap.size w w' := by
  obtain ⟨m, hmm⟩ : ∃ m : Nat, (m : Int) = r % 3 := ⟨(r % 3).toNat, by omega⟩
  have q1 : r.tmod 3 = (m : Int) := by rw [Int.tmod_eq_emod_of_nonneg (by omega)]; omega
  have q2 : r % 3 = (m : Int) := hmm.symm
  have hmle : (m : Int) ≤ 2 := by omega
  obtain ⟨n, hn⟩ : ∃ n : Nat, n = 4095 + m := ⟨_, rfl⟩
  have hnb : n = 4097 := by omega
  have q3 : 4095 + (m : Int) = (n : Int) := by omega
  have hmk := fun W => make_ints n (by omega) W
  subst hnb
  have HNm := Lib.hid (fun W => new_bad (some ⟨W.heap.size, 0, none⟩) 4097 (List.replicate 4097 0) (by simp) (by unfold chkV; rw [if_pos (by simp)]; decide) (W.alloc (.cells (List.replicate 4097 (.int .i64 0)).toArray 3)) (rd_zeros W 4097 3))
  rw [show chkV (List.replicate 4097 0) = 6 by unfold chkV; rw [if_pos (by simp)], List.length_replicate] at HNm
  obtain ⟨ZC, hZC⟩ : ∃ Z : Array Value, Z = (List.replicate 4097 (.int .i64 0)).toArray := ⟨_, rfl⟩
  rw [← hZC] at hmk HNm
  rw [show (((4097 : Nat) : Int)) = 4097 from rfl] at hmk q3
  have HR := Lib.hid hR
  have HCk := Lib.hid (fun W h => rcheck_any A c L (by omega) W h)
  rw [hc] at HCk
  have HNw := Lib.hid (fun W h => new_ok A c L (by omega) hc W h)
  have HEn := Lib.hid (fun W (_ : Rd (Value.int .i64) W A L) => as_kind k wk (by omega) A L.length c W)
  have k1 : decide (k < 1) = false := by simp; omega
  have k2 : decide (4 < k) = true := by simp; omega
  obtain ⟨ln, hln⟩ : ∃ ln, ln = L.length := ⟨_, rfl⟩
  rw [← hln] at h20 HCk HNw HEn ⊢
  have hd : decide (20 < ln) = false := by simp; omega
  clear hR hmm hm hn hZC hln hk hc
  go_enter Try.func3, Try.ntmps3
  go_wp2_with fail
  refine (known_any _).mono ?_
  rintro e w1 ⟨rfl, hb⟩
  have HB1 := Lib.hid hb
  clear hb
  go_wp2_with fail
  refine (HCk.out _ (HR.out.below HB1.out)).mono ?_
  rintro e w' ⟨rfl, rfl⟩
  go_wp2_with fail
  refine (HNw.out _ (HR.out.below HB1.out)).mono ?_
  rintro e w2 ⟨⟨q, rfl, _⟩, hb⟩
  have HB2 := Lib.hid (HB1.out.trans (hb.mono HB1.out.size))
  clear hb
  go_wp2_with fail
  refine (HEn.out _ (HR.out.below HB2.out)).mono ?_
  rintro e w3 ⟨rfl, hb⟩
  have HB3 := Lib.hid (HB2.out.trans (hb.mono HB2.out.size))
  clear hb
  go_wp2_with fail
  refine (HNm.out w3).mono ?_
  rintro e w5 ⟨rfl, hw⟩
  subst hw
  have HB5 := Lib.hid (HB3.out.alloc HB3.out.size (.cells ZC 3))
  clear hmk
  go_wp2_with fail
  go_ret
  exact ⟨rfl, HB5.out⟩
set_option maxRecDepth 100000 in
set_option maxHeartbeats 4000000 in
theorem walk_bad_in_fit (w : World) (A : Option Addr) (c : Nat) (L : List Int) (hR : Rd (Value.int .i64) w A L) (k : Int) (wk : -9223372036854775808 ≤ k ∧ k ≤ 9223372036854775807) (r : Int) (wr : 0 ≤ r ∧ r ≤ 255) (h20 : L.length ≤ 20) (hc : chkV L ≠ 0) (hk : 1 ≤ k ∧ k ≤ 4) (hm : r % 3 ≠ 2) :
    Calls Try.prog 3 #[.slice A L.length c, .int .i64 k, .int .u8 r] w fun e w' => e = .returned (.bool true) ∧ Below w.heap.size w w' := by
  obtain ⟨m, hmm⟩ : ∃ m : Nat, (m : Int) = r % 3 := ⟨(r % 3).toNat, by omega⟩
  have q1 : r.tmod 3 = (m : Int) := by rw [Int.tmod_eq_emod_of_nonneg (by omega)]; omega
  have q2 : r % 3 = (m : Int) := hmm.symm
  have hmle : (m : Int) ≤ 2 := by omega
  obtain ⟨n, hn⟩ : ∃ n : Nat, n = 4095 + m := ⟨_, rfl⟩
  have hnb : n ≤ 4096 := by omega
  have q3 : 4095 + (m : Int) = (n : Int) := by omega
  have hmk := fun W => make_ints n (by omega) W
  have HNm := Lib.hid (fun W => new_ok (some ⟨W.heap.size, 0, none⟩) n (List.replicate n 0) (by simp; omega) (chk_zeros n (by omega)) (W.alloc (.cells (List.replicate n (.int .i64 0)).toArray 3)) (rd_zeros W n 3))
  rw [List.length_replicate] at HNm
  obtain ⟨ZC, hZC⟩ : ∃ Z : Array Value, Z = (List.replicate n (.int .i64 0)).toArray := ⟨_, rfl⟩
  rw [← hZC] at hmk HNm
  have hnd : decide ((4096 : Int) < (n : Int)) = false := by simp; omega
  have HR := Lib.hid hR
  have HCk := Lib.hid (fun W h => rcheck_any A c L (by omega) W h)
  have hc2 : chkV L = 2 := by
    unfold chkV at hc ⊢
    rw [if_neg (by omega)] at hc ⊢
    by_cases h : L.any (fun x => !inV x) = true
    · rw [if_pos h]
    · rw [if_neg h] at hc; exact absurd rfl hc
  have hNw := fun W h => new_bad A c L (by omega) hc W h
  rw [hc2] at HCk hNw
  have HNw := Lib.hid hNw
  have hEn := fun W h => as_bad k hk A c L (by omega) hc W h
  rw [hc2] at hEn
  have HEn := Lib.hid hEn
  clear hEn
  have k1 : decide (k < 1) = false := by simp; omega
  have k2 : decide (4 < k) = false := by simp; omega
  obtain ⟨ln, hln⟩ : ∃ ln, ln = L.length := ⟨_, rfl⟩
  rw [← hln] at h20 HCk HNw HEn ⊢
  have hd : decide (20 < ln) = false := by simp; omega
  clear hR hmm hm hn hZC hln hNw hc2 hk hc
  go_enter Try.func3, Try.ntmps3
  go_wp2_with fail
  refine (known_any _).mono ?_
  rintro e w1 ⟨rfl, hb⟩
  have HB1 := Lib.hid hb
  clear hb
  go_wp2_with fail
  refine (HCk.out _ (HR.out.below HB1.out)).mono ?_
  rintro e w' ⟨rfl, rfl⟩
  go_wp2_with fail
  refine (HNw.out _ (HR.out.below HB1.out)).mono ?_
  rintro e w2 ⟨rfl, hw⟩
  subst hw
  have HB2 := HB1
  go_wp2_with fail
  refine (HEn.out _ (HR.out.below HB2.out)).mono ?_
  rintro e w3 ⟨rfl, hb⟩
  have HB3 := Lib.hid (HB2.out.trans (hb.mono HB2.out.size))
  clear hb
  go_wp2_with fail
  refine (HNm.out w3).mono ?_
  rintro e w5 ⟨⟨q5, rfl, _⟩, hb⟩
  have HB5 := Lib.hid ((HB3.out.alloc HB3.out.size (.cells ZC 3)).trans (hb.mono (by have := HB3.out.size; simp; omega)))
  clear hb
  clear hmk
  go_wp2_with fail
  go_ret
  exact ⟨rfl, HB5.out⟩
set_option maxRecDepth 100000 in
set_option maxHeartbeats 4000000 in
theorem walk_bad_in_big (w : World) (A : Option Addr) (c : Nat) (L : List Int) (hR : Rd (Value.int .i64) w A L) (k : Int) (wk : -9223372036854775808 ≤ k ∧ k ≤ 9223372036854775807) (r : Int) (wr : 0 ≤ r ∧ r ≤ 255) (h20 : L.length ≤ 20) (hc : chkV L ≠ 0) (hk : 1 ≤ k ∧ k ≤ 4) (hm : r % 3 = 2) :
    Calls Try.prog 3 #[.slice A L.length c, .int .i64 k, .int .u8 r] w fun e w' => e = .returned (.bool true) ∧ Below w.heap.size w w' := by
  obtain ⟨m, hmm⟩ : ∃ m : Nat, (m : Int) = r % 3 := ⟨(r % 3).toNat, by omega⟩
  have q1 : r.tmod 3 = (m : Int) := by rw [Int.tmod_eq_emod_of_nonneg (by omega)]; omega
  have q2 : r % 3 = (m : Int) := hmm.symm
  have hmle : (m : Int) ≤ 2 := by omega
  obtain ⟨n, hn⟩ : ∃ n : Nat, n = 4095 + m := ⟨_, rfl⟩
  have hnb : n = 4097 := by omega
  have q3 : 4095 + (m : Int) = (n : Int) := by omega
  have hmk := fun W => make_ints n (by omega) W
  subst hnb
  have HNm := Lib.hid (fun W => new_bad (some ⟨W.heap.size, 0, none⟩) 4097 (List.replicate 4097 0) (by simp) (by unfold chkV; rw [if_pos (by simp)]; decide) (W.alloc (.cells (List.replicate 4097 (.int .i64 0)).toArray 3)) (rd_zeros W 4097 3))
  rw [show chkV (List.replicate 4097 0) = 6 by unfold chkV; rw [if_pos (by simp)], List.length_replicate] at HNm
  obtain ⟨ZC, hZC⟩ : ∃ Z : Array Value, Z = (List.replicate 4097 (.int .i64 0)).toArray := ⟨_, rfl⟩
  rw [← hZC] at hmk HNm
  rw [show (((4097 : Nat) : Int)) = 4097 from rfl] at hmk q3
  have HR := Lib.hid hR
  have HCk := Lib.hid (fun W h => rcheck_any A c L (by omega) W h)
  have hc2 : chkV L = 2 := by
    unfold chkV at hc ⊢
    rw [if_neg (by omega)] at hc ⊢
    by_cases h : L.any (fun x => !inV x) = true
    · rw [if_pos h]
    · rw [if_neg h] at hc; exact absurd rfl hc
  have hNw := fun W h => new_bad A c L (by omega) hc W h
  rw [hc2] at HCk hNw
  have HNw := Lib.hid hNw
  have hEn := fun W h => as_bad k hk A c L (by omega) hc W h
  rw [hc2] at hEn
  have HEn := Lib.hid hEn
  clear hEn
  have k1 : decide (k < 1) = false := by simp; omega
  have k2 : decide (4 < k) = false := by simp; omega
  obtain ⟨ln, hln⟩ : ∃ ln, ln = L.length := ⟨_, rfl⟩
  rw [← hln] at h20 HCk HNw HEn ⊢
  have hd : decide (20 < ln) = false := by simp; omega
  clear hR hmm hm hn hZC hln hNw hc2 hk hc
  go_enter Try.func3, Try.ntmps3
  go_wp2_with fail
  refine (known_any _).mono ?_
  rintro e w1 ⟨rfl, hb⟩
  have HB1 := Lib.hid hb
  clear hb
  go_wp2_with fail
  refine (HCk.out _ (HR.out.below HB1.out)).mono ?_
  rintro e w' ⟨rfl, rfl⟩
  go_wp2_with fail
  refine (HNw.out _ (HR.out.below HB1.out)).mono ?_
  rintro e w2 ⟨rfl, hw⟩
  subst hw
  have HB2 := HB1
  go_wp2_with fail
  refine (HEn.out _ (HR.out.below HB2.out)).mono ?_
  rintro e w3 ⟨rfl, hb⟩
  have HB3 := Lib.hid (HB2.out.trans (hb.mono HB2.out.size))
  clear hb
  go_wp2_with fail
  refine (HNm.out w3).mono ?_
  rintro e w5 ⟨rfl, hw⟩
  subst hw
  have HB5 := Lib.hid (HB3.out.alloc HB3.out.size (.cells ZC 3))
  clear hmk
  go_wp2_with fail
  go_ret
  exact ⟨rfl, HB5.out⟩
set_option maxRecDepth 100000 in
set_option maxHeartbeats 4000000 in
theorem walk_bad_lo_fit (w : World) (A : Option Addr) (c : Nat) (L : List Int) (hR : Rd (Value.int .i64) w A L) (k : Int) (wk : -9223372036854775808 ≤ k ∧ k ≤ 9223372036854775807) (r : Int) (wr : 0 ≤ r ∧ r ≤ 255) (h20 : L.length ≤ 20) (hc : chkV L ≠ 0) (hk : k < 1) (hm : r % 3 ≠ 2) :
    Calls Try.prog 3 #[.slice A L.length c, .int .i64 k, .int .u8 r] w fun e w' => e = .returned (.bool true) ∧ Below w.heap.size w w' := by
  obtain ⟨m, hmm⟩ : ∃ m : Nat, (m : Int) = r % 3 := ⟨(r % 3).toNat, by omega⟩
  have q1 : r.tmod 3 = (m : Int) := by rw [Int.tmod_eq_emod_of_nonneg (by omega)]; omega
  have q2 : r % 3 = (m : Int) := hmm.symm
  have hmle : (m : Int) ≤ 2 := by omega
  obtain ⟨n, hn⟩ : ∃ n : Nat, n = 4095 + m := ⟨_, rfl⟩
  have hnb : n ≤ 4096 := by omega
  have q3 : 4095 + (m : Int) = (n : Int) := by omega
  have hmk := fun W => make_ints n (by omega) W
  have HNm := Lib.hid (fun W => new_ok (some ⟨W.heap.size, 0, none⟩) n (List.replicate n 0) (by simp; omega) (chk_zeros n (by omega)) (W.alloc (.cells (List.replicate n (.int .i64 0)).toArray 3)) (rd_zeros W n 3))
  rw [List.length_replicate] at HNm
  obtain ⟨ZC, hZC⟩ : ∃ Z : Array Value, Z = (List.replicate n (.int .i64 0)).toArray := ⟨_, rfl⟩
  rw [← hZC] at hmk HNm
  have hnd : decide ((4096 : Int) < (n : Int)) = false := by simp; omega
  have HR := Lib.hid hR
  have HCk := Lib.hid (fun W h => rcheck_any A c L (by omega) W h)
  have hc2 : chkV L = 2 := by
    unfold chkV at hc ⊢
    rw [if_neg (by omega)] at hc ⊢
    by_cases h : L.any (fun x => !inV x) = true
    · rw [if_pos h]
    · rw [if_neg h] at hc; exact absurd rfl hc
  have hNw := fun W h => new_bad A c L (by omega) hc W h
  rw [hc2] at HCk hNw
  have HNw := Lib.hid hNw
  have HEn := Lib.hid (fun W (_ : Rd (Value.int .i64) W A L) => as_kind k wk (by omega) A L.length c W)
  have k1 : decide (k < 1) = true := by simp; omega
  obtain ⟨ln, hln⟩ : ∃ ln, ln = L.length := ⟨_, rfl⟩
  rw [← hln] at h20 HCk HNw HEn ⊢
  have hd : decide (20 < ln) = false := by simp; omega
  clear hR hmm hm hn hZC hln hNw hc2 hk hc
  go_enter Try.func3, Try.ntmps3
  go_wp2_with fail
  refine (known_any _).mono ?_
  rintro e w1 ⟨rfl, hb⟩
  have HB1 := Lib.hid hb
  clear hb
  go_wp2_with fail
  refine (HCk.out _ (HR.out.below HB1.out)).mono ?_
  rintro e w' ⟨rfl, rfl⟩
  go_wp2_with fail
  refine (HNw.out _ (HR.out.below HB1.out)).mono ?_
  rintro e w2 ⟨rfl, hw⟩
  subst hw
  have HB2 := HB1
  go_wp2_with fail
  refine (HEn.out _ (HR.out.below HB2.out)).mono ?_
  rintro e w3 ⟨rfl, hb⟩
  have HB3 := Lib.hid (HB2.out.trans (hb.mono HB2.out.size))
  clear hb
  go_wp2_with fail
  refine (HNm.out w3).mono ?_
  rintro e w5 ⟨⟨q5, rfl, _⟩, hb⟩
  have HB5 := Lib.hid ((HB3.out.alloc HB3.out.size (.cells ZC 3)).trans (hb.mono (by have := HB3.out.size; simp; omega)))
  clear hb
  clear hmk
  go_wp2_with fail
  go_ret
  exact ⟨rfl, HB5.out⟩
set_option maxRecDepth 100000 in
set_option maxHeartbeats 4000000 in
theorem walk_bad_lo_big (w : World) (A : Option Addr) (c : Nat) (L : List Int) (hR : Rd (Value.int .i64) w A L) (k : Int) (wk : -9223372036854775808 ≤ k ∧ k ≤ 9223372036854775807) (r : Int) (wr : 0 ≤ r ∧ r ≤ 255) (h20 : L.length ≤ 20) (hc : chkV L ≠ 0) (hk : k < 1) (hm : r % 3 = 2) :
    Calls Try.prog 3 #[.slice A L.length c, .int .i64 k, .int .u8 r] w fun e w' => e = .returned (.bool true) ∧ Below w.heap.size w w' := by
  obtain ⟨m, hmm⟩ : ∃ m : Nat, (m : Int) = r % 3 := ⟨(r % 3).toNat, by omega⟩
  have q1 : r.tmod 3 = (m : Int) := by rw [Int.tmod_eq_emod_of_nonneg (by omega)]; omega
  have q2 : r % 3 = (m : Int) := hmm.symm
  have hmle : (m : Int) ≤ 2 := by omega
  obtain ⟨n, hn⟩ : ∃ n : Nat, n = 4095 + m := ⟨_, rfl⟩
  have hnb : n = 4097 := by omega
  have q3 : 4095 + (m : Int) = (n : Int) := by omega
  have hmk := fun W => make_ints n (by omega) W
  subst hnb
  have HNm := Lib.hid (fun W => new_bad (some ⟨W.heap.size, 0, none⟩) 4097 (List.replicate 4097 0) (by simp) (by unfold chkV; rw [if_pos (by simp)]; decide) (W.alloc (.cells (List.replicate 4097 (.int .i64 0)).toArray 3)) (rd_zeros W 4097 3))
  rw [show chkV (List.replicate 4097 0) = 6 by unfold chkV; rw [if_pos (by simp)], List.length_replicate] at HNm
  obtain ⟨ZC, hZC⟩ : ∃ Z : Array Value, Z = (List.replicate 4097 (.int .i64 0)).toArray := ⟨_, rfl⟩
  rw [← hZC] at hmk HNm
  rw [show (((4097 : Nat) : Int)) = 4097 from rfl] at hmk q3
  have HR := Lib.hid hR
  have HCk := Lib.hid (fun W h => rcheck_any A c L (by omega) W h)
  have hc2 : chkV L = 2 := by
    unfold chkV at hc ⊢
    rw [if_neg (by omega)] at hc ⊢
    by_cases h : L.any (fun x => !inV x) = true
    · rw [if_pos h]
    · rw [if_neg h] at hc; exact absurd rfl hc
  have hNw := fun W h => new_bad A c L (by omega) hc W h
  rw [hc2] at HCk hNw
  have HNw := Lib.hid hNw
  have HEn := Lib.hid (fun W (_ : Rd (Value.int .i64) W A L) => as_kind k wk (by omega) A L.length c W)
  have k1 : decide (k < 1) = true := by simp; omega
  obtain ⟨ln, hln⟩ : ∃ ln, ln = L.length := ⟨_, rfl⟩
  rw [← hln] at h20 HCk HNw HEn ⊢
  have hd : decide (20 < ln) = false := by simp; omega
  clear hR hmm hm hn hZC hln hNw hc2 hk hc
  go_enter Try.func3, Try.ntmps3
  go_wp2_with fail
  refine (known_any _).mono ?_
  rintro e w1 ⟨rfl, hb⟩
  have HB1 := Lib.hid hb
  clear hb
  go_wp2_with fail
  refine (HCk.out _ (HR.out.below HB1.out)).mono ?_
  rintro e w' ⟨rfl, rfl⟩
  go_wp2_with fail
  refine (HNw.out _ (HR.out.below HB1.out)).mono ?_
  rintro e w2 ⟨rfl, hw⟩
  subst hw
  have HB2 := HB1
  go_wp2_with fail
  refine (HEn.out _ (HR.out.below HB2.out)).mono ?_
  rintro e w3 ⟨rfl, hb⟩
  have HB3 := Lib.hid (HB2.out.trans (hb.mono HB2.out.size))
  clear hb
  go_wp2_with fail
  refine (HNm.out w3).mono ?_
  rintro e w5 ⟨rfl, hw⟩
  subst hw
  have HB5 := Lib.hid (HB3.out.alloc HB3.out.size (.cells ZC 3))
  clear hmk
  go_wp2_with fail
  go_ret
  exact ⟨rfl, HB5.out⟩
set_option maxRecDepth 100000 in
set_option maxHeartbeats 4000000 in
theorem walk_bad_hi_fit (w : World) (A : Option Addr) (c : Nat) (L : List Int) (hR : Rd (Value.int .i64) w A L) (k : Int) (wk : -9223372036854775808 ≤ k ∧ k ≤ 9223372036854775807) (r : Int) (wr : 0 ≤ r ∧ r ≤ 255) (h20 : L.length ≤ 20) (hc : chkV L ≠ 0) (hk : 4 < k) (hm : r % 3 ≠ 2) :
    Calls Try.prog 3 #[.slice A L.length c, .int .i64 k, .int .u8 r] w fun e w' => e = .returned (.bool true) ∧ Below w.heap.size w w' := by
  obtain ⟨m, hmm⟩ : ∃ m : Nat, (m : Int) = r % 3 := ⟨(r % 3).toNat, by omega⟩
  have q1 : r.tmod 3 = (m : Int) := by rw [Int.tmod_eq_emod_of_nonneg (by omega)]; omega
  have q2 : r % 3 = (m : Int) := hmm.symm
  have hmle : (m : Int) ≤ 2 := by omega
  obtain ⟨n, hn⟩ : ∃ n : Nat, n = 4095 + m := ⟨_, rfl⟩
  have hnb : n ≤ 4096 := by omega
  have q3 : 4095 + (m : Int) = (n : Int) := by omega
  have hmk := fun W => make_ints n (by omega) W
  have HNm := Lib.hid (fun W => new_ok (some ⟨W.heap.size, 0, none⟩) n (List.replicate n 0) (by simp; omega) (chk_zeros n (by omega)) (W.alloc (.cells (List.replicate n (.int .i64 0)).toArray 3)) (rd_zeros W n 3))
  rw [List.length_replicate] at HNm
  obtain ⟨ZC, hZC⟩ : ∃ Z : Array Value, Z = (List.replicate n (.int .i64 0)).toArray := ⟨_, rfl⟩
  rw [← hZC] at hmk HNm
  have hnd : decide ((4096 : Int) < (n : Int)) = false := by simp; omega
  have HR := Lib.hid hR
  have HCk := Lib.hid (fun W h => rcheck_any A c L (by omega) W h)
  have hc2 : chkV L = 2 := by
    unfold chkV at hc ⊢
    rw [if_neg (by omega)] at hc ⊢
    by_cases h : L.any (fun x => !inV x) = true
    · rw [if_pos h]
    · rw [if_neg h] at hc; exact absurd rfl hc
  have hNw := fun W h => new_bad A c L (by omega) hc W h
  rw [hc2] at HCk hNw
  have HNw := Lib.hid hNw
  have HEn := Lib.hid (fun W (_ : Rd (Value.int .i64) W A L) => as_kind k wk (by omega) A L.length c W)
  have k1 : decide (k < 1) = false := by simp; omega
  have k2 : decide (4 < k) = true := by simp; omega
  obtain ⟨ln, hln⟩ : ∃ ln, ln = L.length := ⟨_, rfl⟩
  rw [← hln] at h20 HCk HNw HEn ⊢
  have hd : decide (20 < ln) = false := by simp; omega
  clear hR hmm hm hn hZC hln hNw hc2 hk hc
  go_enter Try.func3, Try.ntmps3
  go_wp2_with fail
  refine (known_any _).mono ?_
  rintro e w1 ⟨rfl, hb⟩
  have HB1 := Lib.hid hb
  clear hb
  go_wp2_with fail
  refine (HCk.out _ (HR.out.below HB1.out)).mono ?_
  rintro e w' ⟨rfl, rfl⟩
  go_wp2_with fail
  refine (HNw.out _ (HR.out.below HB1.out)).mono ?_
  rintro e w2 ⟨rfl, hw⟩
  subst hw
  have HB2 := HB1
  go_wp2_with fail
  refine (HEn.out _ (HR.out.below HB2.out)).mono ?_
  rintro e w3 ⟨rfl, hb⟩
  have HB3 := Lib.hid (HB2.out.trans (hb.mono HB2.out.size))
  clear hb
  go_wp2_with fail
  refine (HNm.out w3).mono ?_
  rintro e w5 ⟨⟨q5, rfl, _⟩, hb⟩
  have HB5 := Lib.hid ((HB3.out.alloc HB3.out.size (.cells ZC 3)).trans (hb.mono (by have := HB3.out.size; simp; omega)))
  clear hb
  clear hmk
  go_wp2_with fail
  go_ret
  exact ⟨rfl, HB5.out⟩
set_option maxRecDepth 100000 in
set_option maxHeartbeats 4000000 in
theorem walk_bad_hi_big (w : World) (A : Option Addr) (c : Nat) (L : List Int) (hR : Rd (Value.int .i64) w A L) (k : Int) (wk : -9223372036854775808 ≤ k ∧ k ≤ 9223372036854775807) (r : Int) (wr : 0 ≤ r ∧ r ≤ 255) (h20 : L.length ≤ 20) (hc : chkV L ≠ 0) (hk : 4 < k) (hm : r % 3 = 2) :
    Calls Try.prog 3 #[.slice A L.length c, .int .i64 k, .int .u8 r] w fun e w' => e = .returned (.bool true) ∧ Below w.heap.size w w' := by
  obtain ⟨m, hmm⟩ : ∃ m : Nat, (m : Int) = r % 3 := ⟨(r % 3).toNat, by omega⟩
  have q1 : r.tmod 3 = (m : Int) := by rw [Int.tmod_eq_emod_of_nonneg (by omega)]; omega
  have q2 : r % 3 = (m : Int) := hmm.symm
  have hmle : (m : Int) ≤ 2 := by omega
  obtain ⟨n, hn⟩ : ∃ n : Nat, n = 4095 + m := ⟨_, rfl⟩
  have hnb : n = 4097 := by omega
  have q3 : 4095 + (m : Int) = (n : Int) := by omega
  have hmk := fun W => make_ints n (by omega) W
  subst hnb
  have HNm := Lib.hid (fun W => new_bad (some ⟨W.heap.size, 0, none⟩) 4097 (List.replicate 4097 0) (by simp) (by unfold chkV; rw [if_pos (by simp)]; decide) (W.alloc (.cells (List.replicate 4097 (.int .i64 0)).toArray 3)) (rd_zeros W 4097 3))
  rw [show chkV (List.replicate 4097 0) = 6 by unfold chkV; rw [if_pos (by simp)], List.length_replicate] at HNm
  obtain ⟨ZC, hZC⟩ : ∃ Z : Array Value, Z = (List.replicate 4097 (.int .i64 0)).toArray := ⟨_, rfl⟩
  rw [← hZC] at hmk HNm
  rw [show (((4097 : Nat) : Int)) = 4097 from rfl] at hmk q3
  have HR := Lib.hid hR
  have HCk := Lib.hid (fun W h => rcheck_any A c L (by omega) W h)
  have hc2 : chkV L = 2 := by
    unfold chkV at hc ⊢
    rw [if_neg (by omega)] at hc ⊢
    by_cases h : L.any (fun x => !inV x) = true
    · rw [if_pos h]
    · rw [if_neg h] at hc; exact absurd rfl hc
  have hNw := fun W h => new_bad A c L (by omega) hc W h
  rw [hc2] at HCk hNw
  have HNw := Lib.hid hNw
  have HEn := Lib.hid (fun W (_ : Rd (Value.int .i64) W A L) => as_kind k wk (by omega) A L.length c W)
  have k1 : decide (k < 1) = false := by simp; omega
  have k2 : decide (4 < k) = true := by simp; omega
  obtain ⟨ln, hln⟩ : ∃ ln, ln = L.length := ⟨_, rfl⟩
  rw [← hln] at h20 HCk HNw HEn ⊢
  have hd : decide (20 < ln) = false := by simp; omega
  clear hR hmm hm hn hZC hln hNw hc2 hk hc
  go_enter Try.func3, Try.ntmps3
  go_wp2_with fail
  refine (known_any _).mono ?_
  rintro e w1 ⟨rfl, hb⟩
  have HB1 := Lib.hid hb
  clear hb
  go_wp2_with fail
  refine (HCk.out _ (HR.out.below HB1.out)).mono ?_
  rintro e w' ⟨rfl, rfl⟩
  go_wp2_with fail
  refine (HNw.out _ (HR.out.below HB1.out)).mono ?_
  rintro e w2 ⟨rfl, hw⟩
  subst hw
  have HB2 := HB1
  go_wp2_with fail
  refine (HEn.out _ (HR.out.below HB2.out)).mono ?_
  rintro e w3 ⟨rfl, hb⟩
  have HB3 := Lib.hid (HB2.out.trans (hb.mono HB2.out.size))
  clear hb
  go_wp2_with fail
  refine (HNm.out w3).mono ?_
  rintro e w5 ⟨rfl, hw⟩
  subst hw
  have HB5 := Lib.hid (HB3.out.alloc HB3.out.size (.cells ZC 3))
  clear hmk
  go_wp2_with fail
  go_ret
  exact ⟨rfl, HB5.out⟩
theorem walk (w : World) (A : Option Addr) (c : Nat) (L : List Int) (_hL : L.length ≤ 9223372036854775807) (hR : Rd (Value.int .i64) w A L) (k : Int) (wk0 : (Lit.int .i64 k).wf = true) (r : Int) (wr1 : (Lit.int .u8 r).wf = true) :
    Calls Try.prog 3 #[.slice A L.length c, .int .i64 k, .int .u8 r] w fun e w' => e = .returned (.bool true) ∧ Below w.heap.size w w' := by
  have wk : -9223372036854775808 ≤ k ∧ k ≤ 9223372036854775807 := by simp [Lit.wf, IntKind.min, IntKind.max, IntKind.signed, IntKind.bits] at wk0; omega
  have wr : 0 ≤ r ∧ r ≤ 255 := by simp [Lit.wf, IntKind.min, IntKind.max, IntKind.signed, IntKind.bits] at wr1; omega
  by_cases h20 : 20 < L.length
  · exact walk_long w A c L hR k wk r wr h20
  · have h20' : L.length ≤ 20 := by omega
    by_cases hc : chkV L = 0 <;> by_cases hm : r % 3 = 2 <;> rcases (by omega : k < 1 ∨ 4 < k ∨ (1 ≤ k ∧ k ≤ 4)) with hk | hk | hk
    · exact walk_ok_lo_big w A c L hR k wk r wr h20' hc hk hm
    · exact walk_ok_hi_big w A c L hR k wk r wr h20' hc hk hm
    · exact walk_ok_in_big w A c L hR k wk r wr h20' hc hk hm
    · exact walk_ok_lo_fit w A c L hR k wk r wr h20' hc hk hm
    · exact walk_ok_hi_fit w A c L hR k wk r wr h20' hc hk hm
    · exact walk_ok_in_fit w A c L hR k wk r wr h20' hc hk hm
    · exact walk_bad_lo_big w A c L hR k wk r wr h20' hc hk hm
    · exact walk_bad_hi_big w A c L hR k wk r wr h20' hc hk hm
    · exact walk_bad_in_big w A c L hR k wk r wr h20' hc hk hm
    · exact walk_bad_lo_fit w A c L hR k wk r wr h20' hc hk hm
    · exact walk_bad_hi_fit w A c L hR k wk r wr h20' hc hk hm
    · exact walk_bad_in_fit w A c L hR k wk r wr h20' hc hk hm
set_option maxRecDepth 100000 in
theorem lifted (os : Os) (started : os.Started) (H : Type) (enc : TypeId × Value → H) :
    ReturnsInHanded {} Try.checked os 3 .any (Rows.columnErrorsSpec.pre6 enc Try.prog Try.f3 Rows.columnErrorsRow.domain false) (Rows.columnErrorsSpec.post enc Try.prog Try.f3 false true false false) := by
  refine returnsInHanded_of_change (C := Try.checked) own started (by kernel_rfl) Try.func3
    (ChangeSpec.witness6 (enc := enc) (C := Try.checked) false ⟨#[], #[.slice none 0 0, .int .i64 0, .int .u8 0], []⟩ 8 (by kernel_rfl) (by kernel_rfl) (by kernel_rfl) (by kernel_rfl)) ?_
  intro W base args ds gs before hval0 hW _ _
  have hval : ∀ (j : Nat) t v, Try.f3.params[j]? = some t → args[j]? = some v → Value.okWide Try.prog W .any base t v := hval0
  have hW' := hW
  obtain ⟨p, q, hA0, hV, rfl, _, _⟩ := hW
  have hA : DataW.TrodAll enc Try.prog W 0 (fun _ => true) true Try.f3.params.toList args.toList ds p := hA0
  rw [Try.params3] at hA hval
  obtain ⟨v0, vs0, d0, ds0, p0, q0, hargs0, rfl, rfl, h0, r0⟩ := trodAll_cons hA
  obtain ⟨v1, vs1, d1, ds1, p1, q1, hargs1, rfl, rfl, h1, r1⟩ := trodAll_cons r0
  obtain ⟨v2, vs2, d2, ds2, p2, q2, hargs2, rfl, rfl, h2, r2⟩ := trodAll_cons r1
  obtain ⟨rfl, rfl, rfl⟩ := trodAll_nil r2
  obtain rfl : args = #[v0, v1, v2] := by cases args; simp_all
  obtain ⟨rfl, rfl⟩ := trodVars_none hV
  have lt0 : ∀ x ∈ p0, x.block < W.heap.size := fun x hx => hW'.lt x (by simp [hx])
  obtain ⟨A0, c0, L0, rfl, hL0, hR0⟩ := open_nums (hval 0 22 v0 rfl rfl) h0 lt0
  obtain ⟨a1, rfl, rfl, rfl, wa1⟩ := open_int Try.underlying3 (hval 1 3 v1 rfl rfl) h1
  obtain ⟨a2, rfl, rfl, rfl, wa2⟩ := open_int Try.underlying5 (hval 2 5 v2 rfl rfl) h2
  clear hA0 hval0
  simp only [List.append_nil] at hW'
  refine (walk W A0 c0 L0 hL0 hR0 a1 wa1 a2 wa2).mono fun e W' ⟨he, hb⟩ => ?_
  subst he
  exact ⟨_, rfl, post_mem hW' hb (fun _ _ _ => trodAll_mk1 (shut_bool Try.underlying4 _)) (fun sp hsp => by
    have t := trodAll_cons_mk (carry laidOut (by kernel_rfl) (of_decide_eq_true (by kernel_rfl)) h0 hb lt0 sp (fun x hx => hsp x (by simp [hx]))) (trodAll_cons_mk (shut_int Try.underlying3 wa1) (trodAll_cons_mk (shut_int Try.underlying5 wa2) trodAll_mk0))
    simp only [List.append_nil] at t
    exact t) (fun _ => rfl) (ok_one (by kernel_rfl) rfl (okWide_bool_mk Try.underlying4 _))⟩

theorem proved : Rows.ColumnErrorsSaid :=
  OpenClaim.holds_of_wide 3 Try.f3 rfl rfl rfl rfl rfl rfl rfl ⟨rfl, rfl, rfl, rfl, rfl⟩ rfl rfl rfl rfl rfl (by kernel_rfl) Try.func3 (by kernel_rfl)
    (of_decide_eq_true (by kernel_rfl)) (by unfold Func.isWrapper; first | (rw [if_pos (by decide +kernel)]; kernel_rfl) | (rw [if_neg (by decide +kernel)]; exact ⟨rfl, rfl⟩))
    (fun os started H enc _ => lifted os started H enc)

end Go.Proofs.Ytomjgkflnfjjbaa.lawErrors
