/- What the reference's Parse returns, case by case. -/
import Derived.Test.YtmhheepnojbgoaaRScan
namespace Go.Proofs.Ytmhheepnojbgoaa
open Go.ChangeShapes Go.WideShapes Go.ChangeAt Go.RowKit Pl
set_option linter.unusedVariables false

set_option maxRecDepth 100000 in
set_option maxHeartbeats 2000000 in
theorem rparse_pos_none (s : ByteArray) (hs : s.size ≤ 16) (h0 : 0 < s.size) (h45 : ((s[0].toNat : Int) == 45) = false) (n : Int) (h : Hid (scanL 0 0 s.data.toList = (n, 0))) (w : World) :
    Calls Try.prog 45 #[.string s] w fun e w' => e = .returned (.tuple #[.agg #[.int .i64 0, .int .i64 0], .int .i64 14]) ∧ Below w.heap.size w w' := by
  have h0' : (0 : Int) < s.size := by omega
  go_enter Try.func45, Try.ntmps45
  go_wp2_with fail
  refine (rscan_at s (by omega) n 0 h _).mono ?_
  rintro e w1 ⟨rfl, rfl⟩
  go_wp2_with fail
  refine bodyPost_ret (v := .tuple #[.agg #[.int .i64 0, .int .i64 0], .int .i64 14]) (by simp [results, Try.results45, go_sem, *]) rfl ⟨rfl, by (repeat' (first | (with_reducible exact Below.refl _ _) | (with_reducible assumption) | (with_reducible refine Below.alloc ?_ ?_ _) | (with_reducible refine below_drewN ?_ _) | (with_reducible refine Below.drew ?_) | (with_reducible refine Below.setCell ?_ ?_ _) | go_size))⟩


set_option maxRecDepth 100000 in
set_option maxHeartbeats 2000000 in
theorem rparse_pos_slash0 (s : ByteArray) (hs : s.size ≤ 16) (h0 : 0 < s.size) (h45 : ((s[0].toNat : Int) == 45) = false) (n : Int) (k : Nat) (h : Hid (scanL 0 0 s.data.toList = (n, k))) (hk : 0 < (k : Int)) (hks : k ≤ s.size) (n1 : 0 ≤ n) (n2 : n ≤ 10000000000000000) (t : ByteArray) (ht : Hid (s.extract k s.size = t)) (hts : t.size ≤ 16) (t0 : 0 < t.size) (t47 : ((t[0].toNat : Int) == 47) = true) (v : ByteArray) (hv : Hid (t.extract 1 t.size = v)) (hvs : v.size ≤ 16) (m : Int)  (h2 : Hid (scanL 0 0 v.data.toList = (m, 0))) (w : World) :
    Calls Try.prog 45 #[.string s] w fun e w' => e = .returned (.tuple #[.agg #[.int .i64 0, .int .i64 0], .int .i64 14]) ∧ Below w.heap.size w w' := by
  have h0' : (0 : Int) < s.size := by omega
  have k0 : ((k : Int) == 0) = false := by simp; omega
  have t0' : (0 : Int) < t.size := by omega
  have t1' : (1 : Int) ≤ t.size := by omega
  go_enter Try.func45, Try.ntmps45
  go_wp2_with fail
  refine (rscan_at s (by omega) n k h _).mono ?_
  rintro e w1 ⟨rfl, rfl⟩
  go_wp2_with fail
  go_quiet (fail)
  rw [ht.out]
  go_wp2_with fail
  rw [hv.out]
  refine (rscan_at v (by omega) m 0 h2 _).mono ?_
  rintro e w2 ⟨rfl, rfl⟩
  go_wp2_with fail
  refine bodyPost_ret (v := .tuple #[.agg #[.int .i64 0, .int .i64 0], .int .i64 14]) (by simp [results, Try.results45, go_sem, *]) rfl ⟨rfl, by (repeat' (first | (with_reducible exact Below.refl _ _) | (with_reducible assumption) | (with_reducible refine Below.alloc ?_ ?_ _) | (with_reducible refine below_drewN ?_ _) | (with_reducible refine Below.drew ?_) | (with_reducible refine Below.setCell ?_ ?_ _) | go_size))⟩


set_option maxRecDepth 100000 in
set_option maxHeartbeats 2000000 in
theorem rparse_pos_slash_bada (s : ByteArray) (hs : s.size ≤ 16) (h0 : 0 < s.size) (h45 : ((s[0].toNat : Int) == 45) = false) (n : Int) (k : Nat) (h : Hid (scanL 0 0 s.data.toList = (n, k))) (hk : 0 < (k : Int)) (hks : k ≤ s.size) (n1 : 0 ≤ n) (n2 : n ≤ 10000000000000000) (t : ByteArray) (ht : Hid (s.extract k s.size = t)) (hts : t.size ≤ 16) (t0 : 0 < t.size) (t47 : ((t[0].toNat : Int) == 47) = true) (v : ByteArray) (hv : Hid (t.extract 1 t.size = v)) (hvs : v.size ≤ 16) (m : Int) (c : Nat) (h2 : Hid (scanL 0 0 v.data.toList = (m, c))) (hc : 0 < (c : Int)) (hct : 1 + c ≤ t.size) (m1 : 0 ≤ m) (m2 : m ≤ 10000000000000000) (r : ByteArray) (hr : Hid (t.extract (1 + c) t.size = r)) (r0 : (r.toList == [37]) = true) (r1 : r.toList.isEmpty = false) (w : World) :
    Calls Try.prog 45 #[.string s] w fun e w' => e = .returned (.tuple #[.agg #[.int .i64 0, .int .i64 0], .int .i64 14]) ∧ Below w.heap.size w w' := by
  have h0' : (0 : Int) < s.size := by omega
  have k0 : ((k : Int) == 0) = false := by simp; omega
  have t0' : (0 : Int) < t.size := by omega
  have t1' : (1 : Int) ≤ t.size := by omega
  have c0 : ((c : Int) == 0) = false := by simp; omega
  have hct' : (1 : Int) + c ≤ t.size := by omega
  have q0 : ((t.extract (1 + c) t.size).toList == [37]) = true := by rw [hr.out]; exact r0
  have q1 : (t.extract (1 + c) t.size).toList.isEmpty = false := by rw [hr.out]; exact r1
  go_enter Try.func45, Try.ntmps45
  go_wp2_with fail
  refine (rscan_at s (by omega) n k h _).mono ?_
  rintro e w1 ⟨rfl, rfl⟩
  go_wp2_with fail
  go_quiet (fail)
  rw [ht.out]
  go_wp2_with fail
  rw [hv.out]
  refine (rscan_at v (by omega) m c h2 _).mono ?_
  rintro e w2 ⟨rfl, rfl⟩
  go_wp2_with fail
  refine bodyPost_ret (v := .tuple #[.agg #[.int .i64 0, .int .i64 0], .int .i64 14]) (by simp [results, Try.results45, go_sem, *]) rfl ⟨rfl, by (repeat' (first | (with_reducible exact Below.refl _ _) | (with_reducible assumption) | (with_reducible refine Below.alloc ?_ ?_ _) | (with_reducible refine below_drewN ?_ _) | (with_reducible refine Below.drew ?_) | (with_reducible refine Below.setCell ?_ ?_ _) | go_size))⟩


set_option maxRecDepth 100000 in
set_option maxHeartbeats 2000000 in
theorem rparse_pos_slash_badb (s : ByteArray) (hs : s.size ≤ 16) (h0 : 0 < s.size) (h45 : ((s[0].toNat : Int) == 45) = false) (n : Int) (k : Nat) (h : Hid (scanL 0 0 s.data.toList = (n, k))) (hk : 0 < (k : Int)) (hks : k ≤ s.size) (n1 : 0 ≤ n) (n2 : n ≤ 10000000000000000) (t : ByteArray) (ht : Hid (s.extract k s.size = t)) (hts : t.size ≤ 16) (t0 : 0 < t.size) (t47 : ((t[0].toNat : Int) == 47) = true) (v : ByteArray) (hv : Hid (t.extract 1 t.size = v)) (hvs : v.size ≤ 16) (m : Int) (c : Nat) (h2 : Hid (scanL 0 0 v.data.toList = (m, c))) (hc : 0 < (c : Int)) (hct : 1 + c ≤ t.size) (m1 : 0 ≤ m) (m2 : m ≤ 10000000000000000) (r : ByteArray) (hr : Hid (t.extract (1 + c) t.size = r)) (r0 : (r.toList == [37]) = false) (r1 : r.toList.isEmpty = false) (w : World) :
    Calls Try.prog 45 #[.string s] w fun e w' => e = .returned (.tuple #[.agg #[.int .i64 0, .int .i64 0], .int .i64 14]) ∧ Below w.heap.size w w' := by
  have h0' : (0 : Int) < s.size := by omega
  have k0 : ((k : Int) == 0) = false := by simp; omega
  have t0' : (0 : Int) < t.size := by omega
  have t1' : (1 : Int) ≤ t.size := by omega
  have c0 : ((c : Int) == 0) = false := by simp; omega
  have hct' : (1 : Int) + c ≤ t.size := by omega
  have q0 : ((t.extract (1 + c) t.size).toList == [37]) = false := by rw [hr.out]; exact r0
  have q1 : (t.extract (1 + c) t.size).toList.isEmpty = false := by rw [hr.out]; exact r1
  go_enter Try.func45, Try.ntmps45
  go_wp2_with fail
  refine (rscan_at s (by omega) n k h _).mono ?_
  rintro e w1 ⟨rfl, rfl⟩
  go_wp2_with fail
  go_quiet (fail)
  rw [ht.out]
  go_wp2_with fail
  rw [hv.out]
  refine (rscan_at v (by omega) m c h2 _).mono ?_
  rintro e w2 ⟨rfl, rfl⟩
  go_wp2_with fail
  refine bodyPost_ret (v := .tuple #[.agg #[.int .i64 0, .int .i64 0], .int .i64 14]) (by simp [results, Try.results45, go_sem, *]) rfl ⟨rfl, by (repeat' (first | (with_reducible exact Below.refl _ _) | (with_reducible assumption) | (with_reducible refine Below.alloc ?_ ?_ _) | (with_reducible refine below_drewN ?_ _) | (with_reducible refine Below.drew ?_) | (with_reducible refine Below.setCell ?_ ?_ _) | go_size))⟩


set_option maxRecDepth 100000 in
set_option maxHeartbeats 2000000 in
theorem rparse_pos_slash (s : ByteArray) (hs : s.size ≤ 16) (h0 : 0 < s.size) (h45 : ((s[0].toNat : Int) == 45) = false) (n : Int) (k : Nat) (h : Hid (scanL 0 0 s.data.toList = (n, k))) (hk : 0 < (k : Int)) (hks : k ≤ s.size) (n1 : 0 ≤ n) (n2 : n ≤ 10000000000000000) (t : ByteArray) (ht : Hid (s.extract k s.size = t)) (hts : t.size ≤ 16) (t0 : 0 < t.size) (t47 : ((t[0].toNat : Int) == 47) = true) (v : ByteArray) (hv : Hid (t.extract 1 t.size = v)) (hvs : v.size ≤ 16) (m : Int) (c : Nat) (h2 : Hid (scanL 0 0 v.data.toList = (m, c))) (hc : 0 < (c : Int)) (hct : 1 + c ≤ t.size) (m1 : 0 ≤ m) (m2 : m ≤ 10000000000000000) (r : ByteArray) (hr : Hid (t.extract (1 + c) t.size = r)) (r0 : (r.toList == [37]) = false) (r1 : r.toList.isEmpty = true) (r2 : r.toList = []) (mz : (m == 0) = false) (mp : 0 < m) (w : World) :
    Calls Try.prog 45 #[.string s] w fun e w' => e = .returned (.tuple #[.agg #[.int .i64 (mkN (n) m), .int .i64 (mkD (n) m)], .int .i64 (mkE (n) m)]) ∧ Below w.heap.size w w' := by
  have h0' : (0 : Int) < s.size := by omega
  have k0 : ((k : Int) == 0) = false := by simp; omega
  have t0' : (0 : Int) < t.size := by omega
  have t1' : (1 : Int) ≤ t.size := by omega
  have c0 : ((c : Int) == 0) = false := by simp; omega
  have hct' : (1 : Int) + c ≤ t.size := by omega
  have q0 : ((t.extract (1 + c) t.size).toList == [37]) = false := by rw [hr.out]; exact r0
  have q1 : (t.extract (1 + c) t.size).toList.isEmpty = true := by rw [hr.out]; exact r1
  have q2 : (t.extract (1 + c) t.size).toList = [] := by rw [hr.out]; exact r2
  by_cases hE : mkE (n) m = 0
  · rw [hE]
    have HB : Hid (decide (mkE (n) m = 0) = true) := Lib.hid (by simpa using hE)
    clear hE
    go_enter Try.func45, Try.ntmps45
    go_wp2_with fail
    refine (rscan_at s (by omega) n k h _).mono ?_
    rintro e w1 ⟨rfl, rfl⟩
    go_wp2_with fail
    go_quiet (fail)
    rw [ht.out]
    go_wp2_with fail
    rw [hv.out]
    refine (rscan_at v (by omega) m c h2 _).mono ?_
    rintro e w2 ⟨rfl, rfl⟩
    go_wp2_with fail
    refine (rmake_any (n) m (by omega) (by omega) (by omega) (by omega) (by omega) _).mono ?_
    rintro e w9 ⟨rfl, hbw9⟩
    obtain ⟨hchbw9, hfhbw9⟩ := bcell hbw9
    have hzhbw9 := hbw9.size
    try simp at hzhbw9
    have hzhbw90 : w.heap.size < w9.heap.size := by omega
    have hBhbw9 : Below w.heap.size w w9 := Below.trans (by (repeat' (first | (with_reducible exact Below.refl _ _) | (with_reducible assumption) | (with_reducible refine Below.alloc ?_ ?_ _) | (with_reducible refine below_drewN ?_ _) | (with_reducible refine Below.drew ?_) | (with_reducible refine Below.setCell ?_ ?_ _) | go_size))) (hbw9.mono (by go_size))
    have hWhbw9 : w.heap.size ≤ w9.heap.size := hBhbw9.size
    clear hbw9 hzhbw9
    rw [HB.out]
    go_wp2
    refine bodyPost_ret (v := .tuple #[.agg #[.int .i64 (mkN (n) m), .int .i64 (mkD (n) m)], .int .i64 0]) (by simp [results, Try.results45, go_sem, *]) rfl ⟨rfl, by (repeat' (first | (with_reducible exact Below.refl _ _) | (with_reducible assumption) | (with_reducible refine Below.alloc ?_ ?_ _) | (with_reducible refine below_drewN ?_ _) | (with_reducible refine Below.drew ?_) | (with_reducible refine Below.setCell ?_ ?_ _) | go_size))⟩
  · have hE3 : mkE (n) m = 20 := by rcases mkE_ne (n) m (by omega) with h | h <;> omega
    have HB : Hid (decide (mkE (n) m = 0) = false) := Lib.hid (by simpa using hE)
    obtain ⟨z1, z2⟩ := mk_bad hE
    rw [hE3, z1, z2]
    have Z1 := Lib.hid z1
    have Z2 := Lib.hid z2
    clear hE hE3 z1 z2
    go_enter Try.func45, Try.ntmps45
    go_wp2_with fail
    refine (rscan_at s (by omega) n k h _).mono ?_
    rintro e w1 ⟨rfl, rfl⟩
    go_wp2_with fail
    go_quiet (fail)
    rw [ht.out]
    go_wp2_with fail
    rw [hv.out]
    refine (rscan_at v (by omega) m c h2 _).mono ?_
    rintro e w2 ⟨rfl, rfl⟩
    go_wp2_with fail
    refine (rmake_any (n) m (by omega) (by omega) (by omega) (by omega) (by omega) _).mono ?_
    rintro e w9 ⟨rfl, hbw9⟩
    obtain ⟨hchbw9, hfhbw9⟩ := bcell hbw9
    have hzhbw9 := hbw9.size
    try simp at hzhbw9
    have hzhbw90 : w.heap.size < w9.heap.size := by omega
    have hBhbw9 : Below w.heap.size w w9 := Below.trans (by (repeat' (first | (with_reducible exact Below.refl _ _) | (with_reducible assumption) | (with_reducible refine Below.alloc ?_ ?_ _) | (with_reducible refine below_drewN ?_ _) | (with_reducible refine Below.drew ?_) | (with_reducible refine Below.setCell ?_ ?_ _) | go_size))) (hbw9.mono (by go_size))
    have hWhbw9 : w.heap.size ≤ w9.heap.size := hBhbw9.size
    clear hbw9 hzhbw9
    rw [HB.out, Z1.out, Z2.out]
    go_wp2
    refine bodyPost_ret (v := .tuple #[.agg #[.int .i64 0, .int .i64 0], .int .i64 20]) (by simp [results, Try.results45, go_sem, *]) rfl ⟨rfl, by (repeat' (first | (with_reducible exact Below.refl _ _) | (with_reducible assumption) | (with_reducible refine Below.alloc ?_ ?_ _) | (with_reducible refine below_drewN ?_ _) | (with_reducible refine Below.drew ?_) | (with_reducible refine Below.setCell ?_ ?_ _) | go_size))⟩


set_option maxRecDepth 100000 in
set_option maxHeartbeats 2000000 in
theorem rparse_pos_slash_zero (s : ByteArray) (hs : s.size ≤ 16) (h0 : 0 < s.size) (h45 : ((s[0].toNat : Int) == 45) = false) (n : Int) (k : Nat) (h : Hid (scanL 0 0 s.data.toList = (n, k))) (hk : 0 < (k : Int)) (hks : k ≤ s.size) (n1 : 0 ≤ n) (n2 : n ≤ 10000000000000000) (t : ByteArray) (ht : Hid (s.extract k s.size = t)) (hts : t.size ≤ 16) (t0 : 0 < t.size) (t47 : ((t[0].toNat : Int) == 47) = true) (v : ByteArray) (hv : Hid (t.extract 1 t.size = v)) (hvs : v.size ≤ 16) (m : Int) (c : Nat) (h2 : Hid (scanL 0 0 v.data.toList = (m, c))) (hc : 0 < (c : Int)) (hct : 1 + c ≤ t.size) (m1 : 0 ≤ m) (m2 : m ≤ 10000000000000000) (r : ByteArray) (hr : Hid (t.extract (1 + c) t.size = r)) (r0 : (r.toList == [37]) = false) (r1 : r.toList.isEmpty = true) (r2 : r.toList = []) (mz : (m == 0) = true) (w : World) :
    Calls Try.prog 45 #[.string s] w fun e w' => e = .returned (.tuple #[.agg #[.int .i64 0, .int .i64 0], .int .i64 19]) ∧ Below w.heap.size w w' := by
  have h0' : (0 : Int) < s.size := by omega
  have k0 : ((k : Int) == 0) = false := by simp; omega
  have t0' : (0 : Int) < t.size := by omega
  have t1' : (1 : Int) ≤ t.size := by omega
  have c0 : ((c : Int) == 0) = false := by simp; omega
  have hct' : (1 : Int) + c ≤ t.size := by omega
  have q0 : ((t.extract (1 + c) t.size).toList == [37]) = false := by rw [hr.out]; exact r0
  have q1 : (t.extract (1 + c) t.size).toList.isEmpty = true := by rw [hr.out]; exact r1
  have q2 : (t.extract (1 + c) t.size).toList = [] := by rw [hr.out]; exact r2
  go_enter Try.func45, Try.ntmps45
  go_wp2_with fail
  refine (rscan_at s (by omega) n k h _).mono ?_
  rintro e w1 ⟨rfl, rfl⟩
  go_wp2_with fail
  go_quiet (fail)
  rw [ht.out]
  go_wp2_with fail
  rw [hv.out]
  refine (rscan_at v (by omega) m c h2 _).mono ?_
  rintro e w2 ⟨rfl, rfl⟩
  go_wp2_with fail
  refine bodyPost_ret (v := .tuple #[.agg #[.int .i64 0, .int .i64 0], .int .i64 19]) (by simp [results, Try.results45, go_sem, *]) rfl ⟨rfl, by (repeat' (first | (with_reducible exact Below.refl _ _) | (with_reducible assumption) | (with_reducible refine Below.alloc ?_ ?_ _) | (with_reducible refine below_drewN ?_ _) | (with_reducible refine Below.drew ?_) | (with_reducible refine Below.setCell ?_ ?_ _) | go_size))⟩


set_option maxRecDepth 100000 in
set_option maxHeartbeats 2000000 in
theorem rparse_pos_point0 (s : ByteArray) (hs : s.size ≤ 16) (h0 : 0 < s.size) (h45 : ((s[0].toNat : Int) == 45) = false) (n : Int) (k : Nat) (h : Hid (scanL 0 0 s.data.toList = (n, k))) (hk : 0 < (k : Int)) (hks : k ≤ s.size) (n1 : 0 ≤ n) (n2 : n ≤ 10000000000000000) (t : ByteArray) (ht : Hid (s.extract k s.size = t)) (hts : t.size ≤ 16) (t0 : 0 < t.size) (t47 : ((t[0].toNat : Int) == 47) = false) (t46 : ((t[0].toNat : Int) == 46) = true) (v : ByteArray) (hv : Hid (t.extract 1 t.size = v)) (hvs : v.size ≤ 16) (m : Int)  (h2 : Hid (scanL 0 0 v.data.toList = (m, 0))) (w : World) :
    Calls Try.prog 45 #[.string s] w fun e w' => e = .returned (.tuple #[.agg #[.int .i64 0, .int .i64 0], .int .i64 14]) ∧ Below w.heap.size w w' := by
  have h0' : (0 : Int) < s.size := by omega
  have k0 : ((k : Int) == 0) = false := by simp; omega
  have t0' : (0 : Int) < t.size := by omega
  have t1' : (1 : Int) ≤ t.size := by omega
  go_enter Try.func45, Try.ntmps45
  go_wp2_with fail
  refine (rscan_at s (by omega) n k h _).mono ?_
  rintro e w1 ⟨rfl, rfl⟩
  go_wp2_with fail
  go_quiet (fail)
  rw [ht.out]
  go_wp2_with fail
  rw [hv.out]
  refine (rscan_at v (by omega) m 0 h2 _).mono ?_
  rintro e w2 ⟨rfl, rfl⟩
  go_wp2_with fail
  refine bodyPost_ret (v := .tuple #[.agg #[.int .i64 0, .int .i64 0], .int .i64 14]) (by simp [results, Try.results45, go_sem, *]) rfl ⟨rfl, by (repeat' (first | (with_reducible exact Below.refl _ _) | (with_reducible assumption) | (with_reducible refine Below.alloc ?_ ?_ _) | (with_reducible refine below_drewN ?_ _) | (with_reducible refine Below.drew ?_) | (with_reducible refine Below.setCell ?_ ?_ _) | go_size))⟩


set_option maxRecDepth 100000 in
set_option maxHeartbeats 2000000 in
theorem rparse_pos_point_bad (s : ByteArray) (hs : s.size ≤ 16) (h0 : 0 < s.size) (h45 : ((s[0].toNat : Int) == 45) = false) (n : Int) (k : Nat) (h : Hid (scanL 0 0 s.data.toList = (n, k))) (hk : 0 < (k : Int)) (hks : k ≤ s.size) (n1 : 0 ≤ n) (n2 : n ≤ 10000000000000000) (t : ByteArray) (ht : Hid (s.extract k s.size = t)) (hts : t.size ≤ 16) (t0 : 0 < t.size) (t47 : ((t[0].toNat : Int) == 47) = false) (t46 : ((t[0].toNat : Int) == 46) = true) (v : ByteArray) (hv : Hid (t.extract 1 t.size = v)) (hvs : v.size ≤ 16) (m : Int) (c : Nat) (h2 : Hid (scanL 0 0 v.data.toList = (m, c))) (hc : 0 < (c : Int)) (hct : 1 + c ≤ t.size) (m1 : 0 ≤ m) (m2 : m ≤ 10000000000000000) (r : ByteArray) (hr : Hid (t.extract (1 + c) t.size = r)) (P : Int) (hP : Hid (10 ^ c = P)) (p1 : 1 ≤ P) (p2 : P ≤ 1000000000000000) (v1 : 0 ≤ n * P) (v2 : n * P ≤ 10000000000000000) (r0 : (r.toList == [37]) = false) (r1 : r.toList.isEmpty = false) (w : World) :
    Calls Try.prog 45 #[.string s] w fun e w' => e = .returned (.tuple #[.agg #[.int .i64 0, .int .i64 0], .int .i64 14]) ∧ Below w.heap.size w w' := by
  have h0' : (0 : Int) < s.size := by omega
  have k0 : ((k : Int) == 0) = false := by simp; omega
  have t0' : (0 : Int) < t.size := by omega
  have t1' : (1 : Int) ≤ t.size := by omega
  have c0 : ((c : Int) == 0) = false := by simp; omega
  have hct' : (1 : Int) + c ≤ t.size := by omega
  have q0 : ((t.extract (1 + c) t.size).toList == [37]) = false := by rw [hr.out]; exact r0
  have q1 : (t.extract (1 + c) t.size).toList.isEmpty = false := by rw [hr.out]; exact r1
  go_enter Try.func45, Try.ntmps45
  go_wp2_with fail
  refine (rscan_at s (by omega) n k h _).mono ?_
  rintro e w1 ⟨rfl, rfl⟩
  go_wp2_with fail
  go_quiet (fail)
  rw [ht.out]
  go_wp2_with fail
  rw [hv.out]
  refine (rscan_at v (by omega) m c h2 _).mono ?_
  rintro e w2 ⟨rfl, rfl⟩
  go_wp2_with fail
  refine (rpower_any c (by omega) _).mono ?_
  rintro e w3 ⟨rfl, rfl⟩
  rw [hP.out]
  go_wp2_with fail
  refine (rpower_any c (by omega) _).mono ?_
  rintro e w3 ⟨rfl, rfl⟩
  rw [hP.out]
  go_wp2_with fail
  refine bodyPost_ret (v := .tuple #[.agg #[.int .i64 0, .int .i64 0], .int .i64 14]) (by simp [results, Try.results45, go_sem, *]) rfl ⟨rfl, by (repeat' (first | (with_reducible exact Below.refl _ _) | (with_reducible assumption) | (with_reducible refine Below.alloc ?_ ?_ _) | (with_reducible refine below_drewN ?_ _) | (with_reducible refine Below.drew ?_) | (with_reducible refine Below.setCell ?_ ?_ _) | go_size))⟩


set_option maxRecDepth 100000 in
set_option maxHeartbeats 2000000 in
theorem rparse_pos_point_pc (s : ByteArray) (hs : s.size ≤ 16) (h0 : 0 < s.size) (h45 : ((s[0].toNat : Int) == 45) = false) (n : Int) (k : Nat) (h : Hid (scanL 0 0 s.data.toList = (n, k))) (hk : 0 < (k : Int)) (hks : k ≤ s.size) (n1 : 0 ≤ n) (n2 : n ≤ 10000000000000000) (t : ByteArray) (ht : Hid (s.extract k s.size = t)) (hts : t.size ≤ 16) (t0 : 0 < t.size) (t47 : ((t[0].toNat : Int) == 47) = false) (t46 : ((t[0].toNat : Int) == 46) = true) (v : ByteArray) (hv : Hid (t.extract 1 t.size = v)) (hvs : v.size ≤ 16) (m : Int) (c : Nat) (h2 : Hid (scanL 0 0 v.data.toList = (m, c))) (hc : 0 < (c : Int)) (hct : 1 + c ≤ t.size) (m1 : 0 ≤ m) (m2 : m ≤ 10000000000000000) (r : ByteArray) (hr : Hid (t.extract (1 + c) t.size = r)) (P : Int) (hP : Hid (10 ^ c = P)) (p1 : 1 ≤ P) (p2 : P ≤ 1000000000000000) (v1 : 0 ≤ n * P) (v2 : n * P ≤ 10000000000000000) (r0 : (r.toList == [37]) = true) (w : World) :
    Calls Try.prog 45 #[.string s] w fun e w' => e = .returned (.tuple #[.agg #[.int .i64 (mkN (n * P + m) (100 * P)), .int .i64 (mkD (n * P + m) (100 * P))], .int .i64 (mkE (n * P + m) (100 * P))]) ∧ Below w.heap.size w w' := by
  have h0' : (0 : Int) < s.size := by omega
  have k0 : ((k : Int) == 0) = false := by simp; omega
  have t0' : (0 : Int) < t.size := by omega
  have t1' : (1 : Int) ≤ t.size := by omega
  have c0 : ((c : Int) == 0) = false := by simp; omega
  have hct' : (1 : Int) + c ≤ t.size := by omega
  have q0 : ((t.extract (1 + c) t.size).toList == [37]) = true := by rw [hr.out]; exact r0
  by_cases hE : mkE (n * P + m) (100 * P) = 0
  · rw [hE]
    have HB : Hid (decide (mkE (n * P + m) (100 * P) = 0) = true) := Lib.hid (by simpa using hE)
    clear hE
    go_enter Try.func45, Try.ntmps45
    go_wp2_with fail
    refine (rscan_at s (by omega) n k h _).mono ?_
    rintro e w1 ⟨rfl, rfl⟩
    go_wp2_with fail
    go_quiet (fail)
    rw [ht.out]
    go_wp2_with fail
    rw [hv.out]
    refine (rscan_at v (by omega) m c h2 _).mono ?_
    rintro e w2 ⟨rfl, rfl⟩
    go_wp2_with fail
    refine (rpower_any c (by omega) _).mono ?_
    rintro e w3 ⟨rfl, rfl⟩
    rw [hP.out]
    go_wp2_with fail
    refine (rpower_any c (by omega) _).mono ?_
    rintro e w3 ⟨rfl, rfl⟩
    rw [hP.out]
    go_wp2_with fail
    refine (rmake_any (n * P + m) (100 * P) (by omega) (by omega) (by omega) (by omega) (by omega) _).mono ?_
    rintro e w9 ⟨rfl, hbw9⟩
    obtain ⟨hchbw9, hfhbw9⟩ := bcell hbw9
    have hzhbw9 := hbw9.size
    try simp at hzhbw9
    have hzhbw90 : w.heap.size < w9.heap.size := by omega
    have hBhbw9 : Below w.heap.size w w9 := Below.trans (by (repeat' (first | (with_reducible exact Below.refl _ _) | (with_reducible assumption) | (with_reducible refine Below.alloc ?_ ?_ _) | (with_reducible refine below_drewN ?_ _) | (with_reducible refine Below.drew ?_) | (with_reducible refine Below.setCell ?_ ?_ _) | go_size))) (hbw9.mono (by go_size))
    have hWhbw9 : w.heap.size ≤ w9.heap.size := hBhbw9.size
    clear hbw9 hzhbw9
    rw [HB.out]
    go_wp2
    refine bodyPost_ret (v := .tuple #[.agg #[.int .i64 (mkN (n * P + m) (100 * P)), .int .i64 (mkD (n * P + m) (100 * P))], .int .i64 0]) (by simp [results, Try.results45, go_sem, *]) rfl ⟨rfl, by (repeat' (first | (with_reducible exact Below.refl _ _) | (with_reducible assumption) | (with_reducible refine Below.alloc ?_ ?_ _) | (with_reducible refine below_drewN ?_ _) | (with_reducible refine Below.drew ?_) | (with_reducible refine Below.setCell ?_ ?_ _) | go_size))⟩
  · have hE3 : mkE (n * P + m) (100 * P) = 20 := by rcases mkE_ne (n * P + m) (100 * P) (by omega) with h | h <;> omega
    have HB : Hid (decide (mkE (n * P + m) (100 * P) = 0) = false) := Lib.hid (by simpa using hE)
    obtain ⟨z1, z2⟩ := mk_bad hE
    rw [hE3, z1, z2]
    have Z1 := Lib.hid z1
    have Z2 := Lib.hid z2
    clear hE hE3 z1 z2
    go_enter Try.func45, Try.ntmps45
    go_wp2_with fail
    refine (rscan_at s (by omega) n k h _).mono ?_
    rintro e w1 ⟨rfl, rfl⟩
    go_wp2_with fail
    go_quiet (fail)
    rw [ht.out]
    go_wp2_with fail
    rw [hv.out]
    refine (rscan_at v (by omega) m c h2 _).mono ?_
    rintro e w2 ⟨rfl, rfl⟩
    go_wp2_with fail
    refine (rpower_any c (by omega) _).mono ?_
    rintro e w3 ⟨rfl, rfl⟩
    rw [hP.out]
    go_wp2_with fail
    refine (rpower_any c (by omega) _).mono ?_
    rintro e w3 ⟨rfl, rfl⟩
    rw [hP.out]
    go_wp2_with fail
    refine (rmake_any (n * P + m) (100 * P) (by omega) (by omega) (by omega) (by omega) (by omega) _).mono ?_
    rintro e w9 ⟨rfl, hbw9⟩
    obtain ⟨hchbw9, hfhbw9⟩ := bcell hbw9
    have hzhbw9 := hbw9.size
    try simp at hzhbw9
    have hzhbw90 : w.heap.size < w9.heap.size := by omega
    have hBhbw9 : Below w.heap.size w w9 := Below.trans (by (repeat' (first | (with_reducible exact Below.refl _ _) | (with_reducible assumption) | (with_reducible refine Below.alloc ?_ ?_ _) | (with_reducible refine below_drewN ?_ _) | (with_reducible refine Below.drew ?_) | (with_reducible refine Below.setCell ?_ ?_ _) | go_size))) (hbw9.mono (by go_size))
    have hWhbw9 : w.heap.size ≤ w9.heap.size := hBhbw9.size
    clear hbw9 hzhbw9
    rw [HB.out, Z1.out, Z2.out]
    go_wp2
    refine bodyPost_ret (v := .tuple #[.agg #[.int .i64 0, .int .i64 0], .int .i64 20]) (by simp [results, Try.results45, go_sem, *]) rfl ⟨rfl, by (repeat' (first | (with_reducible exact Below.refl _ _) | (with_reducible assumption) | (with_reducible refine Below.alloc ?_ ?_ _) | (with_reducible refine below_drewN ?_ _) | (with_reducible refine Below.drew ?_) | (with_reducible refine Below.setCell ?_ ?_ _) | go_size))⟩


set_option maxRecDepth 100000 in
set_option maxHeartbeats 2000000 in
theorem rparse_pos_point (s : ByteArray) (hs : s.size ≤ 16) (h0 : 0 < s.size) (h45 : ((s[0].toNat : Int) == 45) = false) (n : Int) (k : Nat) (h : Hid (scanL 0 0 s.data.toList = (n, k))) (hk : 0 < (k : Int)) (hks : k ≤ s.size) (n1 : 0 ≤ n) (n2 : n ≤ 10000000000000000) (t : ByteArray) (ht : Hid (s.extract k s.size = t)) (hts : t.size ≤ 16) (t0 : 0 < t.size) (t47 : ((t[0].toNat : Int) == 47) = false) (t46 : ((t[0].toNat : Int) == 46) = true) (v : ByteArray) (hv : Hid (t.extract 1 t.size = v)) (hvs : v.size ≤ 16) (m : Int) (c : Nat) (h2 : Hid (scanL 0 0 v.data.toList = (m, c))) (hc : 0 < (c : Int)) (hct : 1 + c ≤ t.size) (m1 : 0 ≤ m) (m2 : m ≤ 10000000000000000) (r : ByteArray) (hr : Hid (t.extract (1 + c) t.size = r)) (P : Int) (hP : Hid (10 ^ c = P)) (p1 : 1 ≤ P) (p2 : P ≤ 1000000000000000) (v1 : 0 ≤ n * P) (v2 : n * P ≤ 10000000000000000) (r0 : (r.toList == [37]) = false) (r1 : r.toList.isEmpty = true) (r2 : r.toList = []) (w : World) :
    Calls Try.prog 45 #[.string s] w fun e w' => e = .returned (.tuple #[.agg #[.int .i64 (mkN (n * P + m) P), .int .i64 (mkD (n * P + m) P)], .int .i64 (mkE (n * P + m) P)]) ∧ Below w.heap.size w w' := by
  have h0' : (0 : Int) < s.size := by omega
  have k0 : ((k : Int) == 0) = false := by simp; omega
  have t0' : (0 : Int) < t.size := by omega
  have t1' : (1 : Int) ≤ t.size := by omega
  have c0 : ((c : Int) == 0) = false := by simp; omega
  have hct' : (1 : Int) + c ≤ t.size := by omega
  have q0 : ((t.extract (1 + c) t.size).toList == [37]) = false := by rw [hr.out]; exact r0
  have q1 : (t.extract (1 + c) t.size).toList.isEmpty = true := by rw [hr.out]; exact r1
  have q2 : (t.extract (1 + c) t.size).toList = [] := by rw [hr.out]; exact r2
  by_cases hE : mkE (n * P + m) P = 0
  · rw [hE]
    have HB : Hid (decide (mkE (n * P + m) P = 0) = true) := Lib.hid (by simpa using hE)
    clear hE
    go_enter Try.func45, Try.ntmps45
    go_wp2_with fail
    refine (rscan_at s (by omega) n k h _).mono ?_
    rintro e w1 ⟨rfl, rfl⟩
    go_wp2_with fail
    go_quiet (fail)
    rw [ht.out]
    go_wp2_with fail
    rw [hv.out]
    refine (rscan_at v (by omega) m c h2 _).mono ?_
    rintro e w2 ⟨rfl, rfl⟩
    go_wp2_with fail
    refine (rpower_any c (by omega) _).mono ?_
    rintro e w3 ⟨rfl, rfl⟩
    rw [hP.out]
    go_wp2_with fail
    refine (rpower_any c (by omega) _).mono ?_
    rintro e w3 ⟨rfl, rfl⟩
    rw [hP.out]
    go_wp2_with fail
    refine (rmake_any (n * P + m) P (by omega) (by omega) (by omega) (by omega) (by omega) _).mono ?_
    rintro e w9 ⟨rfl, hbw9⟩
    obtain ⟨hchbw9, hfhbw9⟩ := bcell hbw9
    have hzhbw9 := hbw9.size
    try simp at hzhbw9
    have hzhbw90 : w.heap.size < w9.heap.size := by omega
    have hBhbw9 : Below w.heap.size w w9 := Below.trans (by (repeat' (first | (with_reducible exact Below.refl _ _) | (with_reducible assumption) | (with_reducible refine Below.alloc ?_ ?_ _) | (with_reducible refine below_drewN ?_ _) | (with_reducible refine Below.drew ?_) | (with_reducible refine Below.setCell ?_ ?_ _) | go_size))) (hbw9.mono (by go_size))
    have hWhbw9 : w.heap.size ≤ w9.heap.size := hBhbw9.size
    clear hbw9 hzhbw9
    rw [HB.out]
    go_wp2
    refine bodyPost_ret (v := .tuple #[.agg #[.int .i64 (mkN (n * P + m) P), .int .i64 (mkD (n * P + m) P)], .int .i64 0]) (by simp [results, Try.results45, go_sem, *]) rfl ⟨rfl, by (repeat' (first | (with_reducible exact Below.refl _ _) | (with_reducible assumption) | (with_reducible refine Below.alloc ?_ ?_ _) | (with_reducible refine below_drewN ?_ _) | (with_reducible refine Below.drew ?_) | (with_reducible refine Below.setCell ?_ ?_ _) | go_size))⟩
  · have hE3 : mkE (n * P + m) P = 20 := by rcases mkE_ne (n * P + m) P (by omega) with h | h <;> omega
    have HB : Hid (decide (mkE (n * P + m) P = 0) = false) := Lib.hid (by simpa using hE)
    obtain ⟨z1, z2⟩ := mk_bad hE
    rw [hE3, z1, z2]
    have Z1 := Lib.hid z1
    have Z2 := Lib.hid z2
    clear hE hE3 z1 z2
    go_enter Try.func45, Try.ntmps45
    go_wp2_with fail
    refine (rscan_at s (by omega) n k h _).mono ?_
    rintro e w1 ⟨rfl, rfl⟩
    go_wp2_with fail
    go_quiet (fail)
    rw [ht.out]
    go_wp2_with fail
    rw [hv.out]
    refine (rscan_at v (by omega) m c h2 _).mono ?_
    rintro e w2 ⟨rfl, rfl⟩
    go_wp2_with fail
    refine (rpower_any c (by omega) _).mono ?_
    rintro e w3 ⟨rfl, rfl⟩
    rw [hP.out]
    go_wp2_with fail
    refine (rpower_any c (by omega) _).mono ?_
    rintro e w3 ⟨rfl, rfl⟩
    rw [hP.out]
    go_wp2_with fail
    refine (rmake_any (n * P + m) P (by omega) (by omega) (by omega) (by omega) (by omega) _).mono ?_
    rintro e w9 ⟨rfl, hbw9⟩
    obtain ⟨hchbw9, hfhbw9⟩ := bcell hbw9
    have hzhbw9 := hbw9.size
    try simp at hzhbw9
    have hzhbw90 : w.heap.size < w9.heap.size := by omega
    have hBhbw9 : Below w.heap.size w w9 := Below.trans (by (repeat' (first | (with_reducible exact Below.refl _ _) | (with_reducible assumption) | (with_reducible refine Below.alloc ?_ ?_ _) | (with_reducible refine below_drewN ?_ _) | (with_reducible refine Below.drew ?_) | (with_reducible refine Below.setCell ?_ ?_ _) | go_size))) (hbw9.mono (by go_size))
    have hWhbw9 : w.heap.size ≤ w9.heap.size := hBhbw9.size
    clear hbw9 hzhbw9
    rw [HB.out, Z1.out, Z2.out]
    go_wp2
    refine bodyPost_ret (v := .tuple #[.agg #[.int .i64 0, .int .i64 0], .int .i64 20]) (by simp [results, Try.results45, go_sem, *]) rfl ⟨rfl, by (repeat' (first | (with_reducible exact Below.refl _ _) | (with_reducible assumption) | (with_reducible refine Below.alloc ?_ ?_ _) | (with_reducible refine below_drewN ?_ _) | (with_reducible refine Below.drew ?_) | (with_reducible refine Below.setCell ?_ ?_ _) | go_size))⟩


set_option maxRecDepth 100000 in
set_option maxHeartbeats 2000000 in
theorem rparse_pos_plain_bad (s : ByteArray) (hs : s.size ≤ 16) (h0 : 0 < s.size) (h45 : ((s[0].toNat : Int) == 45) = false) (n : Int) (k : Nat) (h : Hid (scanL 0 0 s.data.toList = (n, k))) (hk : 0 < (k : Int)) (hks : k ≤ s.size) (n1 : 0 ≤ n) (n2 : n ≤ 10000000000000000) (t : ByteArray) (ht : Hid (s.extract k s.size = t)) (hts : t.size ≤ 16) (t0 : 0 < t.size) (t47 : ((t[0].toNat : Int) == 47) = false) (t46 : ((t[0].toNat : Int) == 46) = false) (r0 : (t.toList == [37]) = false) (r1 : t.toList.isEmpty = false) (w : World) :
    Calls Try.prog 45 #[.string s] w fun e w' => e = .returned (.tuple #[.agg #[.int .i64 0, .int .i64 0], .int .i64 14]) ∧ Below w.heap.size w w' := by
  have h0' : (0 : Int) < s.size := by omega
  have k0 : ((k : Int) == 0) = false := by simp; omega
  have t0' : (0 : Int) < t.size := by omega
  have t1' : (1 : Int) ≤ t.size := by omega
  go_enter Try.func45, Try.ntmps45
  go_wp2_with fail
  refine (rscan_at s (by omega) n k h _).mono ?_
  rintro e w1 ⟨rfl, rfl⟩
  go_wp2_with fail
  go_quiet (fail)
  rw [ht.out]
  go_wp2_with fail
  refine bodyPost_ret (v := .tuple #[.agg #[.int .i64 0, .int .i64 0], .int .i64 14]) (by simp [results, Try.results45, go_sem, *]) rfl ⟨rfl, by (repeat' (first | (with_reducible exact Below.refl _ _) | (with_reducible assumption) | (with_reducible refine Below.alloc ?_ ?_ _) | (with_reducible refine below_drewN ?_ _) | (with_reducible refine Below.drew ?_) | (with_reducible refine Below.setCell ?_ ?_ _) | go_size))⟩


set_option maxRecDepth 100000 in
set_option maxHeartbeats 2000000 in
theorem rparse_pos_plain_pc (s : ByteArray) (hs : s.size ≤ 16) (h0 : 0 < s.size) (h45 : ((s[0].toNat : Int) == 45) = false) (n : Int) (k : Nat) (h : Hid (scanL 0 0 s.data.toList = (n, k))) (hk : 0 < (k : Int)) (hks : k ≤ s.size) (n1 : 0 ≤ n) (n2 : n ≤ 10000000000000000) (t : ByteArray) (ht : Hid (s.extract k s.size = t)) (hts : t.size ≤ 16) (t0 : 0 < t.size) (t47 : ((t[0].toNat : Int) == 47) = false) (t46 : ((t[0].toNat : Int) == 46) = false) (r0 : (t.toList == [37]) = true) (w : World) :
    Calls Try.prog 45 #[.string s] w fun e w' => e = .returned (.tuple #[.agg #[.int .i64 (mkN (n) 100), .int .i64 (mkD (n) 100)], .int .i64 (mkE (n) 100)]) ∧ Below w.heap.size w w' := by
  have h0' : (0 : Int) < s.size := by omega
  have k0 : ((k : Int) == 0) = false := by simp; omega
  have t0' : (0 : Int) < t.size := by omega
  have t1' : (1 : Int) ≤ t.size := by omega
  by_cases hE : mkE (n) 100 = 0
  · rw [hE]
    have HB : Hid (decide (mkE (n) 100 = 0) = true) := Lib.hid (by simpa using hE)
    clear hE
    go_enter Try.func45, Try.ntmps45
    go_wp2_with fail
    refine (rscan_at s (by omega) n k h _).mono ?_
    rintro e w1 ⟨rfl, rfl⟩
    go_wp2_with fail
    go_quiet (fail)
    rw [ht.out]
    go_wp2_with fail
    refine (rmake_any (n) 100 (by omega) (by omega) (by omega) (by omega) (by omega) _).mono ?_
    rintro e w9 ⟨rfl, hbw9⟩
    obtain ⟨hchbw9, hfhbw9⟩ := bcell hbw9
    have hzhbw9 := hbw9.size
    try simp at hzhbw9
    have hzhbw90 : w.heap.size < w9.heap.size := by omega
    have hBhbw9 : Below w.heap.size w w9 := Below.trans (by (repeat' (first | (with_reducible exact Below.refl _ _) | (with_reducible assumption) | (with_reducible refine Below.alloc ?_ ?_ _) | (with_reducible refine below_drewN ?_ _) | (with_reducible refine Below.drew ?_) | (with_reducible refine Below.setCell ?_ ?_ _) | go_size))) (hbw9.mono (by go_size))
    have hWhbw9 : w.heap.size ≤ w9.heap.size := hBhbw9.size
    clear hbw9 hzhbw9
    rw [HB.out]
    go_wp2
    refine bodyPost_ret (v := .tuple #[.agg #[.int .i64 (mkN (n) 100), .int .i64 (mkD (n) 100)], .int .i64 0]) (by simp [results, Try.results45, go_sem, *]) rfl ⟨rfl, by (repeat' (first | (with_reducible exact Below.refl _ _) | (with_reducible assumption) | (with_reducible refine Below.alloc ?_ ?_ _) | (with_reducible refine below_drewN ?_ _) | (with_reducible refine Below.drew ?_) | (with_reducible refine Below.setCell ?_ ?_ _) | go_size))⟩
  · have hE3 : mkE (n) 100 = 20 := by rcases mkE_ne (n) 100 (by omega) with h | h <;> omega
    have HB : Hid (decide (mkE (n) 100 = 0) = false) := Lib.hid (by simpa using hE)
    obtain ⟨z1, z2⟩ := mk_bad hE
    rw [hE3, z1, z2]
    have Z1 := Lib.hid z1
    have Z2 := Lib.hid z2
    clear hE hE3 z1 z2
    go_enter Try.func45, Try.ntmps45
    go_wp2_with fail
    refine (rscan_at s (by omega) n k h _).mono ?_
    rintro e w1 ⟨rfl, rfl⟩
    go_wp2_with fail
    go_quiet (fail)
    rw [ht.out]
    go_wp2_with fail
    refine (rmake_any (n) 100 (by omega) (by omega) (by omega) (by omega) (by omega) _).mono ?_
    rintro e w9 ⟨rfl, hbw9⟩
    obtain ⟨hchbw9, hfhbw9⟩ := bcell hbw9
    have hzhbw9 := hbw9.size
    try simp at hzhbw9
    have hzhbw90 : w.heap.size < w9.heap.size := by omega
    have hBhbw9 : Below w.heap.size w w9 := Below.trans (by (repeat' (first | (with_reducible exact Below.refl _ _) | (with_reducible assumption) | (with_reducible refine Below.alloc ?_ ?_ _) | (with_reducible refine below_drewN ?_ _) | (with_reducible refine Below.drew ?_) | (with_reducible refine Below.setCell ?_ ?_ _) | go_size))) (hbw9.mono (by go_size))
    have hWhbw9 : w.heap.size ≤ w9.heap.size := hBhbw9.size
    clear hbw9 hzhbw9
    rw [HB.out, Z1.out, Z2.out]
    go_wp2
    refine bodyPost_ret (v := .tuple #[.agg #[.int .i64 0, .int .i64 0], .int .i64 20]) (by simp [results, Try.results45, go_sem, *]) rfl ⟨rfl, by (repeat' (first | (with_reducible exact Below.refl _ _) | (with_reducible assumption) | (with_reducible refine Below.alloc ?_ ?_ _) | (with_reducible refine below_drewN ?_ _) | (with_reducible refine Below.drew ?_) | (with_reducible refine Below.setCell ?_ ?_ _) | go_size))⟩


set_option maxRecDepth 100000 in
set_option maxHeartbeats 2000000 in
theorem rparse_pos_plain (s : ByteArray) (hs : s.size ≤ 16) (h0 : 0 < s.size) (h45 : ((s[0].toNat : Int) == 45) = false) (n : Int) (k : Nat) (h : Hid (scanL 0 0 s.data.toList = (n, k))) (hk : 0 < (k : Int)) (hks : k ≤ s.size) (n1 : 0 ≤ n) (n2 : n ≤ 10000000000000000) (t : ByteArray) (ht : Hid (s.extract k s.size = t)) (hts : t.size ≤ 16) (t0 : ¬ 0 < t.size) (t0' : ¬ (0 : Int) < t.size) (r0 : (t.toList == [37]) = false) (r1 : t.toList.isEmpty = true) (r2 : t.toList = []) (w : World) :
    Calls Try.prog 45 #[.string s] w fun e w' => e = .returned (.tuple #[.agg #[.int .i64 (mkN (n) 1), .int .i64 (mkD (n) 1)], .int .i64 (mkE (n) 1)]) ∧ Below w.heap.size w w' := by
  have h0' : (0 : Int) < s.size := by omega
  have k0 : ((k : Int) == 0) = false := by simp; omega
  by_cases hE : mkE (n) 1 = 0
  · rw [hE]
    have HB : Hid (decide (mkE (n) 1 = 0) = true) := Lib.hid (by simpa using hE)
    clear hE
    go_enter Try.func45, Try.ntmps45
    go_wp2_with fail
    refine (rscan_at s (by omega) n k h _).mono ?_
    rintro e w1 ⟨rfl, rfl⟩
    go_wp2_with fail
    go_quiet (fail)
    rw [ht.out]
    go_wp2_with fail
    refine (rmake_any (n) 1 (by omega) (by omega) (by omega) (by omega) (by omega) _).mono ?_
    rintro e w9 ⟨rfl, hbw9⟩
    obtain ⟨hchbw9, hfhbw9⟩ := bcell hbw9
    have hzhbw9 := hbw9.size
    try simp at hzhbw9
    have hzhbw90 : w.heap.size < w9.heap.size := by omega
    have hBhbw9 : Below w.heap.size w w9 := Below.trans (by (repeat' (first | (with_reducible exact Below.refl _ _) | (with_reducible assumption) | (with_reducible refine Below.alloc ?_ ?_ _) | (with_reducible refine below_drewN ?_ _) | (with_reducible refine Below.drew ?_) | (with_reducible refine Below.setCell ?_ ?_ _) | go_size))) (hbw9.mono (by go_size))
    have hWhbw9 : w.heap.size ≤ w9.heap.size := hBhbw9.size
    clear hbw9 hzhbw9
    rw [HB.out]
    go_wp2
    refine bodyPost_ret (v := .tuple #[.agg #[.int .i64 (mkN (n) 1), .int .i64 (mkD (n) 1)], .int .i64 0]) (by simp [results, Try.results45, go_sem, *]) rfl ⟨rfl, by (repeat' (first | (with_reducible exact Below.refl _ _) | (with_reducible assumption) | (with_reducible refine Below.alloc ?_ ?_ _) | (with_reducible refine below_drewN ?_ _) | (with_reducible refine Below.drew ?_) | (with_reducible refine Below.setCell ?_ ?_ _) | go_size))⟩
  · have hE3 : mkE (n) 1 = 20 := by rcases mkE_ne (n) 1 (by omega) with h | h <;> omega
    have HB : Hid (decide (mkE (n) 1 = 0) = false) := Lib.hid (by simpa using hE)
    obtain ⟨z1, z2⟩ := mk_bad hE
    rw [hE3, z1, z2]
    have Z1 := Lib.hid z1
    have Z2 := Lib.hid z2
    clear hE hE3 z1 z2
    go_enter Try.func45, Try.ntmps45
    go_wp2_with fail
    refine (rscan_at s (by omega) n k h _).mono ?_
    rintro e w1 ⟨rfl, rfl⟩
    go_wp2_with fail
    go_quiet (fail)
    rw [ht.out]
    go_wp2_with fail
    refine (rmake_any (n) 1 (by omega) (by omega) (by omega) (by omega) (by omega) _).mono ?_
    rintro e w9 ⟨rfl, hbw9⟩
    obtain ⟨hchbw9, hfhbw9⟩ := bcell hbw9
    have hzhbw9 := hbw9.size
    try simp at hzhbw9
    have hzhbw90 : w.heap.size < w9.heap.size := by omega
    have hBhbw9 : Below w.heap.size w w9 := Below.trans (by (repeat' (first | (with_reducible exact Below.refl _ _) | (with_reducible assumption) | (with_reducible refine Below.alloc ?_ ?_ _) | (with_reducible refine below_drewN ?_ _) | (with_reducible refine Below.drew ?_) | (with_reducible refine Below.setCell ?_ ?_ _) | go_size))) (hbw9.mono (by go_size))
    have hWhbw9 : w.heap.size ≤ w9.heap.size := hBhbw9.size
    clear hbw9 hzhbw9
    rw [HB.out, Z1.out, Z2.out]
    go_wp2
    refine bodyPost_ret (v := .tuple #[.agg #[.int .i64 0, .int .i64 0], .int .i64 20]) (by simp [results, Try.results45, go_sem, *]) rfl ⟨rfl, by (repeat' (first | (with_reducible exact Below.refl _ _) | (with_reducible assumption) | (with_reducible refine Below.alloc ?_ ?_ _) | (with_reducible refine below_drewN ?_ _) | (with_reducible refine Below.drew ?_) | (with_reducible refine Below.setCell ?_ ?_ _) | go_size))⟩


end Go.Proofs.Ytmhheepnojbgoaa
