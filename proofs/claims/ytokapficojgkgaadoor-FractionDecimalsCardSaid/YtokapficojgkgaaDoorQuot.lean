
/- What the strings of fractions denote, and what the program's reader makes of them. -/
import Derived.Test.YtokapficojgkgaaDoorStr
namespace Go.Proofs.YtokapficojgkgaaDoor
open Go.ChangeShapes Go.WideShapes Go.ChangeAt Go.RowKit Pl

theorem scan_bd : ∀ (l : List UInt8) (n : Int) (k : Nat), 0 ≤ n → n < 10 ^ k → k ≤ (scanL n k l).2 ∧ (scanL n k l).2 ≤ k + l.length ∧ 0 ≤ (scanL n k l).1 ∧ (scanL n k l).1 < 10 ^ (scanL n k l).2
  | [], n, k, h0, h1 => ⟨Nat.le_refl _, by simp [scanL], h0, h1⟩
  | c :: r, n, k, h0, h1 => by
    unfold scanL
    split
    · rename_i hc
      have h2 : 10 * n + ((c.toNat : Int) - 48) < 10 ^ (k + 1) := by rw [Int.pow_succ]; omega
      have := scan_bd r (10 * n + ((c.toNat : Int) - 48)) (k + 1) (by omega) h2
      simp only [List.length_cons]
      omega
    · exact ⟨Nat.le_refl _, by simp, h0, h1⟩

/-- What a string without a sign denotes. -/
def quotL (l : List UInt8) : Option (Int × Int) :=
  if (scanL 0 0 l).2 = 0 then none else
  if (l.drop (scanL 0 0 l).2).head? = some 47 then
    if (scanL 0 0 ((l.drop (scanL 0 0 l).2).drop 1)).2 = 0 then none
    else if (scanL 0 0 ((l.drop (scanL 0 0 l).2).drop 1)).2 = ((l.drop (scanL 0 0 l).2).drop 1).length then some ((scanL 0 0 l).1, (scanL 0 0 ((l.drop (scanL 0 0 l).2).drop 1)).1) else none
  else if (l.drop (scanL 0 0 l).2).head? = some 46 then
    if (scanL 0 0 ((l.drop (scanL 0 0 l).2).drop 1)).2 = 0 then none
    else
      (if ((l.drop (scanL 0 0 l).2).drop 1).drop (scanL 0 0 ((l.drop (scanL 0 0 l).2).drop 1)).2 = [37] then some ((scanL 0 0 l).1 * 10 ^ (scanL 0 0 ((l.drop (scanL 0 0 l).2).drop 1)).2 + (scanL 0 0 ((l.drop (scanL 0 0 l).2).drop 1)).1, 100 * 10 ^ (scanL 0 0 ((l.drop (scanL 0 0 l).2).drop 1)).2)
       else if ((l.drop (scanL 0 0 l).2).drop 1).drop (scanL 0 0 ((l.drop (scanL 0 0 l).2).drop 1)).2 = [] then some ((scanL 0 0 l).1 * 10 ^ (scanL 0 0 ((l.drop (scanL 0 0 l).2).drop 1)).2 + (scanL 0 0 ((l.drop (scanL 0 0 l).2).drop 1)).1, 10 ^ (scanL 0 0 ((l.drop (scanL 0 0 l).2).drop 1)).2) else none)
  else if l.drop (scanL 0 0 l).2 = [37] then some ((scanL 0 0 l).1, 100) else if l.drop (scanL 0 0 l).2 = [] then some ((scanL 0 0 l).1, 1) else none

/-- One stage of the reader: what a cut of the string is. -/
theorem ext_drop (s : ByteArray) (k : Nat) : (s.extract k s.size).data.toList = s.data.toList.drop k := by
  rw [Lib.extract_data]; exact List.take_of_length_le (by simp)
theorem ext_size (s : ByteArray) (k : Nat) : (s.extract k s.size).size = s.size - k := by
  rw [ByteArray.size_extract]; omega

theorem scan_at (s : ByteArray) (hs : s.size ≤ 17) (n : Int) (k : Nat) (h : scanL 0 0 s.data.toList = (n, k)) (w : World) :
    Calls Tryd.prog 33 #[.string s] w fun e w' => e = .returned (.tuple #[.int .i64 n, .int .i64 k]) ∧ Below w.heap.size w w' := by
  have := scanDigits_any s hs w
  rw [h] at this
  exact this

theorem head_ne (s : ByteArray) (c : UInt8) (h : s.data.toList.head? ≠ some c) : (s.data.toList.head? == some c) = false := by
  cases hh : (s.data.toList.head? == some c)
  · rfl
  · exact absurd (eq_of_beq hh) h
theorem head_size (s : ByteArray) (c : UInt8) (h : s.data.toList.head? = some c) : 1 ≤ s.size := by
  have hl : s.data.toList.length = s.size := by simp
  cases hd : s.data.toList with
  | nil => rw [hd] at h; simp at h
  | cons a r => rw [hd] at hl; simp at hl; omega

set_option maxHeartbeats 1000000 in
/-- No digit at the beginning. -/
theorem quot_none (s : ByteArray) (hs : s.size ≤ 16) (n : Int) (h : Hid (scanL 0 0 s.data.toList = (n, 0))) (w : World) :
    Calls Tryd.prog 20 #[.string s] w fun e w' => e = .returned (.tuple #[.int .i64 0, .int .i64 0, .bool false]) ∧ Below w.heap.size w w' := by
  go_enter Tryd.func20, Tryd.ntmps20
  go_wp2_with fail
  refine (scan_at s (by omega) n 0 h.out _).mono ?_
  rintro e w1 ⟨rfl, hb1⟩
  go_wp2_with fail
  go_ret3
  exact ⟨rfl, hb1⟩

set_option maxHeartbeats 1000000 in
/-- A slash behind the digits. -/
theorem quot_slash (s t u : ByteArray) (hs : s.size ≤ 16) (n m : Int) (k c : Nat) (h : Hid (scanL 0 0 s.data.toList = (n, k))) (hk : 0 < (k : Int)) (hks : k ≤ s.size) (ht : Hid (s.extract k s.size = t)) (hh : Hid (t.data.toList.head? = some 47)) (hts : t.size ≤ 16)
    (hu : Hid (t.extract 1 t.size = u)) (hus : u.size ≤ 16) (h2 : Hid (scanL 0 0 u.data.toList = (m, c))) (ok : Bool) (hok : ok = (decide (0 < c) && decide (c = u.size))) (w : World) :
    Calls Tryd.prog 20 #[.string s] w fun e w' => e = .returned (.tuple #[.int .i64 n, .int .i64 m, .bool ok]) ∧ Below w.heap.size w w' := by
  have k0 : ((k : Int) == 0) = false := by simp; omega
  by_cases hc : 0 < c
  · have c1 : decide (0 < (c : Int)) = true := by simp; omega
    by_cases hcu : c = u.size
    · have c2 : ((c : Int) == (u.size : Int)) = true := by simp [hcu]
      obtain rfl : ok = true := by rw [hok, decide_eq_true hc, decide_eq_true hcu]; rfl
      have c3 : decide (0 < (u.size : Int)) = true := by simp; omega
      have c4 : 0 < u.size := by omega
      have hcu := Lib.hid hcu
      clear hok
      go_enter Tryd.func20, Tryd.ntmps20
      go_wp2_with fail
      refine (scan_at s (by omega) n k h.out _).mono ?_
      rintro e w1 ⟨rfl, hb1⟩
      go_wp2_with fail
      rw [ht.out]
      refine (cut_yes t 47 (head_size t 47 hh.out) (by rw [hh.out]; rfl) (by omega) _).mono ?_
      rintro e w2 ⟨rfl, rfl⟩
      rw [hu.out]
      go_wp2_with fail
      refine (scan_at u (by omega) m c h2.out _).mono ?_
      rintro e w3 ⟨rfl, hb3⟩
      go_wp2_with fail
      go_ret3
      exact ⟨rfl, hb1.trans (hb3.mono hb1.size)⟩
    · have c2 : ((c : Int) == (u.size : Int)) = false := by simp; omega
      obtain rfl : ok = false := by rw [hok, decide_eq_true hc, decide_eq_false hcu]; rfl
      clear hok hcu
      go_enter Tryd.func20, Tryd.ntmps20
      go_wp2_with fail
      refine (scan_at s (by omega) n k h.out _).mono ?_
      rintro e w1 ⟨rfl, hb1⟩
      go_wp2_with fail
      rw [ht.out]
      refine (cut_yes t 47 (head_size t 47 hh.out) (by rw [hh.out]; rfl) (by omega) _).mono ?_
      rintro e w2 ⟨rfl, rfl⟩
      rw [hu.out]
      go_wp2_with fail
      refine (scan_at u (by omega) m c h2.out _).mono ?_
      rintro e w3 ⟨rfl, hb3⟩
      go_wp2_with fail
      go_ret3
      exact ⟨rfl, hb1.trans (hb3.mono hb1.size)⟩
  · have c1 : decide (0 < (c : Int)) = false := by simp; omega
    obtain rfl : ok = false := by rw [hok, decide_eq_false hc]; rfl
    obtain rfl : c = 0 := by omega
    clear hok hc c1
    go_enter Tryd.func20, Tryd.ntmps20
    go_wp2_with fail
    refine (scan_at s (by omega) n k h.out _).mono ?_
    rintro e w1 ⟨rfl, hb1⟩
    go_wp2_with fail
    rw [ht.out]
    refine (cut_yes t 47 (head_size t 47 hh.out) (by rw [hh.out]; rfl) (by omega) _).mono ?_
    rintro e w2 ⟨rfl, rfl⟩
    rw [hu.out]
    go_wp2_with fail
    refine (scan_at u (by omega) m 0 h2.out _).mono ?_
    rintro e w3 ⟨rfl, hb3⟩
    go_wp2_with fail
    go_ret3
    exact ⟨rfl, hb1.trans (hb3.mono hb1.size)⟩

set_option maxHeartbeats 1000000 in
/-- A point behind the digits, and no digit behind it. -/
theorem quot_point0 (s t u : ByteArray) (hs : s.size ≤ 16) (n m : Int) (k : Nat) (h : Hid (scanL 0 0 s.data.toList = (n, k))) (hk : 0 < (k : Int)) (hks : k ≤ s.size) (ht : Hid (s.extract k s.size = t)) (hh : Hid (t.data.toList.head? = some 46)) (hts : t.size ≤ 16)
    (hu : Hid (t.extract 1 t.size = u)) (hus : u.size ≤ 16) (h2 : Hid (scanL 0 0 u.data.toList = (m, 0))) (w : World) :
    Calls Tryd.prog 20 #[.string s] w fun e w' => e = .returned (.tuple #[.int .i64 0, .int .i64 0, .bool false]) ∧ Below w.heap.size w w' := by
  have k0 : ((k : Int) == 0) = false := by simp; omega
  go_enter Tryd.func20, Tryd.ntmps20
  go_wp2_with fail
  refine (scan_at s (by omega) n k h.out _).mono ?_
  rintro e w1 ⟨rfl, hb1⟩
  go_wp2_with fail
  rw [ht.out]
  refine (cut_no t 47 (head_ne t 47 (by rw [hh.out]; decide)) (by omega) _).mono ?_
  rintro e w2 ⟨rfl, rfl⟩
  go_wp2_with fail
  refine (cut_yes t 46 (head_size t 46 hh.out) (by rw [hh.out]; rfl) (by omega) _).mono ?_
  rintro e w2 ⟨rfl, rfl⟩
  rw [hu.out]
  go_wp2_with fail
  refine (scan_at u (by omega) m 0 h2.out _).mono ?_
  rintro e w3 ⟨rfl, hb3⟩
  go_wp2_with fail
  go_ret3
  exact ⟨rfl, hb1.trans (hb3.mono hb1.size)⟩

set_option maxHeartbeats 1000000 in
/-- A point behind the digits, and digits behind it. -/
theorem quot_point (s t u r : ByteArray) (hs : s.size ≤ 16) (n m P : Int) (k c : Nat) (h : Hid (scanL 0 0 s.data.toList = (n, k))) (hk : 0 < (k : Int)) (hks : k ≤ s.size) (ht : Hid (s.extract k s.size = t)) (hh : Hid (t.data.toList.head? = some 46)) (hts : t.size ≤ 16)
    (hu : Hid (t.extract 1 t.size = u)) (hus : u.size ≤ 16) (h2 : Hid (scanL 0 0 u.data.toList = (m, c))) (hc : 0 < (c : Int)) (hcu : c ≤ u.size) (hP : Hid (10 ^ c = P)) (p1 : 0 ≤ P) (p2 : P ≤ 10000000000000000)
    (v1 : 0 ≤ n * P) (v2 : n * P ≤ 10000000000000000) (v3 : 0 ≤ m) (v4 : m ≤ 10000000000000000) (hr : Hid (u.extract c u.size = r)) (D : Int) (ok : Bool) (hD : D = if r.data.toList = [37] then 100 * P else P) (hok : ok = (decide (r.data.toList = [37]) || decide (r.data.toList = []))) (w : World) :
    Calls Tryd.prog 20 #[.string s] w fun e w' => e = .returned (.tuple #[.int .i64 (n * P + m), .int .i64 D, .bool ok]) ∧ Below w.heap.size w w' := by
  have k0 : ((k : Int) == 0) = false := by simp; omega
  have c0 : ((c : Int) == 0) = false := by simp; omega
  by_cases hr1 : r.data.toList = [37]
  · have hr2 : ((u.extract c u.size).toList == [37]) = true := by rw [hr.out, ByteArray.toList_eq, hr1]; rfl
    obtain rfl : ok = true := by rw [hok, decide_eq_true hr1]; rfl
    rw [if_pos hr1] at hD
    subst hD
    clear hr1 hok
    go_enter Tryd.func20, Tryd.ntmps20
    go_wp2_with fail
    refine (scan_at s (by omega) n k h.out _).mono ?_
    rintro e w1 ⟨rfl, hb1⟩
    go_wp2_with fail
    rw [ht.out]
    refine (cut_no t 47 (head_ne t 47 (by rw [hh.out]; decide)) (by omega) _).mono ?_
    rintro e w2 ⟨rfl, rfl⟩
    go_wp2_with fail
    refine (cut_yes t 46 (head_size t 46 hh.out) (by rw [hh.out]; rfl) (by omega) _).mono ?_
    rintro e w2 ⟨rfl, rfl⟩
    rw [hu.out]
    go_wp2_with fail
    refine (scan_at u (by omega) m c h2.out _).mono ?_
    rintro e w3 ⟨rfl, hb3⟩
    go_wp2_with fail
    refine (power_any c (by omega) _).mono ?_
    rintro e w4 ⟨rfl, rfl⟩
    rw [hP.out]
    go_wp2_with fail
    go_ret3
    exact ⟨rfl, hb1.trans (hb3.mono hb1.size)⟩
  · have hr2 : ((u.extract c u.size).toList == [37]) = false := by rw [hr.out, ByteArray.toList_eq]; simpa using hr1
    rw [if_neg hr1] at hD
    subst hD
    by_cases hr3 : r.data.toList = []
    · have hr4 : (u.extract c u.size).toList.isEmpty = true := by rw [hr.out, ByteArray.toList_eq, hr3]; rfl
      have hr5 : (u.extract c u.size).toList = [] := by rw [hr.out, ByteArray.toList_eq, hr3]
      obtain rfl : ok = true := by rw [hok, decide_eq_true hr3, Bool.or_true]
      clear hr1 hok hr3
      go_enter Tryd.func20, Tryd.ntmps20
      go_wp2_with fail
      refine (scan_at s (by omega) n k h.out _).mono ?_
      rintro e w1 ⟨rfl, hb1⟩
      go_wp2_with fail
      rw [ht.out]
      refine (cut_no t 47 (head_ne t 47 (by rw [hh.out]; decide)) (by omega) _).mono ?_
      rintro e w2 ⟨rfl, rfl⟩
      go_wp2_with fail
      refine (cut_yes t 46 (head_size t 46 hh.out) (by rw [hh.out]; rfl) (by omega) _).mono ?_
      rintro e w2 ⟨rfl, rfl⟩
      rw [hu.out]
      go_wp2_with fail
      refine (scan_at u (by omega) m c h2.out _).mono ?_
      rintro e w3 ⟨rfl, hb3⟩
      go_wp2_with fail
      refine (power_any c (by omega) _).mono ?_
      rintro e w4 ⟨rfl, rfl⟩
      rw [hP.out]
      go_wp2_with fail
      go_ret3
      exact ⟨rfl, hb1.trans (hb3.mono hb1.size)⟩
    · have hr4 : (u.extract c u.size).toList.isEmpty = false := by rw [hr.out, ByteArray.toList_eq]; simpa using hr3
      obtain rfl : ok = false := by rw [hok, decide_eq_false hr1, decide_eq_false hr3]; rfl
      clear hr1 hok hr3
      go_enter Tryd.func20, Tryd.ntmps20
      go_wp2_with fail
      refine (scan_at s (by omega) n k h.out _).mono ?_
      rintro e w1 ⟨rfl, hb1⟩
      go_wp2_with fail
      rw [ht.out]
      refine (cut_no t 47 (head_ne t 47 (by rw [hh.out]; decide)) (by omega) _).mono ?_
      rintro e w2 ⟨rfl, rfl⟩
      go_wp2_with fail
      refine (cut_yes t 46 (head_size t 46 hh.out) (by rw [hh.out]; rfl) (by omega) _).mono ?_
      rintro e w2 ⟨rfl, rfl⟩
      rw [hu.out]
      go_wp2_with fail
      refine (scan_at u (by omega) m c h2.out _).mono ?_
      rintro e w3 ⟨rfl, hb3⟩
      go_wp2_with fail
      refine (power_any c (by omega) _).mono ?_
      rintro e w4 ⟨rfl, rfl⟩
      rw [hP.out]
      go_wp2_with fail
      go_ret3
      exact ⟨rfl, hb1.trans (hb3.mono hb1.size)⟩

set_option maxHeartbeats 1000000 in
/-- Neither a slash nor a point behind the digits. -/
theorem quot_plain (s t : ByteArray) (hs : s.size ≤ 16) (n : Int) (k : Nat) (h : Hid (scanL 0 0 s.data.toList = (n, k))) (hk : 0 < (k : Int)) (hks : k ≤ s.size) (ht : Hid (s.extract k s.size = t)) (hh : Hid (t.data.toList.head? ≠ some 47)) (hh2 : Hid (t.data.toList.head? ≠ some 46)) (hts : t.size ≤ 16) (D : Int) (ok : Bool) (hD : D = if t.data.toList = [37] then 100 else 1) (hok : ok = (decide (t.data.toList = [37]) || decide (t.data.toList = []))) (w : World) :
    Calls Tryd.prog 20 #[.string s] w fun e w' => e = .returned (.tuple #[.int .i64 n, .int .i64 D, .bool ok]) ∧ Below w.heap.size w w' := by
  have k0 : ((k : Int) == 0) = false := by simp; omega
  by_cases hr1 : t.data.toList = [37]
  · have hr2 : (t.toList == [37]) = true := by rw [ByteArray.toList_eq, hr1]; rfl
    obtain rfl : ok = true := by rw [hok, decide_eq_true hr1]; rfl
    rw [if_pos hr1] at hD
    subst hD
    clear hr1 hok
    go_enter Tryd.func20, Tryd.ntmps20
    go_wp2_with fail
    refine (scan_at s (by omega) n k h.out _).mono ?_
    rintro e w1 ⟨rfl, hb1⟩
    go_wp2_with fail
    rw [ht.out]
    refine (cut_no t 47 (head_ne t 47 hh.out) (by omega) _).mono ?_
    rintro e w2 ⟨rfl, rfl⟩
    go_wp2_with fail
    refine (cut_no t 46 (head_ne t 46 hh2.out) (by omega) _).mono ?_
    rintro e w2 ⟨rfl, rfl⟩
    go_wp2_with fail
    go_ret3
    exact ⟨rfl, hb1⟩
  · have hr2 : (t.toList == [37]) = false := by rw [ByteArray.toList_eq]; simpa using hr1
    rw [if_neg hr1] at hD
    subst hD
    by_cases hr3 : t.data.toList = []
    · have hr4 : t.toList.isEmpty = true := by rw [ByteArray.toList_eq, hr3]; rfl
      have hr5 : t.toList = [] := by rw [ByteArray.toList_eq, hr3]
      obtain rfl : ok = true := by rw [hok, decide_eq_true hr3, Bool.or_true]
      clear hr1 hok hr3
      go_enter Tryd.func20, Tryd.ntmps20
      go_wp2_with fail
      refine (scan_at s (by omega) n k h.out _).mono ?_
      rintro e w1 ⟨rfl, hb1⟩
      go_wp2_with fail
      rw [ht.out]
      refine (cut_no t 47 (head_ne t 47 hh.out) (by omega) _).mono ?_
      rintro e w2 ⟨rfl, rfl⟩
      go_wp2_with fail
      refine (cut_no t 46 (head_ne t 46 hh2.out) (by omega) _).mono ?_
      rintro e w2 ⟨rfl, rfl⟩
      go_wp2_with fail
      go_ret3
      exact ⟨rfl, hb1⟩
    · have hr4 : t.toList.isEmpty = false := by rw [ByteArray.toList_eq]; simpa using hr3
      obtain rfl : ok = false := by rw [hok, decide_eq_false hr1, decide_eq_false hr3]; rfl
      clear hr1 hok hr3
      go_enter Tryd.func20, Tryd.ntmps20
      go_wp2_with fail
      refine (scan_at s (by omega) n k h.out _).mono ?_
      rintro e w1 ⟨rfl, hb1⟩
      go_wp2_with fail
      rw [ht.out]
      refine (cut_no t 47 (head_ne t 47 hh.out) (by omega) _).mono ?_
      rintro e w2 ⟨rfl, rfl⟩
      go_wp2_with fail
      refine (cut_no t 46 (head_ne t 46 hh2.out) (by omega) _).mono ?_
      rintro e w2 ⟨rfl, rfl⟩
      go_wp2_with fail
      go_ret3
      exact ⟨rfl, hb1⟩

end Go.Proofs.YtokapficojgkgaaDoor
