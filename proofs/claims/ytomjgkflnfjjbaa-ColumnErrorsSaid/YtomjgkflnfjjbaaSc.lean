/- scanNumber and signed. -/
import Derived.Test.YtomjgkflnfjjbaaWb
import Derived.Laws.RangeString
namespace Go.Proofs.Ytomjgkflnfjjbaa
open Go.ChangeShapes Go.WideShapes Go.ChangeAt Go.RowKit En

/-- The int with a magnitude and a sign, and the error. -/
def sg (m : Nat) (neg : Bool) : Int × Int :=
  if neg = true ∧ m ≤ 9223372036854775808 then (-(m : Int), 0) else if neg = false ∧ m ≤ 9223372036854775807 then ((m : Int), 0) else (0, 3)
theorem signed_any (m : Nat) (neg : Bool) (hm : m < 18446744073709551616) (w : World) :
    Calls Try.prog 80 #[.int .u64 (m : Int), .bool neg] w fun e w' => e = .returned (.tuple #[.int .i64 (sg m neg).1, .int .i64 (sg m neg).2]) ∧ w' = w := by
  cases neg with
  | true =>
    by_cases h : m ≤ 9223372036854775808
    · have e : sg m true = (-(m : Int), 0) := by unfold sg; rw [if_pos ⟨rfl, h⟩]
      have e1 : IntKind.i64.wrap (IntKind.u64.wrap (-(m : Int))) = -(m : Int) := by simp only [IntKind.wrap_u64, IntKind.wrap_i64]; omega
      have h' : (m : Int) ≤ 9223372036854775808 := by omega
      rw [e]
      go_enter Try.func80, Try.ntmps80
      go_wp2
      go_ret2
      exact ⟨rfl, rfl⟩
    · have e : sg m true = (0, 3) := by unfold sg; rw [if_neg (fun h2 => h h2.2), if_neg (fun h2 => nomatch h2.1)]
      have h' : ¬ (m : Int) ≤ 9223372036854775808 := by omega
      rw [e]
      go_enter Try.func80, Try.ntmps80
      go_wp2
      go_ret2
      exact ⟨rfl, rfl⟩
  | false =>
    by_cases h : m ≤ 9223372036854775807
    · have e : sg m false = ((m : Int), 0) := by unfold sg; rw [if_neg (fun h2 => nomatch h2.1), if_pos ⟨rfl, h⟩]
      have e1 : IntKind.i64.wrap (m : Int) = (m : Int) := by simp only [IntKind.wrap_i64]; omega
      have h' : (m : Int) ≤ 9223372036854775807 := by omega
      rw [e]
      go_enter Try.func80, Try.ntmps80
      go_wp2
      go_ret2
      exact ⟨rfl, rfl⟩
    · have e : sg m false = (0, 3) := by unfold sg; rw [if_neg (fun h2 => nomatch h2.1), if_neg (fun h2 => h h2.2)]
      have h' : ¬ (m : Int) ≤ 9223372036854775807 := by omega
      rw [e]
      go_enter Try.func80, Try.ntmps80
      go_wp2
      go_ret2
      exact ⟨rfl, rfl⟩

def magL (mask : UInt8) (l : List UInt8) : Nat := l.foldl (fun m b => m * 256 + (b ^^^ mask).toNat) 0
def szB (b : UInt8) : Nat := if b.toNat < 128 then 128 - b.toNat else b.toNat - 128
def maskB (b : UInt8) : UInt8 := if b.toNat < 128 then 255 else 0
/-- The number that the bytes begin with, the number of its bytes, and the error. -/
def scan : List UInt8 → Int × Int × Int
  | [] => (0, 0, 4)
  | b :: t =>
    if 8 < szB b then (0, 0, 3) else if t.length < szB b then (0, 0, 4) else if 0 < szB b ∧ t.head? = some (maskB b) then (0, 0, 3) else
    if (sg (magL (maskB b) (t.take (szB b))) (decide (b.toNat < 128))).2 = 0 then ((sg (magL (maskB b) (t.take (szB b))) (decide (b.toNat < 128))).1, 1 + (szB b : Int), 0) else (0, 0, (sg (magL (maskB b) (t.take (szB b))) (decide (b.toNat < 128))).2)

theorem cons_at (s : ByteArray) (h : 0 < s.size) : s.data.toList = s[0] :: s.data.toList.drop 1 := by
  have := List.drop_eq_getElem_cons (l := s.data.toList) (i := 0) (by simpa using h)
  rw [List.drop_zero] at this
  exact this
theorem scan_cons (b : UInt8) (t : List UInt8) : scan (b :: t) = if 8 < szB b then (0, 0, 3) else if t.length < szB b then (0, 0, 4) else if 0 < szB b ∧ t.head? = some (maskB b) then (0, 0, 3) else
    if (sg (magL (maskB b) (t.take (szB b))) (decide (b.toNat < 128))).2 = 0 then ((sg (magL (maskB b) (t.take (szB b))) (decide (b.toNat < 128))).1, 1 + (szB b : Int), 0) else (0, 0, (sg (magL (maskB b) (t.take (szB b))) (decide (b.toNat < 128))).2) := rfl
theorem magL_lt (mask : UInt8) (l : List UInt8) : magL mask l < 256 ^ l.length := by
  have gen : ∀ (l : List UInt8) (m n : Nat), m < 256 ^ n → l.foldl (fun m b => m * 256 + (b ^^^ mask).toNat) m < 256 ^ (n + l.length) := by
    intro l
    induction l with
    | nil => intro m n h; simpa using h
    | cons b l ih =>
      intro m n h
      have := ih (m * 256 + (b ^^^ mask).toNat) (n + 1) (by have := (b ^^^ mask).toNat_lt; rw [Nat.pow_succ]; omega)
      rw [List.foldl_cons, List.length_cons, show n + (l.length + 1) = n + 1 + l.length by omega]
      exact this
  have := gen l 0 0 (by omega)
  rwa [Nat.zero_add] at this
theorem magL_snoc (mask : UInt8) (l : List UInt8) (b : UInt8) : magL mask (l ++ [b]) = magL mask l * 256 + (b ^^^ mask).toNat := by unfold magL; rw [List.foldl_append]; rfl
theorem or_step (M : Nat) (c m : UInt8) (hM : M < 72057594037927936) : bits .or .u64 (IntKind.u64.wrap ((M : Int) * 256)) (IntKind.u64.wrap (bits .xor .u8 (c.toNat : Int) (m.toNat : Int))) = ((M * 256 + (c ^^^ m).toNat : Nat) : Int) := by
  have hx : bits .xor .u8 (c.toNat : Int) (m.toNat : Int) = ((c ^^^ m).toNat : Int) := by
    rw [u8_xor_nat c.toNat m.toNat c.toNat_lt m.toNat_lt, UInt8.toNat_xor]
  have hl := (c ^^^ m).toNat_lt
  have h1 : IntKind.u64.wrap ((M : Int) * 256) = ((M * 256 : Nat) : Int) := by simp only [IntKind.wrap_u64]; omega
  have h2 : IntKind.u64.wrap ((c ^^^ m).toNat : Int) = ((c ^^^ m).toNat : Int) := by simp only [IntKind.wrap_u64]; omega
  rw [hx, h1, h2, u64_or_nat _ _ (by omega) (by omega)]
  have := Nat.two_pow_add_eq_or_of_lt (i := 8) (b := (c ^^^ m).toNat) (by omega) M
  rw [show 2 ^ 8 * M = M * 256 by omega] at this
  rw [← this]
theorem scan_big (s : ByteArray) (h : 0 < s.size) (h1 : 8 < szB s[0]) : scan s.data.toList = (0, 0, 3) := by
  rw [cons_at s h, scan_cons, if_pos h1]
theorem scan_short (s : ByteArray) (h : 0 < s.size) (h1 : ¬ 8 < szB s[0]) (h2 : s.size - 1 < szB s[0]) : scan s.data.toList = (0, 0, 4) := by
  rw [cons_at s h, scan_cons, if_neg h1, if_pos (by simpa using h2)]
theorem head_at (s : ByteArray) (h : 1 < s.size) : (s.data.toList.drop 1).head? = some s[1] := by
  rw [List.head?_drop]
  have h' : 1 < s.data.toList.length := by simpa using h
  rw [List.getElem?_eq_getElem h']; rfl
theorem scan_mask (s : ByteArray) (h : 1 < s.size) (h1 : ¬ 8 < szB s[0]) (h2 : ¬ s.size - 1 < szB s[0]) (h3 : 0 < szB s[0]) (h4 : s[1] = maskB s[0]) : scan s.data.toList = (0, 0, 3) := by
  rw [cons_at s (by omega), scan_cons, if_neg h1, if_neg (by simpa using h2), if_pos ⟨h3, by rw [head_at s h, h4]⟩]
theorem scan_rest (s : ByteArray) (h : 0 < s.size) (h1 : ¬ 8 < szB s[0]) (h2 : ¬ s.size - 1 < szB s[0]) (h3 : ¬ (0 < szB s[0] ∧ ∃ h : 1 < s.size, s[1] = maskB s[0])) (r : Int × Int) (hr : sg (magL (maskB s[0]) ((s.data.toList.drop 1).take (szB s[0]))) (decide (s[0].toNat < 128)) = r) :
    scan s.data.toList = if r.2 = 0 then (r.1, (1 : Int) + (szB s[0] : Int), 0) else (0, 0, r.2) := by
  have hh : ¬ (0 < szB s[0] ∧ (s.data.toList.drop 1).head? = some (maskB s[0])) := by
    rintro ⟨h4, h5⟩
    have h6 : 1 < s.size := by omega
    rw [head_at s h6] at h5
    exact h3 ⟨h4, h6, by simpa using h5⟩
  rw [cons_at s h, scan_cons, if_neg h1, if_neg (by simpa using h2), if_neg hh, hr]

set_option maxRecDepth 100000 in
set_option maxHeartbeats 1000000 in
theorem scan_neg (s : ByteArray) (hs0 : 0 < s.size) (hs : s.size ≤ 1000000) (hn : s[0].toNat < 128) (w : World) :
    Calls Try.prog 67 #[.string s] w fun e w' => e = .returned (.tuple #[.int .i64 (scan s.data.toList).1, .int .i64 (scan s.data.toList).2.1, .int .i64 (scan s.data.toList).2.2]) ∧ w' = w := by
  have hE : s.toList.isEmpty = false := by
    rw [ByteArray.toList_eq]
    cases hl : s.data.toList with
    | nil =>
      have h : s.data.toList.length = s.size := by simp
      rw [hl] at h
      simp at h; omega
    | cons _ _ => rfl
  have hneg : (s[0].toNat : Int) - (128 : Int) < 0 := by omega
  have ek : szB s[0] = 128 - s[0].toNat := by unfold szB; rw [if_pos hn]
  have em : maskB s[0] = 255 := by unfold maskB; rw [if_pos hn]
  have hw : wrap64 (-((s[0].toNat : Int) - (128 : Int))) = (128 : Int) - (s[0].toNat : Int) := by unfold wrap64; omega
  by_cases h1 : 8 < szB s[0]
  · have e := scan_big s hs0 h1
    have h1' : (8 : Int) < (128 : Int) - (s[0].toNat : Int) := by omega
    rw [e]
    go_enter Try.func67, Try.ntmps67
    go_wp2_with fail
    go_ret3
    exact ⟨rfl, rfl⟩
  · by_cases h2 : s.size - 1 < szB s[0]
    · have e := scan_short s hs0 h1 h2
      have h1' : ¬ (8 : Int) < (128 : Int) - (s[0].toNat : Int) := by omega
      have h2' : (s.size : Int) - (1 : Int) < (128 : Int) - (s[0].toNat : Int) := by omega
      rw [e]
      go_enter Try.func67, Try.ntmps67
      go_wp2_with fail
      go_ret3
      exact ⟨rfl, rfl⟩
    · have hs1 : 1 < s.size := by omega
      by_cases h3 : s[1] = maskB s[0]
      · have e := scan_mask s hs1 h1 h2 (by omega) h3
        have h1' : ¬ (8 : Int) < (128 : Int) - (s[0].toNat : Int) := by omega
        have h2' : ¬ (s.size : Int) - (1 : Int) < (128 : Int) - (s[0].toNat : Int) := by omega
        have h3' : (0 : Int) < (128 : Int) - (s[0].toNat : Int) := by omega
        have h4' : s[1].toNat = 255 := by rw [h3, em]; rfl
        rw [e]
        go_enter Try.func67, Try.ntmps67
        go_wp2_with fail
        go_ret3
        exact ⟨rfl, rfl⟩
      · have e := scan_rest s hs0 h1 h2 (fun h => h3 h.2.2) _ rfl
        have h1' : ¬ (8 : Int) < (128 : Int) - (s[0].toNat : Int) := by omega
        have h2' : ¬ (s.size : Int) - (1 : Int) < (128 : Int) - (s[0].toNat : Int) := by omega
        have h3' : (0 : Int) < (128 : Int) - (s[0].toNat : Int) := by omega
        have h4' : ¬ s[1].toNat = 255 := fun h => h3 (by rw [em]; exact UInt8.toNat_inj.1 h)
        have h4b : ((s[1].toNat : Int) == (255 : Int)) = false := by simp; omega
        obtain ⟨k, hk⟩ : ∃ k, szB s[0] = k := ⟨_, rfl⟩
        have hk' : -((s[0].toNat : Int) - (128 : Int)) = (k : Int) := by omega
        have hk8 : k ≤ 8 := by omega
        have hks : k + 1 ≤ s.size := by omega
        have hd : decide (s[0].toNat < 128) = true := by simpa using hn
        obtain ⟨L, hL⟩ : ∃ L, L = s.data.toList.drop 1 := ⟨_, rfl⟩
        rw [hk, em, hd, ← hL] at e
        obtain ⟨v, hv⟩ : ∃ v, v = sg (magL 255 (L.take k)) true := ⟨_, rfl⟩
        rw [← hv] at e
        obtain ⟨R, hR⟩ : ∃ R, R = scan s.data.toList := ⟨_, rfl⟩
        rw [← hR] at e ⊢
        have HR := Lib.hid e
        have Hv := Lib.hid hv
        clear hv hR
        have hlen : L.length = s.size - 1 := by rw [hL]; simp
        have hget : ∀ t, (h : 1 + t < s.size) → L.take (t + 1) = L.take t ++ [s[1 + t]] := fun t h => by
          rw [List.take_add_one, hL, List.getElem?_drop, List.getElem?_eq_getElem (by simpa using h)]; rfl
        have Hget := Lib.hid hget
        have HL := Lib.hid hL
        clear e hget hL
        go_enter Try.func67, Try.ntmps67
        go_wp2_with fail
        go_loopw [8, 38] (fun mg i wr => Hid (wr = w) ∧ ∃ t : Nat, t ≤ k ∧ i = .int .i64 (t : Int) ∧ mg = .int .u64 (magL 255 (L.take t) : Int)) (fun _ i _ => k - (intOf i).toNat)
        case atStart => exact ⟨Lib.hid rfl, 0, by omega, rfl, rfl⟩
        case round =>
          obtain ⟨hww, t, ht, rfl, rfl⟩ := hrel
          obtain rfl := hww.out
          by_cases htk : t < k
          · have hti : (t : Int) < (k : Int) := by omega
            have hb : 1 + t < s.size := by omega
            go_wp2_with fail
            go_roundw
            case rel =>
              refine ⟨by first | exact Lib.hid rfl | exact trivial, t + 1, by omega, by go_num, ?_⟩
              have hM : magL 255 (L.take t) < 72057594037927936 := by
                have h := magL_lt 255 (L.take t)
                have h2 : 256 ^ (L.take t).length ≤ 256 ^ 7 := Nat.pow_le_pow_right (by omega) (by rw [List.length_take]; omega)
                omega
              rw [Hget.out t hb, magL_snoc, ← or_step _ _ _ hM]
              rfl
            case measure => simp [intOf]; omega
          · have hM : magL 255 (L.take k) < 18446744073709551616 := by
              have h := magL_lt 255 (L.take k)
              have h2 : 256 ^ (L.take k).length ≤ 256 ^ 8 := Nat.pow_le_pow_right (by omega) (by rw [List.length_take]; omega)
              omega
            obtain rfl : t = k := by omega
            have hkw : IntKind.i64.wrap ((t : Int) + 1) = (t : Int) + 1 := by simp only [IntKind.wrap_i64]; omega
            by_cases h0 : v.2 = 0
            · have HR1 : Hid (R = (v.1, (1 : Int) + (t : Int), 0)) := Lib.hid (by rw [HR.out, if_pos h0])
              go_wp2_with fail
              refine (signed_any _ true hM wr).mono ?_
              rintro e w1 ⟨rfl, rfl⟩
              simp only [← Hv.out, h0]
              go_wp2_with fail
              go_ret3
              exact ⟨by rw [HR1.out]; rfl, rfl⟩
            · have HR1 : Hid (R = (0, 0, v.2)) := Lib.hid (by rw [HR.out, if_neg h0])
              go_wp2_with fail
              refine (signed_any _ true hM wr).mono ?_
              rintro e w1 ⟨rfl, rfl⟩
              simp only [← Hv.out]
              go_wp2_with fail
              go_ret3
              exact ⟨by rw [HR1.out]; rfl, rfl⟩
set_option maxRecDepth 100000 in
set_option maxHeartbeats 1000000 in
theorem scan_pos (s : ByteArray) (hs0 : 0 < s.size) (hs : s.size ≤ 1000000) (hn : ¬ s[0].toNat < 128) (w : World) :
    Calls Try.prog 67 #[.string s] w fun e w' => e = .returned (.tuple #[.int .i64 (scan s.data.toList).1, .int .i64 (scan s.data.toList).2.1, .int .i64 (scan s.data.toList).2.2]) ∧ w' = w := by
  have hE : s.toList.isEmpty = false := by
    rw [ByteArray.toList_eq]
    cases hl : s.data.toList with
    | nil =>
      have h : s.data.toList.length = s.size := by simp
      rw [hl] at h
      simp at h; omega
    | cons _ _ => rfl
  have hneg : ¬ (s[0].toNat : Int) - (128 : Int) < 0 := by omega
  have ek : szB s[0] = s[0].toNat - 128 := by unfold szB; rw [if_neg hn]
  have em : maskB s[0] = 0 := by unfold maskB; rw [if_neg hn]
  have hlt0 := s[0].toNat_lt
  by_cases h1 : 8 < szB s[0]
  · have e := scan_big s hs0 h1
    have h1' : (8 : Int) < (s[0].toNat : Int) - (128 : Int) := by omega
    rw [e]
    go_enter Try.func67, Try.ntmps67
    go_wp2_with fail
    go_ret3
    exact ⟨rfl, rfl⟩
  · by_cases h2 : s.size - 1 < szB s[0]
    · have e := scan_short s hs0 h1 h2
      have h1' : ¬ (8 : Int) < (s[0].toNat : Int) - (128 : Int) := by omega
      have h2' : (s.size : Int) - (1 : Int) < (s[0].toNat : Int) - (128 : Int) := by omega
      rw [e]
      go_enter Try.func67, Try.ntmps67
      go_wp2_with fail
      go_ret3
      exact ⟨rfl, rfl⟩
    · by_cases hz : szB s[0] = 0
      · have e := scan_rest s hs0 h1 h2 (fun h => by omega) _ rfl
        have h1' : ¬ (8 : Int) < (s[0].toNat : Int) - (128 : Int) := by omega
        have h2' : ¬ (s.size : Int) - (1 : Int) < (s[0].toNat : Int) - (128 : Int) := by omega
        have h3' : ¬ (0 : Int) < (s[0].toNat : Int) - (128 : Int) := by omega
        obtain ⟨k, hk⟩ : ∃ k, szB s[0] = k := ⟨_, rfl⟩
        have hk' : (s[0].toNat : Int) - (128 : Int) = (k : Int) := by omega
        have hk8 : k ≤ 8 := by omega
        have hks : k + 1 ≤ s.size := by omega
        have hd : decide (s[0].toNat < 128) = false := by simpa using hn
        obtain ⟨L, hL⟩ : ∃ L, L = s.data.toList.drop 1 := ⟨_, rfl⟩
        rw [hk, em, hd, ← hL] at e
        obtain ⟨v, hv⟩ : ∃ v, v = sg (magL 0 (L.take k)) false := ⟨_, rfl⟩
        rw [← hv] at e
        obtain ⟨R, hR⟩ : ∃ R, R = scan s.data.toList := ⟨_, rfl⟩
        rw [← hR] at e ⊢
        have HR := Lib.hid e
        have Hv := Lib.hid hv
        clear hv hR
        have hlen : L.length = s.size - 1 := by rw [hL]; simp
        have hget : ∀ t, (h : 1 + t < s.size) → L.take (t + 1) = L.take t ++ [s[1 + t]] := fun t h => by
          rw [List.take_add_one, hL, List.getElem?_drop, List.getElem?_eq_getElem (by simpa using h)]; rfl
        have Hget := Lib.hid hget
        have HL := Lib.hid hL
        clear e hget hL
        go_enter Try.func67, Try.ntmps67
        go_wp2_with fail
        go_loopw [8, 38] (fun mg i wr => Hid (wr = w) ∧ ∃ t : Nat, t ≤ k ∧ i = .int .i64 (t : Int) ∧ mg = .int .u64 (magL 0 (L.take t) : Int)) (fun _ i _ => k - (intOf i).toNat)
        case atStart => exact ⟨Lib.hid rfl, 0, by omega, rfl, rfl⟩
        case round =>
          obtain ⟨hww, t, ht, rfl, rfl⟩ := hrel
          obtain rfl := hww.out
          by_cases htk : t < k
          · exfalso; omega
          · have hM : magL 0 (L.take k) < 18446744073709551616 := by
              have h := magL_lt 0 (L.take k)
              have h2 : 256 ^ (L.take k).length ≤ 256 ^ 8 := Nat.pow_le_pow_right (by omega) (by rw [List.length_take]; omega)
              omega
            obtain rfl : t = k := by omega
            have hkw : IntKind.i64.wrap ((t : Int) + 1) = (t : Int) + 1 := by simp only [IntKind.wrap_i64]; omega
            by_cases h0 : v.2 = 0
            · have HR1 : Hid (R = (v.1, (1 : Int) + (t : Int), 0)) := Lib.hid (by rw [HR.out, if_pos h0])
              go_wp2_with fail
              refine (signed_any _ false hM wr).mono ?_
              rintro e w1 ⟨rfl, rfl⟩
              simp only [← Hv.out, h0]
              go_wp2_with fail
              go_ret3
              exact ⟨by rw [HR1.out]; rfl, rfl⟩
            · have HR1 : Hid (R = (0, 0, v.2)) := Lib.hid (by rw [HR.out, if_neg h0])
              go_wp2_with fail
              refine (signed_any _ false hM wr).mono ?_
              rintro e w1 ⟨rfl, rfl⟩
              simp only [← Hv.out]
              go_wp2_with fail
              go_ret3
              exact ⟨by rw [HR1.out]; rfl, rfl⟩
      · have hs1 : 1 < s.size := by omega
        by_cases h3 : s[1] = maskB s[0]
        · have e := scan_mask s hs1 h1 h2 (by omega) h3
          have h1' : ¬ (8 : Int) < (s[0].toNat : Int) - (128 : Int) := by omega
          have h2' : ¬ (s.size : Int) - (1 : Int) < (s[0].toNat : Int) - (128 : Int) := by omega
          have h3' : (0 : Int) < (s[0].toNat : Int) - (128 : Int) := by omega
          have h4' : s[1].toNat = 0 := by rw [h3, em]; rfl
          rw [e]
          go_enter Try.func67, Try.ntmps67
          go_wp2_with fail
          go_ret3
          exact ⟨rfl, rfl⟩
        · have e := scan_rest s hs0 h1 h2 (fun h => h3 h.2.2) _ rfl
          have h1' : ¬ (8 : Int) < (s[0].toNat : Int) - (128 : Int) := by omega
          have h2' : ¬ (s.size : Int) - (1 : Int) < (s[0].toNat : Int) - (128 : Int) := by omega
          have h3' : (0 : Int) < (s[0].toNat : Int) - (128 : Int) := by omega
          have h4' : ¬ s[1].toNat = 0 := fun h => h3 (by rw [em]; exact UInt8.toNat_inj.1 h)
          have h4b : ((s[1].toNat : Int) == (0 : Int)) = false := by simp; omega
          obtain ⟨k, hk⟩ : ∃ k, szB s[0] = k := ⟨_, rfl⟩
          have hk' : (s[0].toNat : Int) - (128 : Int) = (k : Int) := by omega
          have hk8 : k ≤ 8 := by omega
          have hks : k + 1 ≤ s.size := by omega
          have hd : decide (s[0].toNat < 128) = false := by simpa using hn
          obtain ⟨L, hL⟩ : ∃ L, L = s.data.toList.drop 1 := ⟨_, rfl⟩
          rw [hk, em, hd, ← hL] at e
          obtain ⟨v, hv⟩ : ∃ v, v = sg (magL 0 (L.take k)) false := ⟨_, rfl⟩
          rw [← hv] at e
          obtain ⟨R, hR⟩ : ∃ R, R = scan s.data.toList := ⟨_, rfl⟩
          rw [← hR] at e ⊢
          have HR := Lib.hid e
          have Hv := Lib.hid hv
          clear hv hR
          have hlen : L.length = s.size - 1 := by rw [hL]; simp
          have hget : ∀ t, (h : 1 + t < s.size) → L.take (t + 1) = L.take t ++ [s[1 + t]] := fun t h => by
            rw [List.take_add_one, hL, List.getElem?_drop, List.getElem?_eq_getElem (by simpa using h)]; rfl
          have Hget := Lib.hid hget
          have HL := Lib.hid hL
          clear e hget hL
          go_enter Try.func67, Try.ntmps67
          go_wp2_with fail
          go_loopw [8, 38] (fun mg i wr => Hid (wr = w) ∧ ∃ t : Nat, t ≤ k ∧ i = .int .i64 (t : Int) ∧ mg = .int .u64 (magL 0 (L.take t) : Int)) (fun _ i _ => k - (intOf i).toNat)
          case atStart => exact ⟨Lib.hid rfl, 0, by omega, rfl, rfl⟩
          case round =>
            obtain ⟨hww, t, ht, rfl, rfl⟩ := hrel
            obtain rfl := hww.out
            by_cases htk : t < k
            · have hti : (t : Int) < (k : Int) := by omega
              have hb : 1 + t < s.size := by omega
              go_wp2_with fail
              go_roundw
              case rel =>
                refine ⟨by first | exact Lib.hid rfl | exact trivial, t + 1, by omega, by go_num, ?_⟩
                have hM : magL 0 (L.take t) < 72057594037927936 := by
                  have h := magL_lt 0 (L.take t)
                  have h2 : 256 ^ (L.take t).length ≤ 256 ^ 7 := Nat.pow_le_pow_right (by omega) (by rw [List.length_take]; omega)
                  omega
                rw [Hget.out t hb, magL_snoc, ← or_step _ _ _ hM]
                rfl
              case measure => simp [intOf]; omega
            · have hM : magL 0 (L.take k) < 18446744073709551616 := by
                have h := magL_lt 0 (L.take k)
                have h2 : 256 ^ (L.take k).length ≤ 256 ^ 8 := Nat.pow_le_pow_right (by omega) (by rw [List.length_take]; omega)
                omega
              obtain rfl : t = k := by omega
              have hkw : IntKind.i64.wrap ((t : Int) + 1) = (t : Int) + 1 := by simp only [IntKind.wrap_i64]; omega
              by_cases h0 : v.2 = 0
              · have HR1 : Hid (R = (v.1, (1 : Int) + (t : Int), 0)) := Lib.hid (by rw [HR.out, if_pos h0])
                go_wp2_with fail
                refine (signed_any _ false hM wr).mono ?_
                rintro e w1 ⟨rfl, rfl⟩
                simp only [← Hv.out, h0]
                go_wp2_with fail
                go_ret3
                exact ⟨by rw [HR1.out]; rfl, rfl⟩
              · have HR1 : Hid (R = (0, 0, v.2)) := Lib.hid (by rw [HR.out, if_neg h0])
                go_wp2_with fail
                refine (signed_any _ false hM wr).mono ?_
                rintro e w1 ⟨rfl, rfl⟩
                simp only [← Hv.out]
                go_wp2_with fail
                go_ret3
                exact ⟨by rw [HR1.out]; rfl, rfl⟩

theorem scan_any (s : ByteArray) (hs : s.size ≤ 1000000) (w : World) :
    Calls Try.prog 67 #[.string s] w fun e w' => e = .returned (.tuple #[.int .i64 (scan s.data.toList).1, .int .i64 (scan s.data.toList).2.1, .int .i64 (scan s.data.toList).2.2]) ∧ w' = w := by
  by_cases h0 : 0 < s.size
  · by_cases hn : s[0].toNat < 128
    · exact scan_neg s h0 hs hn w
    · exact scan_pos s h0 hs hn w
  · have hnil : s.data.toList = [] := by
      have h : s.data.toList.length = s.size := by simp
      exact List.eq_nil_of_length_eq_zero (by omega)
    have hE : s.toList.isEmpty = true := by rw [ByteArray.toList_eq, hnil]; rfl
    have e : scan s.data.toList = (0, 0, 4) := by rw [hnil]; rfl
    rw [e]
    go_enter Try.func67, Try.ntmps67
    go_wp2_with fail
    go_ret3
    exact ⟨rfl, rfl⟩
end Go.Proofs.Ytomjgkflnfjjbaa
