/- Reading numbers: what layer 1's texts say of the Reader and of the reference's, as far as this seat has it (made by wip/bin/pick.py). -/
import Derived.Test.YtacgomhegjilgaaWb
import Derived.Laws.RangeString
import Derived.Lib.QuietBelow
namespace Go.Proofs.Ytacgomhegjilgaa
open Go.ChangeShapes Go.WideShapes Go.ChangeAt Go.RowKit En
/-- The int with a magnitude and a sign, and the error. -/
def sg (m : Nat) (neg : Bool) : Int × Int :=
  if neg = true ∧ m ≤ 9223372036854775808 then (-(m : Int), 0) else if neg = false ∧ m ≤ 9223372036854775807 then ((m : Int), 0) else (0, 3)
theorem signed_any (m : Nat) (neg : Bool) (hm : m < 18446744073709551616) (w : World) :
    Calls Try.prog 104 #[.int .u64 (m : Int), .bool neg] w fun e w' => e = .returned (.tuple #[.int .i64 (sg m neg).1, .int .i64 (sg m neg).2]) ∧ w' = w := by
  cases neg with
  | true =>
    by_cases h : m ≤ 9223372036854775808
    · have e : sg m true = (-(m : Int), 0) := by unfold sg; rw [if_pos ⟨rfl, h⟩]
      have e1 : IntKind.i64.wrap (IntKind.u64.wrap (-(m : Int))) = -(m : Int) := by simp only [IntKind.wrap_u64, IntKind.wrap_i64]; omega
      have h' : (m : Int) ≤ 9223372036854775808 := by omega
      rw [e]
      go_enter Try.func104, Try.ntmps104
      go_wp2
      go_ret2
      exact ⟨rfl, rfl⟩
    · have e : sg m true = (0, 3) := by unfold sg; rw [if_neg (fun h2 => h h2.2), if_neg (fun h2 => nomatch h2.1)]
      have h' : ¬ (m : Int) ≤ 9223372036854775808 := by omega
      rw [e]
      go_enter Try.func104, Try.ntmps104
      go_wp2
      go_ret2
      exact ⟨rfl, rfl⟩
  | false =>
    by_cases h : m ≤ 9223372036854775807
    · have e : sg m false = ((m : Int), 0) := by unfold sg; rw [if_neg (fun h2 => nomatch h2.1), if_pos ⟨rfl, h⟩]
      have e1 : IntKind.i64.wrap (m : Int) = (m : Int) := by simp only [IntKind.wrap_i64]; omega
      have h' : (m : Int) ≤ 9223372036854775807 := by omega
      rw [e]
      go_enter Try.func104, Try.ntmps104
      go_wp2
      go_ret2
      exact ⟨rfl, rfl⟩
    · have e : sg m false = (0, 3) := by unfold sg; rw [if_neg (fun h2 => nomatch h2.1), if_neg (fun h2 => h h2.2)]
      have h' : ¬ (m : Int) ≤ 9223372036854775807 := by omega
      rw [e]
      go_enter Try.func104, Try.ntmps104
      go_wp2
      go_ret2
      exact ⟨rfl, rfl⟩
def magL (mask : UInt8) (l : List UInt8) : Nat := l.foldl (fun m b => m * 256 + (b ^^^ mask).toNat) 0
def szB (b : UInt8) : Nat := if b.toNat < 128 then 128 - b.toNat else b.toNat - 128
def maskB (b : UInt8) : UInt8 := if b.toNat < 128 then 255 else 0
/-- The number that the bytes begin with, the number of its bytes, and the error. -/
def scan : List UInt8 → Int × Int × Int
  | [] => (0, 0, 4)
  | b :: t =>
    if 8 < szB b then (0, 0, 3) else if t.length < szB b then (0, 0, 4) else if 0 < szB b ∧ t.head? = some (maskB b) then (0, 0, 3) else
    if (sg (magL (maskB b) (t.take (szB b))) (decide (b.toNat < 128))).2 = 0 then ((sg (magL (maskB b) (t.take (szB b))) (decide (b.toNat < 128))).1, 1 + (szB b : Int), 0) else (0, 0, (sg (magL (maskB b) (t.take (szB b))) (decide (b.toNat < 128))).2)
theorem cons_at (s : ByteArray) (h : 0 < s.size) : s.data.toList = s[0] :: s.data.toList.drop 1 := by
  have := List.drop_eq_getElem_cons (l := s.data.toList) (i := 0) (by simpa using h)
  rw [List.drop_zero] at this
  exact this
theorem scan_cons (b : UInt8) (t : List UInt8) : scan (b :: t) = if 8 < szB b then (0, 0, 3) else if t.length < szB b then (0, 0, 4) else if 0 < szB b ∧ t.head? = some (maskB b) then (0, 0, 3) else
    if (sg (magL (maskB b) (t.take (szB b))) (decide (b.toNat < 128))).2 = 0 then ((sg (magL (maskB b) (t.take (szB b))) (decide (b.toNat < 128))).1, 1 + (szB b : Int), 0) else (0, 0, (sg (magL (maskB b) (t.take (szB b))) (decide (b.toNat < 128))).2) := rfl
theorem magL_lt (mask : UInt8) (l : List UInt8) : magL mask l < 256 ^ l.length := by
  have gen : ∀ (l : List UInt8) (m n : Nat), m < 256 ^ n → l.foldl (fun m b => m * 256 + (b ^^^ mask).toNat) m < 256 ^ (n + l.length) := by
    intro l
    induction l with
    | nil => intro m n h; simpa using h
    | cons b l ih =>
      intro m n h
      have := ih (m * 256 + (b ^^^ mask).toNat) (n + 1) (by have := (b ^^^ mask).toNat_lt; rw [Nat.pow_succ]; omega)
      rw [List.foldl_cons, List.length_cons, show n + (l.length + 1) = n + 1 + l.length by omega]
      exact this
  have := gen l 0 0 (by omega)
  rwa [Nat.zero_add] at this
theorem magL_snoc (mask : UInt8) (l : List UInt8) (b : UInt8) : magL mask (l ++ [b]) = magL mask l * 256 + (b ^^^ mask).toNat := by unfold magL; rw [List.foldl_append]; rfl
theorem or_step (M : Nat) (c m : UInt8) (hM : M < 72057594037927936) : bits .or .u64 (IntKind.u64.wrap ((M : Int) * 256)) (IntKind.u64.wrap (bits .xor .u8 (c.toNat : Int) (m.toNat : Int))) = ((M * 256 + (c ^^^ m).toNat : Nat) : Int) := by
  have hx : bits .xor .u8 (c.toNat : Int) (m.toNat : Int) = ((c ^^^ m).toNat : Int) := by
    rw [u8_xor_nat c.toNat m.toNat c.toNat_lt m.toNat_lt, UInt8.toNat_xor]
  have hl := (c ^^^ m).toNat_lt
  have h1 : IntKind.u64.wrap ((M : Int) * 256) = ((M * 256 : Nat) : Int) := by simp only [IntKind.wrap_u64]; omega
  have h2 : IntKind.u64.wrap ((c ^^^ m).toNat : Int) = ((c ^^^ m).toNat : Int) := by simp only [IntKind.wrap_u64]; omega
  rw [hx, h1, h2, u64_or_nat _ _ (by omega) (by omega)]
  have := Nat.two_pow_add_eq_or_of_lt (i := 8) (b := (c ^^^ m).toNat) (by omega) M
  rw [show 2 ^ 8 * M = M * 256 by omega] at this
  rw [← this]
theorem scan_big (s : ByteArray) (h : 0 < s.size) (h1 : 8 < szB s[0]) : scan s.data.toList = (0, 0, 3) := by
  rw [cons_at s h, scan_cons, if_pos h1]
theorem scan_short (s : ByteArray) (h : 0 < s.size) (h1 : ¬ 8 < szB s[0]) (h2 : s.size - 1 < szB s[0]) : scan s.data.toList = (0, 0, 4) := by
  rw [cons_at s h, scan_cons, if_neg h1, if_pos (by simpa using h2)]
theorem head_at (s : ByteArray) (h : 1 < s.size) : (s.data.toList.drop 1).head? = some s[1] := by
  rw [List.head?_drop]
  have h' : 1 < s.data.toList.length := by simpa using h
  rw [List.getElem?_eq_getElem h']; rfl
theorem scan_mask (s : ByteArray) (h : 1 < s.size) (h1 : ¬ 8 < szB s[0]) (h2 : ¬ s.size - 1 < szB s[0]) (h3 : 0 < szB s[0]) (h4 : s[1] = maskB s[0]) : scan s.data.toList = (0, 0, 3) := by
  rw [cons_at s (by omega), scan_cons, if_neg h1, if_neg (by simpa using h2), if_pos ⟨h3, by rw [head_at s h, h4]⟩]
theorem scan_rest (s : ByteArray) (h : 0 < s.size) (h1 : ¬ 8 < szB s[0]) (h2 : ¬ s.size - 1 < szB s[0]) (h3 : ¬ (0 < szB s[0] ∧ ∃ h : 1 < s.size, s[1] = maskB s[0])) (r : Int × Int) (hr : sg (magL (maskB s[0]) ((s.data.toList.drop 1).take (szB s[0]))) (decide (s[0].toNat < 128)) = r) :
    scan s.data.toList = if r.2 = 0 then (r.1, (1 : Int) + (szB s[0] : Int), 0) else (0, 0, r.2) := by
  have hh : ¬ (0 < szB s[0] ∧ (s.data.toList.drop 1).head? = some (maskB s[0])) := by
    rintro ⟨h4, h5⟩
    have h6 : 1 < s.size := by omega
    rw [head_at s h6] at h5
    exact h3 ⟨h4, h6, by simpa using h5⟩
  rw [cons_at s h, scan_cons, if_neg h1, if_neg (by simpa using h2), if_neg hh, hr]
set_option maxRecDepth 100000 in
set_option maxHeartbeats 1000000 in
theorem scan_neg (s : ByteArray) (hs0 : 0 < s.size) (hs : s.size ≤ 1000000) (hn : s[0].toNat < 128) (w : World) :
    Calls Try.prog 87 #[.string s] w fun e w' => e = .returned (.tuple #[.int .i64 (scan s.data.toList).1, .int .i64 (scan s.data.toList).2.1, .int .i64 (scan s.data.toList).2.2]) ∧ w' = w := by
  have hE : s.toList.isEmpty = false := by
    rw [ByteArray.toList_eq]
    cases hl : s.data.toList with
    | nil =>
      have h : s.data.toList.length = s.size := by simp
      rw [hl] at h
      simp at h; omega
    | cons _ _ => rfl
  have hneg : (s[0].toNat : Int) - (128 : Int) < 0 := by omega
  have ek : szB s[0] = 128 - s[0].toNat := by unfold szB; rw [if_pos hn]
  have em : maskB s[0] = 255 := by unfold maskB; rw [if_pos hn]
  have hw : wrap64 (-((s[0].toNat : Int) - (128 : Int))) = (128 : Int) - (s[0].toNat : Int) := by unfold wrap64; omega
  by_cases h1 : 8 < szB s[0]
  · have e := scan_big s hs0 h1
    have h1' : (8 : Int) < (128 : Int) - (s[0].toNat : Int) := by omega
    rw [e]
    go_enter Try.func87, Try.ntmps87
    go_wp2_with fail
    go_ret3
    exact ⟨rfl, rfl⟩
  · by_cases h2 : s.size - 1 < szB s[0]
    · have e := scan_short s hs0 h1 h2
      have h1' : ¬ (8 : Int) < (128 : Int) - (s[0].toNat : Int) := by omega
      have h2' : (s.size : Int) - (1 : Int) < (128 : Int) - (s[0].toNat : Int) := by omega
      rw [e]
      go_enter Try.func87, Try.ntmps87
      go_wp2_with fail
      go_ret3
      exact ⟨rfl, rfl⟩
    · have hs1 : 1 < s.size := by omega
      by_cases h3 : s[1] = maskB s[0]
      · have e := scan_mask s hs1 h1 h2 (by omega) h3
        have h1' : ¬ (8 : Int) < (128 : Int) - (s[0].toNat : Int) := by omega
        have h2' : ¬ (s.size : Int) - (1 : Int) < (128 : Int) - (s[0].toNat : Int) := by omega
        have h3' : (0 : Int) < (128 : Int) - (s[0].toNat : Int) := by omega
        have h4' : s[1].toNat = 255 := by rw [h3, em]; rfl
        rw [e]
        go_enter Try.func87, Try.ntmps87
        go_wp2_with fail
        go_ret3
        exact ⟨rfl, rfl⟩
      · have e := scan_rest s hs0 h1 h2 (fun h => h3 h.2.2) _ rfl
        have h1' : ¬ (8 : Int) < (128 : Int) - (s[0].toNat : Int) := by omega
        have h2' : ¬ (s.size : Int) - (1 : Int) < (128 : Int) - (s[0].toNat : Int) := by omega
        have h3' : (0 : Int) < (128 : Int) - (s[0].toNat : Int) := by omega
        have h4' : ¬ s[1].toNat = 255 := fun h => h3 (by rw [em]; exact UInt8.toNat_inj.1 h)
        have h4b : ((s[1].toNat : Int) == (255 : Int)) = false := by simp; omega
        obtain ⟨k, hk⟩ : ∃ k, szB s[0] = k := ⟨_, rfl⟩
        have hk' : -((s[0].toNat : Int) - (128 : Int)) = (k : Int) := by omega
        have hk8 : k ≤ 8 := by omega
        have hks : k + 1 ≤ s.size := by omega
        have hd : decide (s[0].toNat < 128) = true := by simpa using hn
        obtain ⟨L, hL⟩ : ∃ L, L = s.data.toList.drop 1 := ⟨_, rfl⟩
        rw [hk, em, hd, ← hL] at e
        obtain ⟨v, hv⟩ : ∃ v, v = sg (magL 255 (L.take k)) true := ⟨_, rfl⟩
        rw [← hv] at e
        obtain ⟨R, hR⟩ : ∃ R, R = scan s.data.toList := ⟨_, rfl⟩
        rw [← hR] at e ⊢
        have HR := Lib.hid e
        have Hv := Lib.hid hv
        clear hv hR
        have hlen : L.length = s.size - 1 := by rw [hL]; simp
        have hget : ∀ t, (h : 1 + t < s.size) → L.take (t + 1) = L.take t ++ [s[1 + t]] := fun t h => by
          rw [List.take_add_one, hL, List.getElem?_drop, List.getElem?_eq_getElem (by simpa using h)]; rfl
        have Hget := Lib.hid hget
        have HL := Lib.hid hL
        clear e hget hL
        go_enter Try.func87, Try.ntmps87
        go_wp2_with fail
        go_loopw [8, 38] (fun mg i wr => Hid (wr = w) ∧ ∃ t : Nat, t ≤ k ∧ i = .int .i64 (t : Int) ∧ mg = .int .u64 (magL 255 (L.take t) : Int)) (fun _ i _ => k - (intOf i).toNat)
        case atStart => exact ⟨Lib.hid rfl, 0, by omega, rfl, rfl⟩
        case round =>
          obtain ⟨hww, t, ht, rfl, rfl⟩ := hrel
          obtain rfl := hww.out
          by_cases htk : t < k
          · have hti : (t : Int) < (k : Int) := by omega
            have hb : 1 + t < s.size := by omega
            go_wp2_with fail
            go_roundw
            case rel =>
              refine ⟨by first | exact Lib.hid rfl | exact trivial, t + 1, by omega, by go_num, ?_⟩
              have hM : magL 255 (L.take t) < 72057594037927936 := by
                have h := magL_lt 255 (L.take t)
                have h2 : 256 ^ (L.take t).length ≤ 256 ^ 7 := Nat.pow_le_pow_right (by omega) (by rw [List.length_take]; omega)
                omega
              rw [Hget.out t hb, magL_snoc, ← or_step _ _ _ hM]
              rfl
            case measure => simp [intOf]; omega
          · have hM : magL 255 (L.take k) < 18446744073709551616 := by
              have h := magL_lt 255 (L.take k)
              have h2 : 256 ^ (L.take k).length ≤ 256 ^ 8 := Nat.pow_le_pow_right (by omega) (by rw [List.length_take]; omega)
              omega
            obtain rfl : t = k := by omega
            have hkw : IntKind.i64.wrap ((t : Int) + 1) = (t : Int) + 1 := by simp only [IntKind.wrap_i64]; omega
            by_cases h0 : v.2 = 0
            · have HR1 : Hid (R = (v.1, (1 : Int) + (t : Int), 0)) := Lib.hid (by rw [HR.out, if_pos h0])
              go_wp2_with fail
              refine (signed_any _ true hM wr).mono ?_
              rintro e w1 ⟨rfl, rfl⟩
              simp only [← Hv.out, h0]
              go_wp2_with fail
              go_ret3
              exact ⟨by rw [HR1.out]; rfl, rfl⟩
            · have HR1 : Hid (R = (0, 0, v.2)) := Lib.hid (by rw [HR.out, if_neg h0])
              go_wp2_with fail
              refine (signed_any _ true hM wr).mono ?_
              rintro e w1 ⟨rfl, rfl⟩
              simp only [← Hv.out]
              go_wp2_with fail
              go_ret3
              exact ⟨by rw [HR1.out]; rfl, rfl⟩
set_option maxRecDepth 100000 in
set_option maxHeartbeats 1000000 in
theorem scan_pos (s : ByteArray) (hs0 : 0 < s.size) (hs : s.size ≤ 1000000) (hn : ¬ s[0].toNat < 128) (w : World) :
    Calls Try.prog 87 #[.string s] w fun e w' => e = .returned (.tuple #[.int .i64 (scan s.data.toList).1, .int .i64 (scan s.data.toList).2.1, .int .i64 (scan s.data.toList).2.2]) ∧ w' = w := by
  have hE : s.toList.isEmpty = false := by
    rw [ByteArray.toList_eq]
    cases hl : s.data.toList with
    | nil =>
      have h : s.data.toList.length = s.size := by simp
      rw [hl] at h
      simp at h; omega
    | cons _ _ => rfl
  have hneg : ¬ (s[0].toNat : Int) - (128 : Int) < 0 := by omega
  have ek : szB s[0] = s[0].toNat - 128 := by unfold szB; rw [if_neg hn]
  have em : maskB s[0] = 0 := by unfold maskB; rw [if_neg hn]
  have hlt0 := s[0].toNat_lt
  by_cases h1 : 8 < szB s[0]
  · have e := scan_big s hs0 h1
    have h1' : (8 : Int) < (s[0].toNat : Int) - (128 : Int) := by omega
    rw [e]
    go_enter Try.func87, Try.ntmps87
    go_wp2_with fail
    go_ret3
    exact ⟨rfl, rfl⟩
  · by_cases h2 : s.size - 1 < szB s[0]
    · have e := scan_short s hs0 h1 h2
      have h1' : ¬ (8 : Int) < (s[0].toNat : Int) - (128 : Int) := by omega
      have h2' : (s.size : Int) - (1 : Int) < (s[0].toNat : Int) - (128 : Int) := by omega
      rw [e]
      go_enter Try.func87, Try.ntmps87
      go_wp2_with fail
      go_ret3
      exact ⟨rfl, rfl⟩
    · by_cases hz : szB s[0] = 0
      · have e := scan_rest s hs0 h1 h2 (fun h => by omega) _ rfl
        have h1' : ¬ (8 : Int) < (s[0].toNat : Int) - (128 : Int) := by omega
        have h2' : ¬ (s.size : Int) - (1 : Int) < (s[0].toNat : Int) - (128 : Int) := by omega
        have h3' : ¬ (0 : Int) < (s[0].toNat : Int) - (128 : Int) := by omega
        obtain ⟨k, hk⟩ : ∃ k, szB s[0] = k := ⟨_, rfl⟩
        have hk' : (s[0].toNat : Int) - (128 : Int) = (k : Int) := by omega
        have hk8 : k ≤ 8 := by omega
        have hks : k + 1 ≤ s.size := by omega
        have hd : decide (s[0].toNat < 128) = false := by simpa using hn
        obtain ⟨L, hL⟩ : ∃ L, L = s.data.toList.drop 1 := ⟨_, rfl⟩
        rw [hk, em, hd, ← hL] at e
        obtain ⟨v, hv⟩ : ∃ v, v = sg (magL 0 (L.take k)) false := ⟨_, rfl⟩
        rw [← hv] at e
        obtain ⟨R, hR⟩ : ∃ R, R = scan s.data.toList := ⟨_, rfl⟩
        rw [← hR] at e ⊢
        have HR := Lib.hid e
        have Hv := Lib.hid hv
        clear hv hR
        have hlen : L.length = s.size - 1 := by rw [hL]; simp
        have hget : ∀ t, (h : 1 + t < s.size) → L.take (t + 1) = L.take t ++ [s[1 + t]] := fun t h => by
          rw [List.take_add_one, hL, List.getElem?_drop, List.getElem?_eq_getElem (by simpa using h)]; rfl
        have Hget := Lib.hid hget
        have HL := Lib.hid hL
        clear e hget hL
        go_enter Try.func87, Try.ntmps87
        go_wp2_with fail
        go_loopw [8, 38] (fun mg i wr => Hid (wr = w) ∧ ∃ t : Nat, t ≤ k ∧ i = .int .i64 (t : Int) ∧ mg = .int .u64 (magL 0 (L.take t) : Int)) (fun _ i _ => k - (intOf i).toNat)
        case atStart => exact ⟨Lib.hid rfl, 0, by omega, rfl, rfl⟩
        case round =>
          obtain ⟨hww, t, ht, rfl, rfl⟩ := hrel
          obtain rfl := hww.out
          by_cases htk : t < k
          · exfalso; omega
          · have hM : magL 0 (L.take k) < 18446744073709551616 := by
              have h := magL_lt 0 (L.take k)
              have h2 : 256 ^ (L.take k).length ≤ 256 ^ 8 := Nat.pow_le_pow_right (by omega) (by rw [List.length_take]; omega)
              omega
            obtain rfl : t = k := by omega
            have hkw : IntKind.i64.wrap ((t : Int) + 1) = (t : Int) + 1 := by simp only [IntKind.wrap_i64]; omega
            by_cases h0 : v.2 = 0
            · have HR1 : Hid (R = (v.1, (1 : Int) + (t : Int), 0)) := Lib.hid (by rw [HR.out, if_pos h0])
              go_wp2_with fail
              refine (signed_any _ false hM wr).mono ?_
              rintro e w1 ⟨rfl, rfl⟩
              simp only [← Hv.out, h0]
              go_wp2_with fail
              go_ret3
              exact ⟨by rw [HR1.out]; rfl, rfl⟩
            · have HR1 : Hid (R = (0, 0, v.2)) := Lib.hid (by rw [HR.out, if_neg h0])
              go_wp2_with fail
              refine (signed_any _ false hM wr).mono ?_
              rintro e w1 ⟨rfl, rfl⟩
              simp only [← Hv.out]
              go_wp2_with fail
              go_ret3
              exact ⟨by rw [HR1.out]; rfl, rfl⟩
      · have hs1 : 1 < s.size := by omega
        by_cases h3 : s[1] = maskB s[0]
        · have e := scan_mask s hs1 h1 h2 (by omega) h3
          have h1' : ¬ (8 : Int) < (s[0].toNat : Int) - (128 : Int) := by omega
          have h2' : ¬ (s.size : Int) - (1 : Int) < (s[0].toNat : Int) - (128 : Int) := by omega
          have h3' : (0 : Int) < (s[0].toNat : Int) - (128 : Int) := by omega
          have h4' : s[1].toNat = 0 := by rw [h3, em]; rfl
          rw [e]
          go_enter Try.func87, Try.ntmps87
          go_wp2_with fail
          go_ret3
          exact ⟨rfl, rfl⟩
        · have e := scan_rest s hs0 h1 h2 (fun h => h3 h.2.2) _ rfl
          have h1' : ¬ (8 : Int) < (s[0].toNat : Int) - (128 : Int) := by omega
          have h2' : ¬ (s.size : Int) - (1 : Int) < (s[0].toNat : Int) - (128 : Int) := by omega
          have h3' : (0 : Int) < (s[0].toNat : Int) - (128 : Int) := by omega
          have h4' : ¬ s[1].toNat = 0 := fun h => h3 (by rw [em]; exact UInt8.toNat_inj.1 h)
          have h4b : ((s[1].toNat : Int) == (0 : Int)) = false := by simp; omega
          obtain ⟨k, hk⟩ : ∃ k, szB s[0] = k := ⟨_, rfl⟩
          have hk' : (s[0].toNat : Int) - (128 : Int) = (k : Int) := by omega
          have hk8 : k ≤ 8 := by omega
          have hks : k + 1 ≤ s.size := by omega
          have hd : decide (s[0].toNat < 128) = false := by simpa using hn
          obtain ⟨L, hL⟩ : ∃ L, L = s.data.toList.drop 1 := ⟨_, rfl⟩
          rw [hk, em, hd, ← hL] at e
          obtain ⟨v, hv⟩ : ∃ v, v = sg (magL 0 (L.take k)) false := ⟨_, rfl⟩
          rw [← hv] at e
          obtain ⟨R, hR⟩ : ∃ R, R = scan s.data.toList := ⟨_, rfl⟩
          rw [← hR] at e ⊢
          have HR := Lib.hid e
          have Hv := Lib.hid hv
          clear hv hR
          have hlen : L.length = s.size - 1 := by rw [hL]; simp
          have hget : ∀ t, (h : 1 + t < s.size) → L.take (t + 1) = L.take t ++ [s[1 + t]] := fun t h => by
            rw [List.take_add_one, hL, List.getElem?_drop, List.getElem?_eq_getElem (by simpa using h)]; rfl
          have Hget := Lib.hid hget
          have HL := Lib.hid hL
          clear e hget hL
          go_enter Try.func87, Try.ntmps87
          go_wp2_with fail
          go_loopw [8, 38] (fun mg i wr => Hid (wr = w) ∧ ∃ t : Nat, t ≤ k ∧ i = .int .i64 (t : Int) ∧ mg = .int .u64 (magL 0 (L.take t) : Int)) (fun _ i _ => k - (intOf i).toNat)
          case atStart => exact ⟨Lib.hid rfl, 0, by omega, rfl, rfl⟩
          case round =>
            obtain ⟨hww, t, ht, rfl, rfl⟩ := hrel
            obtain rfl := hww.out
            by_cases htk : t < k
            · have hti : (t : Int) < (k : Int) := by omega
              have hb : 1 + t < s.size := by omega
              go_wp2_with fail
              go_roundw
              case rel =>
                refine ⟨by first | exact Lib.hid rfl | exact trivial, t + 1, by omega, by go_num, ?_⟩
                have hM : magL 0 (L.take t) < 72057594037927936 := by
                  have h := magL_lt 0 (L.take t)
                  have h2 : 256 ^ (L.take t).length ≤ 256 ^ 7 := Nat.pow_le_pow_right (by omega) (by rw [List.length_take]; omega)
                  omega
                rw [Hget.out t hb, magL_snoc, ← or_step _ _ _ hM]
                rfl
              case measure => simp [intOf]; omega
            · have hM : magL 0 (L.take k) < 18446744073709551616 := by
                have h := magL_lt 0 (L.take k)
                have h2 : 256 ^ (L.take k).length ≤ 256 ^ 8 := Nat.pow_le_pow_right (by omega) (by rw [List.length_take]; omega)
                omega
              obtain rfl : t = k := by omega
              have hkw : IntKind.i64.wrap ((t : Int) + 1) = (t : Int) + 1 := by simp only [IntKind.wrap_i64]; omega
              by_cases h0 : v.2 = 0
              · have HR1 : Hid (R = (v.1, (1 : Int) + (t : Int), 0)) := Lib.hid (by rw [HR.out, if_pos h0])
                go_wp2_with fail
                refine (signed_any _ false hM wr).mono ?_
                rintro e w1 ⟨rfl, rfl⟩
                simp only [← Hv.out, h0]
                go_wp2_with fail
                go_ret3
                exact ⟨by rw [HR1.out]; rfl, rfl⟩
              · have HR1 : Hid (R = (0, 0, v.2)) := Lib.hid (by rw [HR.out, if_neg h0])
                go_wp2_with fail
                refine (signed_any _ false hM wr).mono ?_
                rintro e w1 ⟨rfl, rfl⟩
                simp only [← Hv.out]
                go_wp2_with fail
                go_ret3
                exact ⟨by rw [HR1.out]; rfl, rfl⟩
theorem scan_any (s : ByteArray) (hs : s.size ≤ 1000000) (w : World) :
    Calls Try.prog 87 #[.string s] w fun e w' => e = .returned (.tuple #[.int .i64 (scan s.data.toList).1, .int .i64 (scan s.data.toList).2.1, .int .i64 (scan s.data.toList).2.2]) ∧ w' = w := by
  by_cases h0 : 0 < s.size
  · by_cases hn : s[0].toNat < 128
    · exact scan_neg s h0 hs hn w
    · exact scan_pos s h0 hs hn w
  · have hnil : s.data.toList = [] := by
      have h : s.data.toList.length = s.size := by simp
      exact List.eq_nil_of_length_eq_zero (by omega)
    have hE : s.toList.isEmpty = true := by rw [ByteArray.toList_eq, hnil]; rfl
    have e : scan s.data.toList = (0, 0, 4) := by rw [hnil]; rfl
    rw [e]
    go_enter Try.func87, Try.ntmps87
    go_wp2_with fail
    go_ret3
    exact ⟨rfl, rfl⟩
end Go.Proofs.Ytacgomhegjilgaa
namespace Go.Proofs.Ytacgomhegjilgaa
open Go.ChangeShapes Go.WideShapes Go.ChangeAt Go.RowKit En
/-- The Reader in block r. -/
def RS (w : World) (r : Nat) (s : ByteArray) (p : Nat) (err : Int) : Prop :=
  w.heap[r]? = some (.cells #[.string s, .int .i64 (p : Int), .int .i64 err] 116 (0, 0)) ∧ p ≤ s.size
theorem RS.lt {w : World} {r : Nat} {s : ByteArray} {p : Nat} {err : Int} (h : RS w r s p err) : r < w.heap.size := (Array.getElem?_eq_some_iff.1 h.1).1
theorem RS.below {w w' : World} {r : Nat} {s : ByteArray} {p : Nat} {err : Int} (h : RS w r s p err) (hb : Below w.heap.size w w') : RS w' r s p err :=
  ⟨(hb.block r h.lt).trans h.1, h.2⟩
theorem new_reader (s : ByteArray) (w : World) :
    Calls Try.prog 67 #[.string s] w fun e w' => e = .returned (.pointer (some ⟨w.heap.size, 0, none⟩)) ∧ RS w' w.heap.size s 0 0 ∧ Below w.heap.size w w' := by
  go_enter Try.func67, Try.ntmps67
  go_wp2_with fail
  go_ret
  exact ⟨rfl, ⟨Deep.blk_alloc_new w _, Nat.zero_le _⟩, (Below.refl _ _).alloc (Nat.le_refl _) _⟩
theorem r_err (r : Nat) (s : ByteArray) (p : Nat) (err : Int) (w : World) (h : RS w r s p err) :
    Calls Try.prog 88 #[.pointer (some ⟨r, 0, none⟩)] w fun e w' => e = .returned (.int .i64 err) ∧ w' = w := by
  have c2 := cell_of_row w r 2 _ _ _ h.1
  clear h
  go_enter Try.func88, Try.ntmps88
  go_wp2_with fail
  go_ret
  exact ⟨rfl, rfl⟩
theorem scan_size (l : List UInt8) (h : (scan l).2.2 = 0) : ∃ k : Nat, (scan l).2.1 = (k : Int) ∧ 1 ≤ k ∧ k ≤ l.length := by
  cases l with
  | nil => simp [scan] at h
  | cons b t =>
    rw [scan_cons] at h ⊢
    by_cases h1 : 8 < szB b
    · rw [if_pos h1] at h; simp at h
    · rw [if_neg h1] at h ⊢
      by_cases h2 : t.length < szB b
      · rw [if_pos h2] at h; simp at h
      · rw [if_neg h2] at h ⊢
        by_cases h3 : 0 < szB b ∧ t.head? = some (maskB b)
        · rw [if_pos h3] at h; simp at h
        · rw [if_neg h3] at h ⊢
          by_cases h4 : (sg (magL (maskB b) (t.take (szB b))) (decide (b.toNat < 128))).2 = 0
          · rw [if_pos h4]
            exact ⟨1 + szB b, by simp, by omega, by rw [List.length_cons]; omega⟩
          · rw [if_neg h4] at h; exact absurd h h4
theorem grown_same (w : World) (o : Option Nat) : w.grownBy w o := ⟨rfl, rfl, rfl, Nat.le_refl _, fun _ _ _ => rfl⟩
theorem cut_list (s : ByteArray) (p : Nat) : (s.extract p s.size).data.toList = s.data.toList.drop p := by
  rw [Lib.extract_data]; exact List.take_of_length_le (by simp)
end Go.Proofs.Ytacgomhegjilgaa
namespace Go.Proofs.Ytacgomhegjilgaa
open Go.ChangeShapes Go.WideShapes Go.ChangeAt Go.RowKit En
theorem grown_trans {a b c : World} {o : Option Nat} (h : a.grownBy b o) (k : b.grownBy c o) : a.grownBy c o :=
  ⟨k.os.trans h.os, k.tape.trans h.tape, k.output.trans h.output, Nat.le_trans h.size k.size, fun i hi hne => (k.block i (by have := h.size; omega) hne).trans (h.block i hi hne)⟩
theorem grown_below {a b : World} (h : Below a.heap.size a b) (o : Option Nat) : a.grownBy b o := ⟨h.os, h.tape, h.output, h.size, fun i hi _ => h.block i hi⟩
theorem r_left (r : Nat) (s : ByteArray) (p : Nat) (err : Int) (hs : s.size ≤ 1000000) (w : World) (h : RS w r s p err) :
    Calls Try.prog 89 #[.pointer (some ⟨r, 0, none⟩)] w fun e w' => e = .returned (.int .i64 (((s.size - p : Nat) : Int))) ∧ w' = w.drew := by
  have c0 := cell_of_row w r 0 _ _ _ h.1
  have c1 := cell_of_row w r 1 _ _ _ h.1
  have hp := h.2
  have hw : IntKind.i64.wrap ((s.size : Int) - (p : Int)) = ((s.size - p : Nat) : Int) := by simp only [IntKind.wrap_i64]; omega
  have hw2 : wrap64 ((s.size : Int) - (p : Int)) = ((s.size - p : Nat) : Int) := by unfold wrap64; omega
  clear h
  go_enter Try.func89, Try.ntmps89
  go_wp2_with fail
  go_region
  go_wp2_with fail
  go_ret
  exact ⟨rfl, rfl⟩
end Go.Proofs.Ytacgomhegjilgaa
namespace Go.Proofs.Ytacgomhegjilgaa
open En
theorem mask_xor (x m : UInt8) : x ^^^ m ^^^ m = x := by rw [UInt8.xor_assoc, UInt8.xor_self, UInt8.xor_zero]
theorem lt_sz (m : Nat) (h : m < 18446744073709551616) : m < 2 ^ (8 * sz m) := by
  rcases Nat.eq_zero_or_pos m with rfl | h0
  · exact Nat.pow_pos (by omega)
  · obtain ⟨_, _, h3⟩ := Lib.bitLenAux_bounds 64 m h (by omega)
    have h3' : m < 2 ^ Lib.bitLen m := h3
    exact Nat.lt_of_lt_of_le h3' (Nat.pow_le_pow_right (by omega) (by unfold sz; omega))
theorem sz_pos (m : Nat) (h0 : 0 < m) (h : m < 18446744073709551616) : 0 < sz m := by
  rcases Nat.eq_zero_or_pos (sz m) with hz | hz
  · have := lt_sz m h
    rw [hz] at this; omega
  · exact hz
theorem mag_digs (n : Int) (h : n.natAbs < 18446744073709551616) (t : Nat) : ∀ j, j + t = sz n.natAbs → magL (mask n) (digs n j) = n.natAbs / 2 ^ (8 * j) := by
  induction t with
  | zero =>
    intro j hj
    have : j = sz n.natAbs := by omega
    rw [this, digs_all, Nat.div_eq_of_lt (lt_sz _ h)]; rfl
  | succ t ih =>
    intro j hj
    rw [← digs_step n j (by omega), magL_snoc, ih (j + 1) (by omega)]
    have e : dig n j ^^^ mask n = UInt8.ofNat (n.natAbs / 2 ^ (8 * j) % 256) := by unfold dig; rw [mask_xor]
    rw [e, UInt8.toNat_ofNat', show 8 * (j + 1) = 8 * j + 8 by omega, Nat.pow_add, ← Nat.div_div_eq_div_mul]
    omega
theorem mag_all (n : Int) (h : n.natAbs < 18446744073709551616) : magL (mask n) (digs n 0) = n.natAbs := by
  rw [mag_digs n h (sz n.natAbs) 0 (by omega)]; simp
set_option maxRecDepth 100000 in
theorem nat_255 : ∀ x : Fin 256, x.val ^^^ 255 = 255 - x.val := by decide
theorem xor_255 (b : UInt8) : (b ^^^ 255).toNat = 255 - b.toNat := by
  rw [UInt8.toNat_xor]
  exact nat_255 ⟨b.toNat, b.toNat_lt⟩
def In64 (n : Int) : Prop := -9223372036854775808 ≤ n ∧ n ≤ 9223372036854775807
theorem In64.abs {n : Int} (h : In64 n) : n.natAbs < 18446744073709551616 := by have := h.1; have := h.2; omega
end Go.Proofs.Ytacgomhegjilgaa
namespace Go.Proofs.Ytacgomhegjilgaa
open Go.ChangeShapes Go.WideShapes Go.ChangeAt Go.RowKit En
theorem szB_first (n : Int) (h : In64 n) : szB (first n) = sz n.natAbs ∧ maskB (first n) = mask n ∧ ((first n).toNat < 128 ↔ n < 0) := by
  have h8 := sz_le _ h.abs
  by_cases h0 : n < 0
  · have hp := sz_pos n.natAbs (by omega) h.abs
    have hf := first_neg n h0 h8
    have hl : (first n).toNat < 128 := by omega
    refine ⟨?_, ?_, ⟨fun _ => h0, fun _ => hl⟩⟩
    · unfold szB; rw [if_pos hl]; omega
    · unfold maskB mask; rw [if_pos hl, if_pos h0]
  · have hf := first_pos n h0 h8
    have hl : ¬ (first n).toNat < 128 := by omega
    refine ⟨?_, ?_, ⟨fun h => absurd h hl, fun h => absurd h h0⟩⟩
    · unfold szB; rw [if_neg hl]; omega
    · unfold maskB mask; rw [if_neg hl, if_neg h0]
/-- The greatest byte of a magnitude is not 0. -/
theorem top_digit (n : Int) (h : In64 n) (hp : 0 < sz n.natAbs) (t : List UInt8) : (digs n 0 ++ t).head? ≠ some (mask n) := by
  intro e
  have hd : digs n 0 = dig n (sz n.natAbs - 1) :: (digs n 0).tail := by
    have hne : digs n 0 ≠ [] := by intro h0; have := digs_len n 0; rw [h0] at this; simp at this; omega
    have e1 : (digs n 0).head? = some (dig n (sz n.natAbs - 1)) := by
      unfold digs
      rw [List.head?_map, List.head?_range, if_neg (by omega)]
      simp
    cases hc : digs n 0 with
    | nil => exact absurd hc hne
    | cons a b => rw [hc] at e1; simp at e1; rw [e1]; rfl
  rw [hd] at e
  have e2 : dig n (sz n.natAbs - 1) = mask n := by simpa using e
  have e3 : UInt8.ofNat (n.natAbs / 2 ^ (8 * (sz n.natAbs - 1)) % 256) = 0 := by
    have := congrArg (· ^^^ mask n) e2
    simp only [dig, mask_xor, UInt8.xor_self] at this
    exact this
  have e4 := congrArg UInt8.toNat e3
  rw [UInt8.toNat_ofNat'] at e4
  have hlt := lt_sz n.natAbs h.abs
  obtain ⟨_, h2, _⟩ := Lib.bitLenAux_bounds 64 n.natAbs h.abs (by
    intro h0; rw [h0] at hp; exact absurd hp (by decide))
  have h2' : 2 ^ (Lib.bitLen n.natAbs - 1) ≤ n.natAbs := h2
  have h3 : 2 ^ (8 * (sz n.natAbs - 1)) ≤ n.natAbs := Nat.le_trans (Nat.pow_le_pow_right (by omega) (by unfold sz at hp ⊢; omega)) h2'
  have h4 : 1 ≤ n.natAbs / 2 ^ (8 * (sz n.natAbs - 1)) := (Nat.one_le_div_iff (Nat.pow_pos (by omega))).2 h3
  have h5 : n.natAbs / 2 ^ (8 * (sz n.natAbs - 1)) < 256 := by
    rw [Nat.div_lt_iff_lt_mul (Nat.pow_pos (by omega))]
    rw [show 8 * sz n.natAbs = 8 + 8 * (sz n.natAbs - 1) by omega, Nat.pow_add] at hlt
    exact hlt
  simp at e4
  omega
theorem scan_num (n : Int) (h : In64 n) (t : List UInt8) : scan (num n ++ t) = (n, ((num n).length : Int), 0) := by
  obtain ⟨h1, h2, h3⟩ := szB_first n h
  have h8 := sz_le _ h.abs
  show scan (first n :: (digs n 0 ++ t)) = _
  have hl := digs_len n 0
  have ht : (digs n 0 ++ t).take (sz n.natAbs) = digs n 0 := by rw [List.take_left' (by omega)]
  have hsg : sg n.natAbs (decide ((first n).toNat < 128)) = (n, 0) := by
    unfold sg
    have := h.1; have := h.2
    by_cases h0 : n < 0
    · rw [decide_eq_true (h3.2 h0), if_pos ⟨rfl, by omega⟩]
      congr 1; omega
    · rw [decide_eq_false (fun hh => h0 (h3.1 hh)), if_neg (fun hh => nomatch hh.1), if_pos ⟨rfl, by omega⟩]
      congr 1; omega
  rw [scan_cons, h1, h2, if_neg (by omega), if_neg (by rw [List.length_append]; omega), if_neg, ht, mag_all n h.abs, hsg, num_len]
  · simp
  · rintro ⟨hp, he⟩
    exact top_digit n h hp t he
end Go.Proofs.Ytacgomhegjilgaa
namespace Go.Proofs.Ytacgomhegjilgaa
open Go.ChangeShapes Go.WideShapes Go.ChangeAt Go.RowKit En
theorem magnitude_any (n : Int) (h : In64 n) (w : World) :
    Calls Try.prog 90 #[.int .i64 n] w fun e w' => e = .returned (.int .u64 (n.natAbs : Int)) ∧ w' = w := by
  obtain ⟨h1, h2⟩ := h
  by_cases hn : n < 0
  · have e1 : IntKind.i64.wrap (n + 1) = n + 1 := by simp only [IntKind.wrap_i64]; omega
    have e2 : IntKind.i64.wrap ((0 : Int) - (n + 1)) = -(n + 1) := by simp only [IntKind.wrap_i64]; omega
    have e3 : IntKind.u64.wrap (-(n + 1)) = -(n + 1) := by simp only [IntKind.wrap_u64]; omega
    have e4 : IntKind.u64.wrap (-(n + 1) + 1) = (n.natAbs : Int) := by simp only [IntKind.wrap_u64]; omega
    have e5 : IntKind.u64.wrap (IntKind.u64.wrap ((0 : Int) - (n + 1)) + 1) = (n.natAbs : Int) := by simp only [IntKind.wrap_u64]; omega
    go_enter Try.func90, Try.ntmps90
    go_wp2_with fail
    go_ret
    exact ⟨by first | rfl | (simp [*]; done) | (congr 2; simp only [IntKind.wrap_u64, IntKind.wrap_i64]; omega), rfl⟩
  · have e1 : IntKind.u64.wrap n = (n.natAbs : Int) := by simp only [IntKind.wrap_u64]; omega
    go_enter Try.func90, Try.ntmps90
    go_wp2_with fail
    go_ret
    exact ⟨rfl, rfl⟩
theorem low_sz (m j : Nat) (h : m < 18446744073709551616) (hj : j < sz m) : m / 2 ^ (8 * j) ≠ 0 := by
  obtain ⟨_, h2, _⟩ := Lib.bitLenAux_bounds 64 m h (by
    intro h0; rw [h0] at hj; exact absurd hj (by have : sz 0 = 0 := by decide
                                                 omega))
  have h2' : 2 ^ (Lib.bitLen m - 1) ≤ m := h2
  have h3 : 2 ^ (8 * j) ≤ m := Nat.le_trans (Nat.pow_le_pow_right (by omega) (by unfold sz at hj; omega)) h2'
  have h4 : 1 ≤ m / 2 ^ (8 * j) := (Nat.one_le_div_iff (Nat.pow_pos (by omega))).2 h3
  omega
theorem own_shape {w : World} {base e n : Nat} {v : Value} {xs : List Value} (h : w.ownsRow base e 1 v n xs) : ∃ p c, v = .slice p n c := by
  rcases h.2 with ⟨rfl, rfl⟩ | ⟨g, cap, cur, rfl, _⟩
  · exact ⟨none, 0, rfl⟩
  · exact ⟨_, _, rfl⟩
theorem own_lit {w : World} (b : UInt8) : (w.alloc (.cells #[u8v b] 5)).ownsRow w.heap.size 5 1 (.slice (some ⟨w.heap.size, 0, none⟩) 1 1) 1 ([b].map u8v) :=
  ⟨rfl, .inr ⟨w.heap.size, 1, #[u8v b], rfl, Nat.le_refl _, Deep.blk_alloc_new w _, Nat.le_refl _, by unfold maxLen; omega, rfl, rfl⟩⟩
/-- The j lowest bytes, the lowest one first. -/
def lows (m j : Nat) : List UInt8 := (List.range j).map fun i => UInt8.ofNat (m / 2 ^ (8 * i) % 256)
theorem lows_snoc (m j : Nat) : lows m (j + 1) = lows m j ++ [UInt8.ofNat (m / 2 ^ (8 * j) % 256)] := by unfold lows; rw [List.range_succ, List.map_append]; rfl
theorem lows_get (m k j : Nat) (h : j < k) : ((lows m k).map u8v)[j]? = some (u8v (UInt8.ofNat (m / 2 ^ (8 * j) % 256))) := by
  simp [lows, h]
theorem div_next (m j : Nat) : m / 2 ^ (8 * j) / 256 = m / 2 ^ (8 * (j + 1)) := by rw [Nat.div_div_eq_div_mul, show 8 * (j + 1) = 8 * j + 8 by omega, Nat.pow_add]
set_option maxRecDepth 100000 in
set_option maxHeartbeats 1000000 in
theorem ref_number (n : Int) (h : In64 n) (w : World) :
    Calls Try.prog 71 #[.int .i64 n] w fun e w' => e = .returned (.string ⟨(num n).toArray⟩) ∧ Below w.heap.size w w' := by
  obtain ⟨i0, hi0, hz0, hz1, hz2⟩ := info_parts u8_info
  have Hi0 := Lib.hid hi0
  have Hz0 := Lib.hid hz0
  have Hz1 := Lib.hid hz1
  have Hz2 := Lib.hid hz2
  have hm := magnitude_any n h
  have h8 := sz_le _ h.abs
  obtain ⟨m, hmd⟩ : ∃ m, m = n.natAbs := ⟨_, rfl⟩
  have hb := h.abs
  rw [← hmd] at hm h8 hb
  have Hb := Lib.hid hb
  have Hlt := Lib.hid (lt_sz m hb)
  have Hmd := Lib.hid hmd
  have Hnil : Hid (w.ownsRow w.heap.size 5 1 (.slice none 0 0) 0 (List.map u8v [])) := Lib.hid (by exact ⟨rfl, Or.inl ⟨rfl, rfl⟩⟩)
  clear hi0 hz0 hz1 hz2 hmd hb
  go_enter Try.func71, Try.ntmps71
  go_wp2_with fail
  refine (hm _).mono ?_
  rintro e w1 ⟨rfl, rfl⟩
  clear hm
  go_wp2_with fail
  go_loopw [3, 4] (fun v q wr => ∃ j : Nat, j ≤ sz m ∧ q = .int .u64 ((m / 2 ^ (8 * j) : Nat) : Int) ∧ Hid (wr.ownsRow w1.heap.size 5 1 v j ((lows m j).map u8v)) ∧ Hid (Bk w1.heap.size w1 wr)) (fun _ q _ => (intOf q).toNat)
  case atStart => exact ⟨0, Nat.zero_le _, by simp, Hnil, Lib.hid (Bk.refl _ _)⟩
  case round =>
    obtain ⟨j, hj, rfl, hown, hB⟩ := hrel
    obtain ⟨q, hq⟩ : ∃ q, q = m / 2 ^ (8 * j) := ⟨_, rfl⟩
    rw [← hq]
    have Hq := Lib.hid hq
    have hjs : q ≠ 0 → j < sz m := fun h0 => by
      rcases Nat.lt_or_ge j (sz m) with hh | hh
      · exact hh
      · exfalso; apply h0
        rw [hq, show j = sz m by omega]
        exact Nat.div_eq_of_lt Hlt.out
    have Hdn := Lib.hid (show q / 256 = m / 2 ^ (8 * (j + 1)) by rw [hq]; exact div_next m j)
    have hqb : q < 18446744073709551616 := by rw [hq]; exact Nat.lt_of_le_of_lt (Nat.div_le_self _ _) Hb.out
    clear hq
    by_cases h0 : q = 0
    · have hjk : j = sz m := by
        rcases Nat.lt_or_ge j (sz m) with hh | hh
        · exact absurd (by rw [← Hq.out]; exact h0) (low_sz m j Hb.out hh)
        · omega
      subst h0
      rw [show (((0 : Nat)) : Int) = (0 : Int) from rfl]
      clear hjs hqb Hdn
      by_cases hn : n < 0
      · have hf : ((first n).toNat : Int) = 128 - (j : Int) := by rw [first_neg n hn (by rw [← Hmd.out]; exact h8), ← Hmd.out, hjk]
        have Hf : Hid (Value.int .u8 (128 - (j : Int)) = u8v (first n)) := Lib.hid (by unfold u8v; rw [hf])
        have hj8 : (j : Int) ≤ 8 := by omega
        clear hf
        obtain ⟨p, c, rfl⟩ := own_shape hown.out
        have hbw := hB.out.1.size
        have hlit := own_lit (w := wr) (first n)
        rw [← Hf.out] at hlit
        have Hlit := Lib.hid hlit
        have hk : n.natAbs = m := Hmd.out.symm
        have Hall : Hid (digs n j = []) := Lib.hid (by rw [hjk, ← hk]; exact digs_all n)
        have Hdg : Hid (∀ t, t < j → digs n (t + 1) ++ [dig n t] = digs n t ∧ dig n t = UInt8.ofNat (m / 2 ^ (8 * t) % 256) ^^^ 255) := Lib.hid (fun t ht => ⟨digs_step n t (by rw [hk, ← hjk]; exact ht), by unfold dig mask; rw [if_pos hn, hk]⟩)
        have Hnum : Hid (first n :: digs n 0 = num n) := Lib.hid rfl
        have Hjk := Lib.hid hjk
        have Hjn : Hid ((num n).length = 1 + j) := Lib.hid (by rw [num_len, hk, hjk])
        clear hlit hk hjk
        obtain ⟨wA, hwA⟩ : ∃ x, x = wr := ⟨_, rfl⟩
        subst hwA
        go_wp2_with fail
        go_loopw [6, 7] (fun o i wr => ∃ t : Nat, t ≤ j ∧ i = .int .i64 ((t : Int) - 1) ∧ Hid (wr.ownsRow wA.heap.size 5 1 o (1 + (j - t)) ((first n :: digs n t).map u8v)) ∧ Hid (Bk wA.heap.size wA wr)) (fun _ i _ => (intOf i + 1).toNat)
        case atStart =>
          refine ⟨j, Nat.le_refl _, rfl, Lib.hid ?_, Lib.hid ((Bk.refl _ _).alloc (Nat.le_refl _) _)⟩
          rw [Hall.out, Nat.sub_self]
          exact Hlit.out
        case round =>
          obtain ⟨t, ht, rfl, hown2, hB2⟩ := hrel
          have hbw2 := hB2.out.1.size
          rcases Nat.eq_zero_or_pos t with t0 | t0
          · subst t0
            have hown2' := hown2.out
            rw [Nat.sub_zero] at hown2'
            obtain ⟨g2, c2, cur2, rfl, _, hblk2, hcur2, hcell2⟩ := own_form hown2' (by omega)
            have k4 : (convert 111 9 (.slice (some ⟨g2, 0, none⟩) (1 + j) c2)).run Try.prog wr = .ok (.string ⟨(num n).toArray⟩) wr := by
              rw [← Hjn.out]
              refine run_convert_bytes_back wr 111 9 5 ⟨g2, 0, none⟩ c2 (num n) Try.underlying111 Try.underlying5 Try.underlying9 (fun x hx => ?_)
              rw [add_flat, Nat.zero_add, cell_of_row wr g2 x _ _ _ hblk2, hcell2 x (by rw [Hjn.out] at hx; omega), Hnum.out]
              simp [u8v, hx]
            have HBf := Lib.hid (Below.trans hB.out.1 (hB2.out.1.mono hbw))
            clear hblk2 hcell2 hcur2 hown2' hown2
            go_wp2_with fail
            go_ret
            exact ⟨rfl, HBf.out⟩
          · obtain ⟨x, rfl⟩ : ∃ x, t = x + 1 := ⟨t - 1, by omega⟩
            obtain ⟨gl, cl, curl, hvl, _, hbl, hcl, hcell⟩ := own_form hown.out (show 0 < j by omega)
            obtain ⟨rfl, rfl⟩ : p = some ⟨gl, 0, none⟩ ∧ c = cl := by simpa using hvl
            have hgl : gl < wA.heap.size := (Array.getElem?_eq_some_iff.1 hbl).1
            have hdx := Hdg.out x (by omega)
            obtain ⟨B, hBq⟩ : ∃ B, B = UInt8.ofNat (m / 2 ^ (8 * x) % 256) := ⟨_, rfl⟩
            have cx : wr.cell? ⟨gl, x, none⟩ = some (.int .u8 (B.toNat : Int)) := by
              rw [cell_of_row wr gl x _ _ _ ((hB2.out.1.block gl hgl).trans hbl), hcell x (by omega), lows_get m j x (by omega), hBq]; rfl
            have hB8 : (B.toNat : Int) ≤ 255 := by have := B.toNat_lt; omega
            have Hu : Hid (Value.int .u8 (255 - (B.toNat : Int)) = u8v (dig n x)) := Lib.hid (by
              unfold u8v; rw [hdx.2, ← hBq, xor_255]; congr 1; have := B.toNat_lt; omega)
            clear hBq
            have Hdx := Lib.hid hdx.1
            have ex : (((x + 1 : Nat) : Int)) - 1 = (x : Int) := by omega
            rw [ex]
            clear hdx hcell hbl hvl
            go_wp2_with (at_builtin; refine wpList_append_one rfl (.tmp 47) (.tmp 49) 111 rfl wA.heap.size 5 i0 _ 1 Try.underlying111 Hi0.out Hz0.out Hz1.out Hz2.out rfl u6 (1 + (j - (x + 1))) _ rfl (hown2.out.alloc _) wr.heap.size 1 (.int .u8 (255 - (B.toNat : Int))) rfl (by simp [go_sem]) rfl (by omega) (by omega) (by simp; omega) ?_; intro v3 w3 hown3 hg3; have HB3 := Lib.hid (bk_own (a := wA) (hB2.out.alloc (by omega) (.cells #[.int .u8 (255 - (B.toNat : Int))] 5)) (hown2.out.alloc _) hg3 (Nat.le_refl _)); have HO3 := Lib.hid hown3; clear hown3 hg3)
            go_roundw
            case rel =>
              refine ⟨x, by omega, by go_num, Lib.hid ?_, HB3⟩
              have h := HO3.out
              rw [Hu.out, ← List.map_singleton (f := u8v), ← List.map_append, List.cons_append, Hdx.out] at h
              rw [show 1 + (j - x) = 1 + (j - (x + 1)) + 1 from by omega]
              exact h
            case measure => first | (simp [intOf]; done) | (simp [intOf]; omega)
      · have hf : ((first n).toNat : Int) = 128 + (j : Int) := by rw [first_pos n hn (by rw [← Hmd.out]; exact h8), ← Hmd.out, hjk]
        have Hf : Hid (Value.int .u8 (128 + (j : Int)) = u8v (first n)) := Lib.hid (by unfold u8v; rw [hf])
        have hj8 : (j : Int) ≤ 8 := by omega
        clear hf
        obtain ⟨p, c, rfl⟩ := own_shape hown.out
        have hbw := hB.out.1.size
        have hlit := own_lit (w := wr) (first n)
        rw [← Hf.out] at hlit
        have Hlit := Lib.hid hlit
        have hk : n.natAbs = m := Hmd.out.symm
        have Hall : Hid (digs n j = []) := Lib.hid (by rw [hjk, ← hk]; exact digs_all n)
        have Hdg : Hid (∀ t, t < j → digs n (t + 1) ++ [dig n t] = digs n t ∧ dig n t = UInt8.ofNat (m / 2 ^ (8 * t) % 256)) := Lib.hid (fun t ht => ⟨digs_step n t (by rw [hk, ← hjk]; exact ht), by unfold dig mask; rw [if_neg hn, UInt8.xor_zero, hk]⟩)
        have Hnum : Hid (first n :: digs n 0 = num n) := Lib.hid rfl
        have Hjk := Lib.hid hjk
        have Hjn : Hid ((num n).length = 1 + j) := Lib.hid (by rw [num_len, hk, hjk])
        clear hlit hk hjk
        obtain ⟨wA, hwA⟩ : ∃ x, x = wr := ⟨_, rfl⟩
        subst hwA
        go_wp2_with fail
        go_loopw [6, 7] (fun o i wr => ∃ t : Nat, t ≤ j ∧ i = .int .i64 ((t : Int) - 1) ∧ Hid (wr.ownsRow wA.heap.size 5 1 o (1 + (j - t)) ((first n :: digs n t).map u8v)) ∧ Hid (Bk wA.heap.size wA wr)) (fun _ i _ => (intOf i + 1).toNat)
        case atStart =>
          refine ⟨j, Nat.le_refl _, rfl, Lib.hid ?_, Lib.hid ((Bk.refl _ _).alloc (Nat.le_refl _) _)⟩
          rw [Hall.out, Nat.sub_self]
          exact Hlit.out
        case round =>
          obtain ⟨t, ht, rfl, hown2, hB2⟩ := hrel
          have hbw2 := hB2.out.1.size
          rcases Nat.eq_zero_or_pos t with t0 | t0
          · subst t0
            have hown2' := hown2.out
            rw [Nat.sub_zero] at hown2'
            obtain ⟨g2, c2, cur2, rfl, _, hblk2, hcur2, hcell2⟩ := own_form hown2' (by omega)
            have k4 : (convert 111 9 (.slice (some ⟨g2, 0, none⟩) (1 + j) c2)).run Try.prog wr = .ok (.string ⟨(num n).toArray⟩) wr := by
              rw [← Hjn.out]
              refine run_convert_bytes_back wr 111 9 5 ⟨g2, 0, none⟩ c2 (num n) Try.underlying111 Try.underlying5 Try.underlying9 (fun x hx => ?_)
              rw [add_flat, Nat.zero_add, cell_of_row wr g2 x _ _ _ hblk2, hcell2 x (by rw [Hjn.out] at hx; omega), Hnum.out]
              simp [u8v, hx]
            have HBf := Lib.hid (Below.trans hB.out.1 (hB2.out.1.mono hbw))
            clear hblk2 hcell2 hcur2 hown2' hown2
            go_wp2_with fail
            go_ret
            exact ⟨rfl, HBf.out⟩
          · obtain ⟨x, rfl⟩ : ∃ x, t = x + 1 := ⟨t - 1, by omega⟩
            obtain ⟨gl, cl, curl, hvl, _, hbl, hcl, hcell⟩ := own_form hown.out (show 0 < j by omega)
            obtain ⟨rfl, rfl⟩ : p = some ⟨gl, 0, none⟩ ∧ c = cl := by simpa using hvl
            have hgl : gl < wA.heap.size := (Array.getElem?_eq_some_iff.1 hbl).1
            have hdx := Hdg.out x (by omega)
            obtain ⟨B, hBq⟩ : ∃ B, B = dig n x := ⟨_, rfl⟩
            have cx : wr.cell? ⟨gl, x, none⟩ = some (.int .u8 (B.toNat : Int)) := by
              rw [cell_of_row wr gl x _ _ _ ((hB2.out.1.block gl hgl).trans hbl), hcell x (by omega), lows_get m j x (by omega), ← hdx.2, hBq]; rfl
            have Hu : Hid (Value.int .u8 (B.toNat : Int) = u8v (dig n x)) := Lib.hid (by rw [hBq]; rfl)
            clear hBq
            have Hdx := Lib.hid hdx.1
            have ex : (((x + 1 : Nat) : Int)) - 1 = (x : Int) := by omega
            rw [ex]
            clear hdx hcell hbl hvl
            go_wp2_with (at_builtin; refine wpList_append_one rfl (.tmp 47) (.tmp 49) 111 rfl wA.heap.size 5 i0 _ 1 Try.underlying111 Hi0.out Hz0.out Hz1.out Hz2.out rfl u6 (1 + (j - (x + 1))) _ rfl (hown2.out.alloc _) wr.heap.size 1 (.int .u8 (B.toNat : Int)) rfl (by simp [go_sem]) rfl (by omega) (by omega) (by simp; omega) ?_; intro v3 w3 hown3 hg3; have HB3 := Lib.hid (bk_own (a := wA) (hB2.out.alloc (by omega) (.cells #[.int .u8 (B.toNat : Int)] 5)) (hown2.out.alloc _) hg3 (Nat.le_refl _)); have HO3 := Lib.hid hown3; clear hown3 hg3)
            go_roundw
            case rel =>
              refine ⟨x, by omega, by go_num, Lib.hid ?_, HB3⟩
              have h := HO3.out
              rw [Hu.out, ← List.map_singleton (f := u8v), ← List.map_append, List.cons_append, Hdx.out] at h
              rw [show 1 + (j - x) = 1 + (j - (x + 1)) + 1 from by omega]
              exact h
            case measure => first | (simp [intOf]; done) | (simp [intOf]; omega)
    · have hbs := hB.out.1.size
      have hj2 := hjs h0
      clear hjs
      have hq0 : (0 : Int) < (q : Int) := by omega
      have Hu : Hid (Value.int .u8 ((q : Int) % 256) = u8v (UInt8.ofNat (q % 256))) := Lib.hid (by unfold u8v; rw [UInt8.toNat_ofNat']; congr 1; omega)
      go_wp2_with (at_builtin; refine wpList_append_one rfl (.tmp 15) (.tmp 19) 111 rfl w1.heap.size 5 i0 _ 1 Try.underlying111 Hi0.out Hz0.out Hz1.out Hz2.out rfl u3 j _ rfl (hown.out.alloc _) wr.heap.size 1 (.int .u8 ((q : Int) % 256)) rfl (by simp [go_sem]) rfl (by omega) (by omega) (by simp; omega) ?_; intro v3 w3 hown3 hg3; have HB3 := Lib.hid (bk_own (a := w1) (hB.out.alloc (by omega) (.cells #[.int .u8 ((q : Int) % 256)] 5)) (hown.out.alloc _) hg3 (Nat.le_refl _)); have HO3 := Lib.hid hown3; clear hown3 hg3)
      go_roundw
      case rel =>
        refine ⟨j + 1, by omega, ?_, Lib.hid ?_, HB3⟩
        · rw [← Hdn.out]; simp
        · have h := HO3.out
          rw [Hu.out, ← List.map_singleton (f := u8v), ← List.map_append] at h
          rw [lows_snoc, ← Hq.out]
          exact h
      case measure => simp [intOf]; omega
end Go.Proofs.Ytacgomhegjilgaa
namespace Go.Proofs.Ytacgomhegjilgaa
open Go.ChangeShapes Go.WideShapes Go.ChangeAt Go.RowKit En
/-- The Reader behind a pointer, which can be nil. -/
abbrev Rst := Nat × Int
def RP (w : World) (q : Option Addr) (s : ByteArray) (st : Rst) : Prop :=
  (q = none ∧ s = ByteArray.empty ∧ st = (0, 1)) ∨ ∃ r, q = some ⟨r, 0, none⟩ ∧ RS w r s st.1 st.2
theorem RP.below {w w' : World} {q : Option Addr} {s : ByteArray} {st : Rst} (h : RP w q s st) (hb : Below w.heap.size w w') : RP w' q s st := by
  rcases h with h | ⟨r, e, h⟩
  · exact Or.inl h
  · exact Or.inr ⟨r, e, h.below hb⟩
def Gq (w w' : World) (q : Option Addr) : Prop := w.grownBy w' (q.map Addr.block)
theorem Gq.trans {a b c : World} {q : Option Addr} (h : Gq a b q) (k : Gq b c q) : Gq a c q := grown_trans h k
theorem Gq.of_below {a b : World} (h : Below a.heap.size a b) (q : Option Addr) : Gq a b q := grown_below h _
theorem Gq.refl (a : World) (q : Option Addr) : Gq a a q := grown_same _ _
/-- Reading with a scanner. -/
def rdG {α : Type} (z : α) (f : List UInt8 → α × Int × Int) (s : ByteArray) (st : Rst) : α × Rst :=
  if st.2 = 0 then (if (f (s.data.toList.drop st.1)).2.2 = 0 then ((f (s.data.toList.drop st.1)).1, (st.1 + (f (s.data.toList.drop st.1)).2.1.toNat, 0)) else (z, (st.1, (f (s.data.toList.drop st.1)).2.2))) else (z, st)
def Sized {α : Type} (f : List UInt8 → α × Int × Int) : Prop := ∀ l, (f l).2.2 = 0 → ∃ k : Nat, (f l).2.1 = (k : Int) ∧ k ≤ l.length
theorem scan_sized : Sized scan := fun l h => by
  obtain ⟨k, h1, _, h2⟩ := scan_size l h
  exact ⟨k, h1, h2⟩
theorem put_below {w wg : World} (h : Below w.heap.size w wg) (g o : Nat) (v : Value) : w.grownBy (wg.setCell ⟨g, o, none⟩ v) (some g) :=
  ⟨h.os, h.tape, h.output, by have := h.size; simp [World.setCell]; omega, fun i hi hne => by
    rw [Deep.blk_setCell_other _ _ _ _ (fun e => hne (by rw [e]))]; exact h.block i hi⟩
theorem err_q (q : Option Addr) (s : ByteArray) (st : Rst) (w : World) (h : RP w q s st) :
    Calls Try.prog 88 #[.pointer q] w fun e w' => e = .returned (.int .i64 st.2) ∧ w = w' := by
  rcases h with ⟨rfl, rfl, rfl⟩ | ⟨r, rfl, h⟩
  · go_enter Try.func88, Try.ntmps88
    go_wp2_with fail
    go_ret
    exact ⟨rfl, rfl⟩
  · exact (r_err r s st.1 st.2 w h).mono fun _ _ ⟨a, b⟩ => ⟨a, b.symm⟩
theorem left_q (q : Option Addr) (s : ByteArray) (st : Rst) (hs : s.size ≤ 1000000) (w : World) (h : RP w q s st) :
    Calls Try.prog 89 #[.pointer q] w fun e w' => e = .returned (.int .i64 (((s.size - st.1 : Nat) : Int))) ∧ Below w.heap.size w w' := by
  rcases h with ⟨rfl, rfl, rfl⟩ | ⟨r, rfl, h⟩
  · go_enter Try.func89, Try.ntmps89
    go_wp2_with fail
    go_ret
    exact ⟨rfl, Below.refl _ _⟩
  · exact (r_left r s st.1 st.2 hs w h).mono fun _ _ ⟨a, b⟩ => ⟨a, by rw [b]; exact Below.drew (Below.refl _ _)⟩
def endE (s : ByteArray) (st : Rst) : Int := if st.2 = 0 then (if st.1 < s.size then 3 else 0) else st.2
theorem end_q (q : Option Addr) (s : ByteArray) (st : Rst) (hs : s.size ≤ 1000000) (w : World) (h : RP w q s st) :
    Calls Try.prog 70 #[.pointer q] w fun e w' => e = .returned (.int .i64 (endE s st)) ∧ Below w.heap.size w w' := by
  obtain ⟨pp, er⟩ := st
  have HR := Lib.hid h
  have hle := left_q q s (pp, er) hs w h
  clear h
  by_cases h0 : er = 0
  · subst h0
    by_cases hl : pp < s.size
    · have e : endE s (pp, 0) = 3 := by unfold endE; rw [if_pos rfl, if_pos hl]
      rw [e]
      obtain ⟨n, hn⟩ : ∃ n, n = s.size - pp := ⟨_, rfl⟩
      have hn0 : 0 < n := by omega
      rw [show s.size - (pp, (0 : Int)).1 = n from hn.symm] at hle
      clear hn e hl
      go_enter Try.func70, Try.ntmps70
      go_wp2_with fail
      refine (err_q q s (pp, 0) w HR.out).mono ?_
      rintro e w1 ⟨rfl, rfl⟩
      go_wp2_with fail
      refine hle.mono ?_
      rintro e w1 ⟨rfl, hb⟩
      have HB := Lib.hid hb
      clear hb
      go_wp2_with fail
      go_ret
      exact ⟨rfl, HB.out⟩
    · have e : endE s (pp, 0) = 0 := by unfold endE; rw [if_pos rfl, if_neg hl]
      rw [e]
      rw [show s.size - (pp, (0 : Int)).1 = 0 by show s.size - pp = 0; omega] at hle
      clear e hl
      go_enter Try.func70, Try.ntmps70
      go_wp2_with fail
      refine (err_q q s (pp, 0) w HR.out).mono ?_
      rintro e w1 ⟨rfl, rfl⟩
      go_wp2_with fail
      refine hle.mono ?_
      rintro e w1 ⟨rfl, hb⟩
      have HB := Lib.hid hb
      clear hb
      go_wp2_with fail
      go_ret
      exact ⟨rfl, HB.out⟩
  · have e : endE s (pp, er) = er := by unfold endE; rw [if_neg h0]
    rw [e]
    clear e hle
    go_enter Try.func70, Try.ntmps70
    go_wp2_with fail
    refine (err_q q s (pp, er) w HR.out).mono ?_
    rintro e w1 ⟨rfl, rfl⟩
    go_wp2_with fail
    go_ret
    exact ⟨rfl, Below.refl _ _⟩
set_option maxRecDepth 100000 in
set_option maxHeartbeats 1000000 in
theorem part_int (q : Option Addr) (s : ByteArray) (st : Rst) (hs : s.size ≤ 1000000) (f : List UInt8 → Int × Int × Int) (hf : Sized f) (w : World) (h : RP w q s st)
    (hsc : ∀ (p : Nat) (W : World), p ≤ s.size → Below w.heap.size w W → Calls Try.prog 87 #[.string (s.extract p s.size)] W fun e W' => e = .returned (.tuple #[.int .i64 (f (s.data.toList.drop p)).1, .int .i64 (f (s.data.toList.drop p)).2.1, .int .i64 (f (s.data.toList.drop p)).2.2]) ∧ Below W.heap.size W W') :
    Calls Try.prog 84 #[.pointer q, .func (.func 87) #[] #[]] w fun e w' => e = .returned (.int .i64 (rdG 0 f s st).1) ∧ RP w' q s (rdG 0 f s st).2 ∧ Gq w w' q := by
  obtain ⟨p, err⟩ := st
  have HR := Lib.hid h
  by_cases he : err = 0
  · subst he
    rcases h with ⟨_, _, h1⟩ | ⟨r, rfl, h⟩
    · simp at h1
    · dsimp only at h
      have hp := h.2
      obtain ⟨x, hx⟩ : ∃ x, x = f (s.data.toList.drop p) := ⟨_, rfl⟩
      have e0 : rdG 0 f s (p, 0) = if x.2.2 = 0 then (x.1, (p + x.2.1.toNat, 0)) else (0, (p, x.2.2)) := by rw [hx]; rfl
      have Hx := Lib.hid (hf (s.data.toList.drop p))
      rw [← hx] at Hx
      have hsc' := fun W => hsc p W hp
      rw [← hx] at hsc'
      have hr := h.lt
      have c0 := cell_of_row w r 0 _ _ _ h.1
      have c1 := cell_of_row w r 1 _ _ _ h.1
      have H := Lib.hid h
      have Hsc := Lib.hid hsc'
      rw [e0]
      clear h e0 hx hsc hsc'
      have cG0 : Hid (∀ d os, (Go.Sort.grow (redrawn w d) os).cell? ⟨r, 0, none⟩ = some (.string s)) := Lib.hid (fun d os => cell_regrown c0 d os)
      have cG1 : ∀ d os, (Go.Sort.grow (redrawn w d) os).cell? ⟨r, 1, none⟩ = some (.int .i64 (p : Int)) := fun d os => cell_regrown c1 d os
      have cG0' := cG0.out
      by_cases hx0 : x.2.2 = 0
      · rw [if_pos hx0]
        obtain ⟨k, hk, hk2⟩ := Hx.out hx0
        rw [List.length_drop] at hk2
        have hk3 : p + k ≤ s.size := by simp at hk2; omega
        have hkw : IntKind.i64.wrap ((p : Int) + (k : Int)) = (p : Int) + (k : Int) := by simp only [IntKind.wrap_i64]; omega
        have CL : Hid (∀ d os, Calls Try.prog 87 #[.string (s.extract p s.size)] (Go.Sort.grow (redrawn w d) os) fun e w'' => e = .returned (.tuple #[.int .i64 x.1, .int .i64 (k : Int), .int .i64 0]) ∧ ∃ p : Regrown, w'' = Go.Sort.grow (redrawn w p.d) p.os) := Lib.hid (fun d os => Calls.regrown_of (by
          have := Hsc.out _ (below_regrown w d os)
          rw [hk, hx0] at this
          exact this))
        simp only [hk, Int.toNat_natCast]
        clear Hx Hsc hk hx0
        go_enter Try.func84, Try.ntmps84
        go_wp2_with fail
        refine (err_q _ s (p, 0) w HR.out).mono ?_
        rintro e w1 ⟨rfl, rfl⟩
        go_wp2_with fail
        refine wp_region_quiet_below (by kernel_rfl) (by kernel_rfl) ?_
        repeat (go_big_quiet_step ((exact CL.out _ _)))
        refine wpQuiet_nil ?_
        intro _ hw'
        obtain ⟨⟨dq, osq⟩, hw''⟩ := hw'
        subst hw''
        have HB := Lib.hid (below_regrown w dq osq)
        have b1 := (HB.out.block r hr).trans H.out.1
        have d1 := cell_of_row _ r 1 _ _ _ b1
        have f1 := frozen_of_row _ r 1 _ _ b1
        have Hb1 := Lib.hid b1
        clear cG0' cG1 b1 c0 c1
        generalize Go.Sort.grow (redrawn w dq) osq = wg at *
        go_wp2_with fail
        go_ret
        refine ⟨rfl, Or.inr ⟨r, rfl, ?_, hk3⟩, put_below HB.out _ _ _⟩
        have := blk_set (w := wg) (off := 1) (.int .i64 ((p : Int) + (k : Int))) Hb1.out
        rw [this]
        rfl
      · rw [if_neg hx0]
        have CL : Hid (∀ d os, Calls Try.prog 87 #[.string (s.extract p s.size)] (Go.Sort.grow (redrawn w d) os) fun e w'' => e = .returned (.tuple #[.int .i64 x.1, .int .i64 x.2.1, .int .i64 x.2.2]) ∧ ∃ p : Regrown, w'' = Go.Sort.grow (redrawn w p.d) p.os) := Lib.hid (fun d os => Calls.regrown_of (Hsc.out _ (below_regrown w d os)))
        clear Hx Hsc
        go_enter Try.func84, Try.ntmps84
        go_wp2_with fail
        refine (err_q _ s (p, 0) w HR.out).mono ?_
        rintro e w1 ⟨rfl, rfl⟩
        go_wp2_with fail
        refine wp_region_quiet_below (by kernel_rfl) (by kernel_rfl) ?_
        repeat (go_big_quiet_step ((exact CL.out _ _)))
        refine wpQuiet_nil ?_
        intro _ hw'
        obtain ⟨⟨dq, osq⟩, hw''⟩ := hw'
        subst hw''
        have HB := Lib.hid (below_regrown w dq osq)
        have b1 := (HB.out.block r hr).trans H.out.1
        have f2 := frozen_of_row _ r 2 _ _ b1
        have d2 := cell_of_row _ r 2 _ _ _ b1
        have Hb1 := Lib.hid b1
        clear cG0' cG1 b1 c0 c1
        generalize Go.Sort.grow (redrawn w dq) osq = wg at *
        go_wp2_with fail
        go_ret
        refine ⟨rfl, Or.inr ⟨r, rfl, ?_, hp⟩, put_below HB.out _ _ _⟩
        have := blk_set (w := wg) (off := 2) (.int .i64 x.2.2) Hb1.out
        rw [this]
        rfl
  · have e0 : rdG 0 f s (p, err) = (0, (p, err)) := by unfold rdG; rw [if_neg he]
    rw [e0]
    clear h e0 hsc
    go_enter Try.func84, Try.ntmps84
    go_wp2_with fail
    refine (err_q q s (p, err) w HR.out).mono ?_
    rintro e w1 ⟨rfl, rfl⟩
    go_wp2_with fail
    go_ret
    exact ⟨rfl, HR.out, Gq.refl _ _⟩
set_option maxRecDepth 100000 in
set_option maxHeartbeats 1000000 in
theorem part_cnt (q : Option Addr) (s : ByteArray) (st : Rst) (hs : s.size ≤ 1000000) (f : List UInt8 → Int × Int × Int) (hf : Sized f) (cp : Addr) (w : World) (h : RP w q s st)
    (hsc : ∀ (p : Nat) (W : World), p ≤ s.size → Below w.heap.size w W → Calls Try.prog 85 #[.string (s.extract p s.size), .pointer (some cp)] W fun e W' => e = .returned (.tuple #[.int .i64 (f (s.data.toList.drop p)).1, .int .i64 (f (s.data.toList.drop p)).2.1, .int .i64 (f (s.data.toList.drop p)).2.2]) ∧ Below W.heap.size W W') :
    Calls Try.prog 84 #[.pointer q, .func (.func 85) #[] #[.pointer (some cp)]] w fun e w' => e = .returned (.int .i64 (rdG 0 f s st).1) ∧ RP w' q s (rdG 0 f s st).2 ∧ Gq w w' q := by
  obtain ⟨p, err⟩ := st
  have HR := Lib.hid h
  by_cases he : err = 0
  · subst he
    rcases h with ⟨_, _, h1⟩ | ⟨r, rfl, h⟩
    · simp at h1
    · dsimp only at h
      have hp := h.2
      obtain ⟨x, hx⟩ : ∃ x, x = f (s.data.toList.drop p) := ⟨_, rfl⟩
      have e0 : rdG 0 f s (p, 0) = if x.2.2 = 0 then (x.1, (p + x.2.1.toNat, 0)) else (0, (p, x.2.2)) := by rw [hx]; rfl
      have Hx := Lib.hid (hf (s.data.toList.drop p))
      rw [← hx] at Hx
      have hsc' := fun W => hsc p W hp
      rw [← hx] at hsc'
      have hr := h.lt
      have c0 := cell_of_row w r 0 _ _ _ h.1
      have c1 := cell_of_row w r 1 _ _ _ h.1
      have H := Lib.hid h
      have Hsc := Lib.hid hsc'
      rw [e0]
      clear h e0 hx hsc hsc'
      have cG0 : Hid (∀ d os, (Go.Sort.grow (redrawn w d) os).cell? ⟨r, 0, none⟩ = some (.string s)) := Lib.hid (fun d os => cell_regrown c0 d os)
      have cG1 : ∀ d os, (Go.Sort.grow (redrawn w d) os).cell? ⟨r, 1, none⟩ = some (.int .i64 (p : Int)) := fun d os => cell_regrown c1 d os
      have cG0' := cG0.out
      by_cases hx0 : x.2.2 = 0
      · rw [if_pos hx0]
        obtain ⟨k, hk, hk2⟩ := Hx.out hx0
        rw [List.length_drop] at hk2
        have hk3 : p + k ≤ s.size := by simp at hk2; omega
        have hkw : IntKind.i64.wrap ((p : Int) + (k : Int)) = (p : Int) + (k : Int) := by simp only [IntKind.wrap_i64]; omega
        have CL : Hid (∀ d os, Calls Try.prog 85 #[.string (s.extract p s.size), .pointer (some cp)] (Go.Sort.grow (redrawn w d) os) fun e w'' => e = .returned (.tuple #[.int .i64 x.1, .int .i64 (k : Int), .int .i64 0]) ∧ ∃ p : Regrown, w'' = Go.Sort.grow (redrawn w p.d) p.os) := Lib.hid (fun d os => Calls.regrown_of (by
          have := Hsc.out _ (below_regrown w d os)
          rw [hk, hx0] at this
          exact this))
        simp only [hk, Int.toNat_natCast]
        clear Hx Hsc hk hx0
        go_enter Try.func84, Try.ntmps84
        go_wp2_with fail
        refine (err_q _ s (p, 0) w HR.out).mono ?_
        rintro e w1 ⟨rfl, rfl⟩
        go_wp2_with fail
        refine wp_region_quiet_below (by kernel_rfl) (by kernel_rfl) ?_
        repeat (go_big_quiet_step ((exact CL.out _ _)))
        refine wpQuiet_nil ?_
        intro _ hw'
        obtain ⟨⟨dq, osq⟩, hw''⟩ := hw'
        subst hw''
        have HB := Lib.hid (below_regrown w dq osq)
        have b1 := (HB.out.block r hr).trans H.out.1
        have d1 := cell_of_row _ r 1 _ _ _ b1
        have f1 := frozen_of_row _ r 1 _ _ b1
        have Hb1 := Lib.hid b1
        clear cG0' cG1 b1 c0 c1
        generalize Go.Sort.grow (redrawn w dq) osq = wg at *
        go_wp2_with fail
        go_ret
        refine ⟨rfl, Or.inr ⟨r, rfl, ?_, hk3⟩, put_below HB.out _ _ _⟩
        have := blk_set (w := wg) (off := 1) (.int .i64 ((p : Int) + (k : Int))) Hb1.out
        rw [this]
        rfl
      · rw [if_neg hx0]
        have CL : Hid (∀ d os, Calls Try.prog 85 #[.string (s.extract p s.size), .pointer (some cp)] (Go.Sort.grow (redrawn w d) os) fun e w'' => e = .returned (.tuple #[.int .i64 x.1, .int .i64 x.2.1, .int .i64 x.2.2]) ∧ ∃ p : Regrown, w'' = Go.Sort.grow (redrawn w p.d) p.os) := Lib.hid (fun d os => Calls.regrown_of (Hsc.out _ (below_regrown w d os)))
        clear Hx Hsc
        go_enter Try.func84, Try.ntmps84
        go_wp2_with fail
        refine (err_q _ s (p, 0) w HR.out).mono ?_
        rintro e w1 ⟨rfl, rfl⟩
        go_wp2_with fail
        refine wp_region_quiet_below (by kernel_rfl) (by kernel_rfl) ?_
        repeat (go_big_quiet_step ((exact CL.out _ _)))
        refine wpQuiet_nil ?_
        intro _ hw'
        obtain ⟨⟨dq, osq⟩, hw''⟩ := hw'
        subst hw''
        have HB := Lib.hid (below_regrown w dq osq)
        have b1 := (HB.out.block r hr).trans H.out.1
        have f2 := frozen_of_row _ r 2 _ _ b1
        have d2 := cell_of_row _ r 2 _ _ _ b1
        have Hb1 := Lib.hid b1
        clear cG0' cG1 b1 c0 c1
        generalize Go.Sort.grow (redrawn w dq) osq = wg at *
        go_wp2_with fail
        go_ret
        refine ⟨rfl, Or.inr ⟨r, rfl, ?_, hp⟩, put_below HB.out _ _ _⟩
        have := blk_set (w := wg) (off := 2) (.int .i64 x.2.2) Hb1.out
        rw [this]
        rfl
  · have e0 : rdG 0 f s (p, err) = (0, (p, err)) := by unfold rdG; rw [if_neg he]
    rw [e0]
    clear h e0 hsc
    go_enter Try.func84, Try.ntmps84
    go_wp2_with fail
    refine (err_q q s (p, err) w HR.out).mono ?_
    rintro e w1 ⟨rfl, rfl⟩
    go_wp2_with fail
    go_ret
    exact ⟨rfl, HR.out, Gq.refl _ _⟩
end Go.Proofs.Ytacgomhegjilgaa
namespace Go.Proofs.Ytacgomhegjilgaa
open Go.ChangeShapes Go.WideShapes Go.ChangeAt Go.RowKit En
/-- A length of at most most; too is the error if it is greater. -/
def scanZ (most too : Int) (l : List UInt8) : Int × Int × Int :=
  if (scan l).2.2 = 0 then (if (scan l).1 < 0 then (0, 0, 3) else if most < (scan l).1 then (0, 0, too) else if (l.length : Int) - (scan l).2.1 < (scan l).1 then (0, 0, 4) else ((scan l).1, (scan l).2.1, 0)) else (0, 0, (scan l).2.2)
theorem scanZ_ok (most too : Int) (l : List UInt8) (ht : too ≠ 0) (h : (scanZ most too l).2.2 = 0) :
    ∃ n k : Nat, scanZ most too l = ((n : Int), (k : Int), 0) ∧ k + n ≤ l.length ∧ (n : Int) ≤ most ∧ scan l = ((n : Int), (k : Int), 0) := by
  unfold scanZ at h ⊢
  by_cases h0 : (scan l).2.2 = 0
  · rw [if_pos h0] at h ⊢
    obtain ⟨k, h1, h2⟩ := scan_sized l h0
    by_cases ha : (scan l).1 < 0
    · rw [if_pos ha] at h; simp at h
    · rw [if_neg ha] at h ⊢
      by_cases hb : most < (scan l).1
      · rw [if_pos hb] at h; exact absurd h ht
      · rw [if_neg hb] at h ⊢
        by_cases hc : (l.length : Int) - (scan l).2.1 < (scan l).1
        · rw [if_pos hc] at h; simp at h
        · rw [if_neg hc]
          refine ⟨(scan l).1.toNat, k, ?_, by omega, by omega, ?_⟩
          · rw [h1]; congr 1; omega
          · apply Prod.ext
            · show _ = ((scan l).1.toNat : Int); omega
            · exact Prod.ext h1 h0
  · rw [if_neg h0] at h; exact absurd h h0
theorem scanZ_sized (most too : Int) (ht : too ≠ 0) : Sized (scanZ most too) := fun l h => by
  obtain ⟨n, k, e, h1, _⟩ := scanZ_ok most too l ht h
  rw [e]
  exact ⟨k, rfl, by omega⟩
set_option maxRecDepth 100000 in
theorem scan_size_any (s : ByteArray) (most too : Int) (hs : s.size ≤ 1000000) (w : World) :
    Calls Try.prog 86 #[.string s, .int .i64 most, .int .i64 too] w fun e w' => e = .returned (.tuple #[.int .i64 (scanZ most too s.data.toList).1, .int .i64 (scanZ most too s.data.toList).2.1, .int .i64 (scanZ most too s.data.toList).2.2]) ∧ w' = w := by
  have h := scan_any s hs w
  have hsz := scan_sized s.data.toList
  obtain ⟨⟨n, z, e⟩, hx⟩ : ∃ x, x = scan s.data.toList := ⟨_, rfl⟩
  have e0 : scanZ most too s.data.toList = if e = 0 then (if n < 0 then (0, 0, 3) else if most < n then (0, 0, too) else if (s.size : Int) - z < n then (0, 0, 4) else (n, z, 0)) else (0, 0, e) := by
    unfold scanZ; rw [← hx]
    rw [show s.data.toList.length = s.size by simp]
  rw [← hx] at h hsz
  rw [e0]
  clear hx e0
  by_cases h0 : e = 0
  · subst h0
    rw [if_pos rfl]
    obtain ⟨k, hk, hk2⟩ := hsz rfl
    dsimp only at hk
    subst hk
    rw [show s.data.toList.length = s.size by simp] at hk2
    have hw : wrap64 ((s.size : Int) - (k : Int)) = (s.size : Int) - (k : Int) := by unfold wrap64; omega
    have hw2 : IntKind.i64.wrap ((s.size : Int) - (k : Int)) = (s.size : Int) - (k : Int) := by simp only [IntKind.wrap_i64]; omega
    by_cases ha : n < 0
    · rw [if_pos ha]
      go_enter Try.func86, Try.ntmps86
      go_wp2_with fail
      refine h.mono ?_
      rintro e w1 ⟨rfl, rfl⟩
      go_wp2_with fail
      go_ret3
      exact ⟨rfl, rfl⟩
    · rw [if_neg ha]
      by_cases hb : most < n
      · rw [if_pos hb]
        go_enter Try.func86, Try.ntmps86
        go_wp2_with fail
        refine h.mono ?_
        rintro e w1 ⟨rfl, rfl⟩
        go_wp2_with fail
        go_ret3
        exact ⟨rfl, rfl⟩
      · rw [if_neg hb]
        by_cases hc : (s.size : Int) - (k : Int) < n
        · rw [if_pos hc]
          go_enter Try.func86, Try.ntmps86
          go_wp2_with fail
          refine h.mono ?_
          rintro e w1 ⟨rfl, rfl⟩
          go_wp2_with fail
          go_ret3
          exact ⟨rfl, rfl⟩
        · rw [if_neg hc]
          go_enter Try.func86, Try.ntmps86
          go_wp2_with fail
          refine h.mono ?_
          rintro e w1 ⟨rfl, rfl⟩
          go_wp2_with fail
          go_ret3
          exact ⟨rfl, rfl⟩
  · rw [if_neg h0]
    clear hsz
    go_enter Try.func86, Try.ntmps86
    go_wp2_with fail
    refine h.mono ?_
    rintro e w1 ⟨rfl, rfl⟩
    go_wp2_with fail
    go_ret3
    exact ⟨rfl, rfl⟩
def bytesOf (l : List UInt8) : ByteArray := ⟨l.toArray⟩
set_option maxRecDepth 100000 in
theorem count_closure (s : ByteArray) (most : Int) (hs : s.size ≤ 1000000) (cp : Addr) (w : World) (hc : w.cell? cp = some (.int .i64 most)) :
    Calls Try.prog 85 #[.string s, .pointer (some cp)] w fun e w' => e = .returned (.tuple #[.int .i64 (scanZ most 6 s.data.toList).1, .int .i64 (scanZ most 6 s.data.toList).2.1, .int .i64 (scanZ most 6 s.data.toList).2.2]) ∧ Below w.heap.size w w' := by
  have h := scan_size_any s most 6 hs w
  obtain ⟨x, hx⟩ : ∃ x, x = scanZ most 6 s.data.toList := ⟨_, rfl⟩
  rw [← hx] at h ⊢
  clear hx
  go_enter Try.func85, Try.ntmps85
  go_wp2_with fail
  refine h.mono ?_
  rintro e w1 ⟨rfl, rfl⟩
  go_wp2_with fail
  go_ret3
  exact ⟨rfl, Below.refl _ _⟩
theorem extract_le (s : ByteArray) (p : Nat) (h : s.size ≤ 1000000) : (s.extract p s.size).size ≤ 1000000 := by
  have : (s.extract p s.size).size ≤ s.size := (by simp)
  omega
theorem number_q (q : Option Addr) (s : ByteArray) (st : Rst) (hs : s.size ≤ 1000000) (w : World) (h : RP w q s st) :
    Calls Try.prog 69 #[.pointer q] w fun e w' => e = .returned (.int .i64 (rdG 0 scan s st).1) ∧ RP w' q s (rdG 0 scan s st).2 ∧ Gq w w' q := by
  have H := part_int q s st hs scan scan_sized w h (fun p W hp _ => by
    have := scan_any (s.extract p s.size) (extract_le s p hs) W
    rw [cut_list] at this
    exact this.mono fun _ _ ⟨a, b⟩ => ⟨a, by rw [b]; exact Below.refl _ _⟩)
  obtain ⟨x, hx⟩ : ∃ x, x = rdG 0 scan s st := ⟨_, rfl⟩
  rw [← hx] at H ⊢
  clear hx h
  go_enter Try.func69, Try.ntmps69
  go_wp2_with fail
  refine H.mono ?_
  rintro e w1 ⟨rfl, h1, h2⟩
  go_wp2_with fail
  go_ret
  exact ⟨rfl, h1, h2⟩
theorem count_q (q : Option Addr) (s : ByteArray) (st : Rst) (hs : s.size ≤ 1000000) (most : Int) (w : World) (h : RP w q s st) :
    Calls Try.prog 68 #[.pointer q, .int .i64 most] w fun e w' => e = .returned (.int .i64 (rdG 0 (scanZ most 6) s st).1) ∧ RP w' q s (rdG 0 (scanZ most 6) s st).2 ∧ Gq w w' q := by
  have hA : Below w.heap.size w (w.alloc (.cells #[.int .i64 most] 3)) := (Below.refl _ _).alloc (Nat.le_refl _) _
  have H := part_cnt q s st hs (scanZ most 6) (scanZ_sized most 6 (by decide)) ⟨w.heap.size, 0, none⟩ (w.alloc (.cells #[.int .i64 most] 3)) (h.below hA) (fun p W hp hB => by
    have := count_closure (s.extract p s.size) most (extract_le s p hs) ⟨w.heap.size, 0, none⟩ W (by
      rw [hB.cell (p := ⟨w.heap.size, 0, none⟩) (by simp)]
      exact cell_of_row _ w.heap.size 0 _ _ _ (Deep.blk_alloc_new w _))
    rw [cut_list] at this
    exact this)
  have HA := Lib.hid hA
  obtain ⟨x, hx⟩ : ∃ x, x = rdG 0 (scanZ most 6) s st := ⟨_, rfl⟩
  rw [← hx] at H ⊢
  clear hx h hA
  go_enter Try.func68, Try.ntmps68
  go_wp2_with fail
  refine H.mono ?_
  rintro e w1 ⟨rfl, h1, h2⟩
  go_wp2_with fail
  go_ret
  exact ⟨rfl, h1, Gq.trans (Gq.of_below HA.out q) h2⟩
end Go.Proofs.Ytacgomhegjilgaa
namespace Go.Proofs.Ytacgomhegjilgaa
open Go.ChangeShapes Go.WideShapes Go.ChangeAt Go.RowKit En
theorem RP.lt {w : World} {q : Option Addr} {s : ByteArray} {st : Rst} (h : RP w q s st) : ∀ g, q.map Addr.block = some g → g < w.heap.size := by
  intro g hg
  rcases h with ⟨rfl, _⟩ | ⟨r, rfl, h⟩
  · simp at hg
  · simp at hg; subst hg; exact h.lt
end Go.Proofs.Ytacgomhegjilgaa
namespace Go.Proofs.Ytacgomhegjilgaa
open Go.ChangeShapes Go.WideShapes Go.ChangeAt Go.RowKit En
theorem drop_at (s : ByteArray) (p : Nat) (h : p < s.size) : s.data.toList.drop p = s[p] :: s.data.toList.drop (p + 1) := by
  have := List.drop_eq_getElem_cons (l := s.data.toList) (i := p) (by simpa using h)
  exact this
theorem drop_len (s : ByteArray) (p : Nat) : (s.data.toList.drop p).length = s.size - p := by simp
theorem drop_nil (s : ByteArray) (p : Nat) (h : s.size ≤ p) : s.data.toList.drop p = [] := List.drop_eq_nil_of_le (by simpa using h)
/-- What the reference's number returns. -/
def numAt (s : ByteArray) (p : Nat) : Int × Int × Int :=
  if (scan (s.data.toList.drop p)).2.2 = 0 then ((scan (s.data.toList.drop p)).1, (p : Int) + (scan (s.data.toList.drop p)).2.1, 0) else (0, 0, (scan (s.data.toList.drop p)).2.2)
theorem numAt_err (s : ByteArray) (p : Nat) (e : Int) (h0 : e ≠ 0) (h : scan (s.data.toList.drop p) = (0, 0, e)) : numAt s p = (0, 0, e) := by
  unfold numAt; rw [h, if_neg h0]
theorem at_big (s : ByteArray) (p : Nat) (h : p < s.size) (h1 : 8 < szB s[p]) : numAt s p = (0, 0, 3) :=
  numAt_err s p 3 (by decide) (by rw [drop_at s p h, scan_cons, if_pos h1])
theorem at_short (s : ByteArray) (p : Nat) (h : p < s.size) (h1 : ¬ 8 < szB s[p]) (h2 : s.size - p - 1 < szB s[p]) : numAt s p = (0, 0, 4) :=
  numAt_err s p 4 (by decide) (by rw [drop_at s p h, scan_cons, if_neg h1, if_pos (by rw [drop_len]; omega)])
theorem at_mask (s : ByteArray) (p : Nat) (h : p + 1 < s.size) (h1 : ¬ 8 < szB s[p]) (h2 : ¬ s.size - p - 1 < szB s[p]) (h3 : 0 < szB s[p]) (h4 : s[p + 1] = maskB s[p]) : numAt s p = (0, 0, 3) :=
  numAt_err s p 3 (by decide) (by rw [drop_at s p (by omega), scan_cons, if_neg h1, if_neg (by rw [drop_len]; omega), if_pos ⟨h3, by rw [drop_at s (p + 1) h, List.head?_cons, h4]⟩])
theorem at_rest (s : ByteArray) (p : Nat) (h : p < s.size) (h1 : ¬ 8 < szB s[p]) (h2 : ¬ s.size - p - 1 < szB s[p]) (h3 : ¬ (0 < szB s[p] ∧ ∃ h : p + 1 < s.size, s[p + 1] = maskB s[p])) (r : Int × Int) (hr : sg (magL (maskB s[p]) ((s.data.toList.drop (p + 1)).take (szB s[p]))) (decide (s[p].toNat < 128)) = r) :
    numAt s p = if r.2 = 0 then (r.1, (p : Int) + (1 + (szB s[p] : Int)), 0) else (0, 0, r.2) := by
  have hh : ¬ (0 < szB s[p] ∧ (s.data.toList.drop (p + 1)).head? = some (maskB s[p])) := by
    rintro ⟨h4, h5⟩
    have h6 : p + 1 < s.size := by omega
    rw [drop_at s (p + 1) h6, List.head?_cons] at h5
    exact h3 ⟨h4, h6, by simpa using h5⟩
  have e : scan (s.data.toList.drop p) = if r.2 = 0 then (r.1, (1 : Int) + (szB s[p] : Int), 0) else (0, 0, r.2) := by
    rw [drop_at s p h, scan_cons, if_neg h1, if_neg (by rw [drop_len]; omega), if_neg hh, hr]
  unfold numAt
  rw [e]
  by_cases h0 : r.2 = 0
  · simp [h0]
  · simp [h0]
theorem comp_byte (b : UInt8) : (255 : Int) - (b.toNat : Int) = ((b ^^^ 255).toNat : Int) := by
  have e : (b ^^^ 255).toNat = 255 - b.toNat := by
    have h : ∀ n : Fin 256, n.val ^^^ 255 = 255 - n.val := by decide +kernel
    rw [UInt8.toNat_xor]
    exact h ⟨b.toNat, b.toNat_lt⟩
  have := b.toNat_lt
  omega
theorem zero_byte (b : UInt8) : (b ^^^ 0).toNat = b.toNat := by simp
theorem ret3 {n m e : Int} {n' m' e' : Int} (h : (n, m, e) = (n', m', e')) : Ending.returned (.tuple #[.int .i64 n, .int .i64 m, .int .i64 e]) = .returned (.tuple #[.int .i64 n', .int .i64 m', .int .i64 e']) := by
  simp only [Prod.mk.injEq] at h
  obtain ⟨rfl, rfl, rfl⟩ := h
  rfl
set_option maxRecDepth 100000 in
theorem num_out (s : ByteArray) (p : Nat) (er : Int) (_hs : s.size ≤ 1000000) (hp : p ≤ s.size) (h0 : ¬ p < s.size) (w : World) :
    Calls Try.prog 92 #[.agg #[.string s, .int .i64 (p : Int), .int .i64 er]] w fun e w' => e = .returned (.tuple #[.int .i64 (numAt s p).1, .int .i64 (numAt s p).2.1, .int .i64 (numAt s p).2.2]) ∧ Below w.heap.size w w' := by
  have e := numAt_err s p 4 (by decide) (by rw [drop_nil s p (by omega)]; rfl)
  rw [e]
  have hd : (s.size : Int) ≤ (p : Int) := by omega
  go_enter Try.func92, Try.ntmps92
  go_wp2_with fail
  go_ret3
  exact ⟨rfl, (Below.refl _ _).alloc (Nat.le_refl _) _⟩
set_option maxRecDepth 100000 in
set_option maxHeartbeats 2000000 in
theorem num_neg (s : ByteArray) (p : Nat) (er : Int) (hs : s.size ≤ 1000000) (hp : p < s.size) (hn : s[p].toNat < 128) (w : World) :
    Calls Try.prog 92 #[.agg #[.string s, .int .i64 (p : Int), .int .i64 er]] w fun e w' => e = .returned (.tuple #[.int .i64 (numAt s p).1, .int .i64 (numAt s p).2.1, .int .i64 (numAt s p).2.2]) ∧ Below w.heap.size w w' := by
  have hd : ¬ (s.size : Int) ≤ (p : Int) := by omega
  have ek : szB s[p] = 128 - s[p].toNat := by unfold szB; rw [if_pos hn]
  have em : maskB s[p] = 255 := by unfold maskB; rw [if_pos hn]
  have hc256 := s[p].toNat_lt
  by_cases h1 : 8 < szB s[p]
  · have e := at_big s p hp h1
    rw [e]
    have ht : (s[p].toNat : Int) < 120 := by omega
    skip
    go_enter Try.func92, Try.ntmps92
    go_wp2_with fail
    go_ret3
    exact ⟨rfl, (Below.refl _ _).alloc (Nat.le_refl _) _⟩
  · have ht : ¬ (s[p].toNat : Int) < 120 := by omega
    have ht2 : ¬ (136 : Int) < (s[p].toNat : Int) := by omega
    have ht3 : (s[p].toNat : Int) - 128 < 0 := by omega
    obtain ⟨k, hk⟩ : ∃ k, szB s[p] = k := ⟨_, rfl⟩
    have hk1 : (0 : Int) - ((s[p].toNat : Int) - 128) = (k : Int) := by omega
    have hk2 : wrap64 (0 - ((s[p].toNat : Int) - 128)) = (k : Int) := by unfold wrap64; omega
    have hk3 : -((s[p].toNat : Int) - 128) = (k : Int) := by omega
    have hk4 : wrap64 (-((s[p].toNat : Int) - 128)) = (k : Int) := by unfold wrap64; omega
    have hk5 : (128 : Int) - (s[p].toNat : Int) = (k : Int) := by omega
    have hk8 : k ≤ 8 := by omega
    have hq : wrap64 ((s.size : Int) - (p : Int)) = (s.size : Int) - (p : Int) := by unfold wrap64; omega
    have hq2 : wrap64 ((s.size : Int) - (p : Int) - 1) = (s.size : Int) - (p : Int) - 1 := by unfold wrap64; omega
    by_cases h2 : s.size - p - 1 < szB s[p]
    · have e := at_short s p hp h1 h2
      rw [e]
      have ht4 : (s.size : Int) - (p : Int) - 1 < (k : Int) := by omega
      clear hk
      go_enter Try.func92, Try.ntmps92
      go_wp2_with fail
      go_ret3
      exact ⟨rfl, (Below.refl _ _).alloc (Nat.le_refl _) _⟩
    · have ht4 : ¬ (s.size : Int) - (p : Int) - 1 < (k : Int) := by omega
      have hps : p + 1 + k ≤ s.size := by omega
      by_cases hE : 0 < k ∧ ∃ h : p + 1 < s.size, s[p + 1] = maskB s[p]
      · obtain ⟨hk0, hp1, h4⟩ := hE
        have e := at_mask s p hp1 h1 h2 (by omega) h4
        rw [e]
        rw [em] at h4
        have h5 : s[p + 1].toNat = 255 := by rw [h4]; rfl
        have hk0' : (0 : Int) < (k : Int) := by omega
        clear hk h4
        go_enter Try.func92, Try.ntmps92
        go_wp2_with fail
        try simp only [hk4]
        go_loopw [8, 9] (fun mg iv wr => Hid (Below w.heap.size w wr) ∧ wr.cell? ⟨w.heap.size, 0, none⟩ = some (.string s) ∧ wr.cell? ⟨w.heap.size, 1, none⟩ = some (.int .i64 (p : Int)) ∧ iv = .int .i64 0 ∧ mg = .int .u64 0) (fun _ iv _ => 0)
        case atStart => exact ⟨Lib.hid ((Below.refl _ _).alloc (Nat.le_refl _) _), cell_of_row _ w.heap.size 0 _ _ _ (Deep.blk_alloc_new w _), cell_of_row _ w.heap.size 1 _ _ _ (Deep.blk_alloc_new w _), rfl, rfl⟩
        case round =>
          obtain ⟨hB, c0, c1, rfl, rfl⟩ := hrel
          go_wp2_with fail
          go_ret3
          exact ⟨rfl, hB.out⟩
      · have e := at_rest s p hp h1 h2 (fun h => hE ⟨by omega, h.2⟩) _ rfl
        have hd2 : decide (s[p].toNat < 128) = true := by simpa using hn
        obtain ⟨L, hL⟩ : ∃ L, L = s.data.toList.drop (p + 1) := ⟨_, rfl⟩
        rw [hk, em, hd2, ← hL] at e
        obtain ⟨v, hv⟩ : ∃ v, v = sg (magL 255 (L.take k)) true := ⟨_, rfl⟩
        rw [← hv] at e
        obtain ⟨R, hR⟩ : ∃ R, R = numAt s p := ⟨_, rfl⟩
        rw [← hR] at e ⊢
        have HR := Lib.hid e
        have Hv := Lib.hid hv
        have hlen : L.length = s.size - (p + 1) := by rw [hL]; simp
        have hget : ∀ t, (h : p + 1 + t < s.size) → L.take (t + 1) = L.take t ++ [s[p + 1 + t]] := fun t h => by
          rw [List.take_add_one, hL, List.getElem?_drop, List.getElem?_eq_getElem (by simpa using h)]; rfl
        have Hget := Lib.hid hget
        have Hlen := Lib.hid hlen
        have hfirst : 0 < k → ∀ h : p + 1 + 0 < s.size, ¬ s[p + 1 + 0].toNat = 255 := fun hk0 h hh => hE ⟨hk0, by omega, by rw [em]; exact UInt8.toNat_inj.1 hh⟩
        have Hfirst := Lib.hid hfirst
        clear hk e hget hL hv hR hlen hfirst hE
        go_enter Try.func92, Try.ntmps92
        go_wp2_with fail
        try simp only [hk4]
        go_loopw [8, 9] (fun mg iv wr => Hid (Below w.heap.size w wr) ∧ Hid (wr.cell? ⟨w.heap.size, 0, none⟩ = some (.string s)) ∧ Hid (wr.cell? ⟨w.heap.size, 1, none⟩ = some (.int .i64 (p : Int))) ∧ ∃ t : Nat, t ≤ k ∧ iv = .int .i64 (t : Int) ∧ mg = .int .u64 (magL 255 (L.take t) : Int)) (fun _ iv _ => k - (intOf iv).toNat)
        case atStart => exact ⟨Lib.hid ((Below.refl _ _).alloc (Nat.le_refl _) _), Lib.hid (cell_of_row _ w.heap.size 0 _ _ _ (Deep.blk_alloc_new w _)), Lib.hid (cell_of_row _ w.heap.size 1 _ _ _ (Deep.blk_alloc_new w _)), 0, by omega, rfl, rfl⟩
        case round =>
          obtain ⟨hB, hc0, hc1, t, ht', rfl, rfl⟩ := hrel
          have c0 := hc0.out
          have c1 := hc1.out
          by_cases htk : t < k
          · have hti : (t : Int) < (k : Int) := by omega
            have hb : p + 1 + t < s.size := by omega
            have hM : magL 255 (L.take t) < 72057594037927936 := by
              have h := magL_lt 255 (L.take t)
              have h2 : 256 ^ (L.take t).length ≤ 256 ^ 7 := Nat.pow_le_pow_right (by omega) (by rw [List.length_take]; omega)
              omega
            have hcx := comp_byte s[p + 1 + t]
            have hcl := (s[p + 1 + t] ^^^ 255).toNat_lt
            have Hcx := Lib.hid hcx
            have Hs : Hid (((magL 255 (L.take t) * 256 + (s[p + 1 + t] ^^^ 255).toNat : Nat) : Int) = (magL 255 (L.take (t + 1)) : Int)) := Lib.hid (by rw [Hget.out t hb, magL_snoc])
            obtain ⟨M, hMM⟩ : ∃ M, M = magL 255 (L.take t) := ⟨_, rfl⟩
            rw [← hMM] at hM Hs
            obtain ⟨B, hBB⟩ : ∃ B, B = (s[p + 1 + t] ^^^ 255).toNat := ⟨_, rfl⟩
            rw [← hBB] at hcx hcl Hs
            have Hb := Lib.hid hBB
            have hcw : IntKind.u8.wrap ((255 : Int) - (s[p + 1 + t].toNat : Int)) = (B : Int) := by rw [hcx]; simp only [IntKind.wrap_u8]; omega
            have Hm := Lib.hid hMM
            clear hMM hBB hcx
            by_cases ht0 : t = 0
            · have hb0 : ((B : Int) == 0) = false := by
                have h := Hfirst.out (by omega) (by omega)
                subst ht0
                have h2 := Hb.out
                have h3 := Hcx.out
                have h4 := s[p + 1 + 0].toNat_lt
                simp only [beq_eq_false_iff_ne]
                omega
              have ht00 : ((t : Int) == 0) = true := by rw [ht0]; rfl
              have hs1 := Hs.out
              have hb1 := Hb.out
              have hcx1 := Hcx.out
              simp only [ht0, Nat.add_zero, Nat.zero_add] at hs1 hb1 hcx1
              have hcw1 : IntKind.u8.wrap ((255 : Int) - (s[p + 1].toNat : Int)) = (B : Int) := by rw [IntKind.wrap_u8]; have := s[p + 1].toNat_lt; omega
              have hcw2 : ((255 : Int) - (s[p + 1].toNat : Int)) % 256 = (B : Int) := by have := s[p + 1].toNat_lt; omega
              have Hs1 := Lib.hid hs1
              have Hb1 := Lib.hid hb1
              have Hcx1 := Lib.hid hcx1
              have Hcl := Lib.hid hcl
              have HM := Lib.hid hM
              clear hs1 hb1 hcx1
              rw [← Hm.out]
              go_wp2_with fail
              refine ⟨⟨hB, hc0, hc1, 1, by omega, rfl, ?_⟩, by simp [intOf]; omega⟩
              rw [← Hs1.out]
              have h1 := Hb1.out
              have h2 := Hcx1.out
              have h3 := s[p + 1].toNat_lt
              have h4 := Hcl.out
              have h5 := HM.out
              congr 1 <;> first | omega | (simp only [IntKind.wrap_u64]; omega)
            · have ht00 : ((t : Int) == 0) = false := by simp; omega
              rw [← Hm.out]
              go_wp2_with fail
              go_roundw
              case rel =>
                refine ⟨hB, hc0, hc1, t + 1, by omega, by go_num, ?_⟩
                rw [← Hs.out]
                have e1 : ((M * 256 + B : Nat) : Int) = (M : Int) * 256 + (B : Int) := by omega
                first | (rw [e1]; done) | (rw [e1]; congr 1 <;> first | omega | (simp only [IntKind.wrap_u64]; omega))
              case measure => simp [intOf]; omega
          · obtain rfl : t = k := by omega
            have hM : magL 255 (L.take t) < 18446744073709551616 := by
              have h := magL_lt 255 (L.take t)
              have h2 : 256 ^ (L.take t).length ≤ 256 ^ 8 := Nat.pow_le_pow_right (by omega) (by rw [List.length_take]; omega)
              omega
            have Hv2 := Hv
            obtain ⟨M, hMM⟩ : ∃ M, M = magL 255 (L.take t) := ⟨_, rfl⟩
            rw [← hMM] at hM Hv2
            rw [← hMM]
            have hkw : (p : Int) + 1 + (t : Int) = (p : Int) + (1 + (t : Int)) := by omega
            clear hMM Hv

            by_cases hm : M ≤ 9223372036854775808
            · have ev : v = (-(M : Int), 0) := by rw [Hv2.out]; unfold sg; rw [if_pos ⟨rfl, hm⟩]
              have HR1 : Hid (R = (-(M : Int), (p : Int) + (1 + (t : Int)), 0)) := Lib.hid (by rw [HR.out, ev]; simp)
              have hm' : ¬ (9223372036854775808 : Int) < (M : Int) := by omega
              clear ev
              go_wp2_with fail
              go_ret3
              refine ⟨ret3 ?_, hB.out⟩
              first | (rw [HR1.out]; done) | (rw [HR1.out]; simp only [Prod.mk.injEq, and_true]; all_goals (try refine ⟨?_, ?_⟩); all_goals first | rfl | omega | (simp only [IntKind.wrap_u64, wrap64]; omega))
            · have ev : v = (0, 3) := by rw [Hv2.out]; unfold sg; rw [if_neg (fun h => hm h.2), if_neg (fun h => nomatch h.1)]
              have HR1 : Hid (R = (0, 0, 3)) := Lib.hid (by rw [HR.out, ev]; simp)
              have hm' : (9223372036854775808 : Int) < (M : Int) := by omega
              clear ev
              go_wp2_with fail
              go_ret3
              exact ⟨by rw [HR1.out]; rfl, hB.out⟩
set_option maxRecDepth 100000 in
set_option maxHeartbeats 2000000 in
theorem num_pos (s : ByteArray) (p : Nat) (er : Int) (hs : s.size ≤ 1000000) (hp : p < s.size) (hn : ¬ s[p].toNat < 128) (w : World) :
    Calls Try.prog 92 #[.agg #[.string s, .int .i64 (p : Int), .int .i64 er]] w fun e w' => e = .returned (.tuple #[.int .i64 (numAt s p).1, .int .i64 (numAt s p).2.1, .int .i64 (numAt s p).2.2]) ∧ Below w.heap.size w w' := by
  have hd : ¬ (s.size : Int) ≤ (p : Int) := by omega
  have ek : szB s[p] = s[p].toNat - 128 := by unfold szB; rw [if_neg hn]
  have em : maskB s[p] = 0 := by unfold maskB; rw [if_neg hn]
  have hc256 := s[p].toNat_lt
  by_cases h1 : 8 < szB s[p]
  · have e := at_big s p hp h1
    rw [e]
    have ht : ¬ (s[p].toNat : Int) < 120 := by omega
    have ht2 : (136 : Int) < (s[p].toNat : Int) := by omega
    go_enter Try.func92, Try.ntmps92
    go_wp2_with fail
    go_ret3
    exact ⟨rfl, (Below.refl _ _).alloc (Nat.le_refl _) _⟩
  · have ht : ¬ (s[p].toNat : Int) < 120 := by omega
    have ht2 : ¬ (136 : Int) < (s[p].toNat : Int) := by omega
    have ht3 : ¬ (s[p].toNat : Int) - 128 < 0 := by omega
    obtain ⟨k, hk⟩ : ∃ k, szB s[p] = k := ⟨_, rfl⟩
    have hk1 : (s[p].toNat : Int) - 128 = (k : Int) := by omega
    skip
    skip
    skip
    skip
    have hk8 : k ≤ 8 := by omega
    have hq : wrap64 ((s.size : Int) - (p : Int)) = (s.size : Int) - (p : Int) := by unfold wrap64; omega
    have hq2 : wrap64 ((s.size : Int) - (p : Int) - 1) = (s.size : Int) - (p : Int) - 1 := by unfold wrap64; omega
    by_cases h2 : s.size - p - 1 < szB s[p]
    · have e := at_short s p hp h1 h2
      rw [e]
      have ht4 : (s.size : Int) - (p : Int) - 1 < (k : Int) := by omega
      clear hk
      go_enter Try.func92, Try.ntmps92
      go_wp2_with fail
      go_ret3
      exact ⟨rfl, (Below.refl _ _).alloc (Nat.le_refl _) _⟩
    · have ht4 : ¬ (s.size : Int) - (p : Int) - 1 < (k : Int) := by omega
      have hps : p + 1 + k ≤ s.size := by omega
      by_cases hE : 0 < k ∧ ∃ h : p + 1 < s.size, s[p + 1] = maskB s[p]
      · obtain ⟨hk0, hp1, h4⟩ := hE
        have e := at_mask s p hp1 h1 h2 (by omega) h4
        rw [e]
        rw [em] at h4
        have h5 : s[p + 1].toNat = 0 := by rw [h4]; rfl
        have hk0' : (0 : Int) < (k : Int) := by omega
        clear hk h4
        go_enter Try.func92, Try.ntmps92
        go_wp2_with fail
        try simp only [hk1]
        go_loopw [8, 9] (fun mg iv wr => Hid (Below w.heap.size w wr) ∧ wr.cell? ⟨w.heap.size, 0, none⟩ = some (.string s) ∧ wr.cell? ⟨w.heap.size, 1, none⟩ = some (.int .i64 (p : Int)) ∧ iv = .int .i64 0 ∧ mg = .int .u64 0) (fun _ iv _ => 0)
        case atStart => exact ⟨Lib.hid ((Below.refl _ _).alloc (Nat.le_refl _) _), cell_of_row _ w.heap.size 0 _ _ _ (Deep.blk_alloc_new w _), cell_of_row _ w.heap.size 1 _ _ _ (Deep.blk_alloc_new w _), rfl, rfl⟩
        case round =>
          obtain ⟨hB, c0, c1, rfl, rfl⟩ := hrel
          go_wp2_with fail
          go_ret3
          exact ⟨rfl, hB.out⟩
      · have e := at_rest s p hp h1 h2 (fun h => hE ⟨by omega, h.2⟩) _ rfl
        have hd2 : decide (s[p].toNat < 128) = false := by simpa using hn
        obtain ⟨L, hL⟩ : ∃ L, L = s.data.toList.drop (p + 1) := ⟨_, rfl⟩
        rw [hk, em, hd2, ← hL] at e
        obtain ⟨v, hv⟩ : ∃ v, v = sg (magL 0 (L.take k)) false := ⟨_, rfl⟩
        rw [← hv] at e
        obtain ⟨R, hR⟩ : ∃ R, R = numAt s p := ⟨_, rfl⟩
        rw [← hR] at e ⊢
        have HR := Lib.hid e
        have Hv := Lib.hid hv
        have hlen : L.length = s.size - (p + 1) := by rw [hL]; simp
        have hget : ∀ t, (h : p + 1 + t < s.size) → L.take (t + 1) = L.take t ++ [s[p + 1 + t]] := fun t h => by
          rw [List.take_add_one, hL, List.getElem?_drop, List.getElem?_eq_getElem (by simpa using h)]; rfl
        have Hget := Lib.hid hget
        have Hlen := Lib.hid hlen
        have hfirst : 0 < k → ∀ h : p + 1 + 0 < s.size, ¬ s[p + 1 + 0].toNat = 0 := fun hk0 h hh => hE ⟨hk0, by omega, by rw [em]; exact UInt8.toNat_inj.1 hh⟩
        have Hfirst := Lib.hid hfirst
        clear hk e hget hL hv hR hlen hfirst hE
        go_enter Try.func92, Try.ntmps92
        go_wp2_with fail
        try simp only [hk1]
        go_loopw [8, 9] (fun mg iv wr => Hid (Below w.heap.size w wr) ∧ Hid (wr.cell? ⟨w.heap.size, 0, none⟩ = some (.string s)) ∧ Hid (wr.cell? ⟨w.heap.size, 1, none⟩ = some (.int .i64 (p : Int))) ∧ ∃ t : Nat, t ≤ k ∧ iv = .int .i64 (t : Int) ∧ mg = .int .u64 (magL 0 (L.take t) : Int)) (fun _ iv _ => k - (intOf iv).toNat)
        case atStart => exact ⟨Lib.hid ((Below.refl _ _).alloc (Nat.le_refl _) _), Lib.hid (cell_of_row _ w.heap.size 0 _ _ _ (Deep.blk_alloc_new w _)), Lib.hid (cell_of_row _ w.heap.size 1 _ _ _ (Deep.blk_alloc_new w _)), 0, by omega, rfl, rfl⟩
        case round =>
          obtain ⟨hB, hc0, hc1, t, ht', rfl, rfl⟩ := hrel
          have c0 := hc0.out
          have c1 := hc1.out
          by_cases htk : t < k
          · have hti : (t : Int) < (k : Int) := by omega
            have hb : p + 1 + t < s.size := by omega
            have hM : magL 0 (L.take t) < 72057594037927936 := by
              have h := magL_lt 0 (L.take t)
              have h2 : 256 ^ (L.take t).length ≤ 256 ^ 7 := Nat.pow_le_pow_right (by omega) (by rw [List.length_take]; omega)
              omega
            have hcx := zero_byte s[p + 1 + t]
            have hcl := (s[p + 1 + t] ^^^ 0).toNat_lt
            have Hcx := Lib.hid hcx
            have Hs : Hid (((magL 0 (L.take t) * 256 + (s[p + 1 + t] ^^^ 0).toNat : Nat) : Int) = (magL 0 (L.take (t + 1)) : Int)) := Lib.hid (by rw [Hget.out t hb, magL_snoc])
            obtain ⟨M, hMM⟩ : ∃ M, M = magL 0 (L.take t) := ⟨_, rfl⟩
            rw [← hMM] at hM Hs
            obtain ⟨B, hBB⟩ : ∃ B, B = s[p + 1 + t].toNat := ⟨_, rfl⟩
            rw [zero_byte, ← hBB] at hcl Hs
            have Hb := Lib.hid hBB
            have hcw : (s[p + 1 + t].toNat : Int) = (B : Int) := by rw [hBB]
            have Hm := Lib.hid hMM
            clear hMM hBB hcx
            by_cases ht0 : t = 0
            · have hb0 : ((B : Int) == 0) = false := by
                have h := Hfirst.out (by omega) (by omega)
                subst ht0
                have h2 := Hb.out
                have h3 := Hcx.out
                have h4 := s[p + 1 + 0].toNat_lt
                simp only [beq_eq_false_iff_ne]
                omega
              have ht00 : ((t : Int) == 0) = true := by rw [ht0]; rfl
              have hs1 := Hs.out
              have hb1 := Hb.out
              have hcx1 := Hcx.out
              simp only [ht0, Nat.add_zero, Nat.zero_add] at hs1 hb1 hcx1
              have hcw1 : (s[p + 1].toNat : Int) = (B : Int) := by omega
              skip
              have Hs1 := Lib.hid hs1
              have Hb1 := Lib.hid hb1
              have Hcx1 := Lib.hid hcx1
              have Hcl := Lib.hid hcl
              have HM := Lib.hid hM
              clear hs1 hb1 hcx1
              rw [← Hm.out]
              go_wp2_with fail
              refine ⟨⟨hB, hc0, hc1, 1, by omega, rfl, ?_⟩, by simp [intOf]; omega⟩
              rw [← Hs1.out]
              have h1 := Hb1.out
              have h2 := Hcx1.out
              have h3 := s[p + 1].toNat_lt
              have h4 := Hcl.out
              have h5 := HM.out
              congr 1 <;> first | omega | (simp only [IntKind.wrap_u64]; omega)
            · have ht00 : ((t : Int) == 0) = false := by simp; omega
              rw [← Hm.out]
              go_wp2_with fail
              go_roundw
              case rel =>
                refine ⟨hB, hc0, hc1, t + 1, by omega, by go_num, ?_⟩
                rw [← Hs.out]
                have e1 : ((M * 256 + B : Nat) : Int) = (M : Int) * 256 + (B : Int) := by omega
                first | (rw [e1]; done) | (rw [e1]; congr 1 <;> first | omega | (simp only [IntKind.wrap_u64]; omega))
              case measure => simp [intOf]; omega
          · obtain rfl : t = k := by omega
            have hM : magL 0 (L.take t) < 18446744073709551616 := by
              have h := magL_lt 0 (L.take t)
              have h2 : 256 ^ (L.take t).length ≤ 256 ^ 8 := Nat.pow_le_pow_right (by omega) (by rw [List.length_take]; omega)
              omega
            have Hv2 := Hv
            obtain ⟨M, hMM⟩ : ∃ M, M = magL 0 (L.take t) := ⟨_, rfl⟩
            rw [← hMM] at hM Hv2
            rw [← hMM]
            have hkw : (p : Int) + 1 + (t : Int) = (p : Int) + (1 + (t : Int)) := by omega
            clear hMM Hv

            by_cases hm : M ≤ 9223372036854775807
            · have ev : v = ((M : Int), 0) := by rw [Hv2.out]; unfold sg; rw [if_neg (fun h => nomatch h.1), if_pos ⟨rfl, hm⟩]
              have HR1 : Hid (R = ((M : Int), (p : Int) + (1 + (t : Int)), 0)) := Lib.hid (by rw [HR.out, ev]; simp)
              have hm' : ¬ (9223372036854775807 : Int) < (M : Int) := by omega
              clear ev
              go_wp2_with fail
              go_ret3
              refine ⟨ret3 ?_, hB.out⟩
              first | (rw [HR1.out]; done) | (rw [HR1.out]; simp only [Prod.mk.injEq, and_true]; all_goals (try refine ⟨?_, ?_⟩); all_goals first | rfl | omega | (simp only [IntKind.wrap_u64, wrap64]; omega))
            · have ev : v = (0, 3) := by rw [Hv2.out]; unfold sg; rw [if_neg (fun h => nomatch h.1), if_neg (fun h => hm h.2)]
              have HR1 : Hid (R = (0, 0, 3)) := Lib.hid (by rw [HR.out, ev]; simp)
              have hm' : (9223372036854775807 : Int) < (M : Int) := by omega
              clear ev
              go_wp2_with fail
              go_ret3
              exact ⟨by rw [HR1.out]; rfl, hB.out⟩
end Go.Proofs.Ytacgomhegjilgaa
namespace Go.Proofs.Ytacgomhegjilgaa
open Go.ChangeShapes Go.WideShapes Go.ChangeAt Go.RowKit En
/-- The reference's Reader in block b. -/
def RR (w : World) (b : Nat) (s : ByteArray) (st : Rst) : Prop :=
  w.heap[b]? = some (.cells #[.string s, .int .i64 (st.1 : Int), .int .i64 st.2] 96 (0, 0)) ∧ st.1 ≤ s.size
abbrev qb (b : Nat) : Option Addr := some ⟨b, 0, none⟩
theorem RR.lt {w : World} {b : Nat} {s : ByteArray} {st : Rst} (h : RR w b s st) : b < w.heap.size := (Array.getElem?_eq_some_iff.1 h.1).1
theorem RR.below {w w' : World} {b : Nat} {s : ByteArray} {st : Rst} (h : RR w b s st) (hb : Below w.heap.size w w') : RR w' b s st := ⟨(hb.block b h.lt).trans h.1, h.2⟩
theorem gq_put {w wg : World} (h : Below w.heap.size w wg) (b o : Nat) (v : Value) : Gq w (wg.setCell ⟨b, o, none⟩ v) (qb b) := put_below h b o v
theorem gq_more {w w' : World} {b : Nat} (h : Gq w w' (qb b)) (o : Nat) (v : Value) : Gq w (w'.setCell ⟨b, o, none⟩ v) (qb b) :=
  ⟨h.os, h.tape, h.output, by have := h.size; simp [World.setCell]; omega, fun i hi hne => by
    rw [Deep.blk_setCell_other _ _ _ _ (show i ≠ b from fun e => hne (by rw [e]; rfl))]; exact h.block i hi hne⟩
theorem rdG_zero {α : Type} (z : α) (f : List UInt8 → α × Int × Int) (s : ByteArray) (st : Rst) (h : (rdG z f s st).2.2 ≠ 0) : (rdG z f s st).1 = z := by
  unfold rdG at h ⊢
  by_cases h0 : st.2 = 0
  · rw [if_pos h0] at h ⊢
    by_cases h1 : (f (s.data.toList.drop st.1)).2.2 = 0
    · rw [if_pos h1] at h; exact absurd rfl h
    · rw [if_neg h1]
  · rw [if_neg h0]
theorem ref_num_any (s : ByteArray) (p : Nat) (er : Int) (hs : s.size ≤ 1000000) (hp : p ≤ s.size) (w : World) :
    Calls Try.prog 92 #[.agg #[.string s, .int .i64 (p : Int), .int .i64 er]] w fun e w' => e = .returned (.tuple #[.int .i64 (numAt s p).1, .int .i64 (numAt s p).2.1, .int .i64 (numAt s p).2.2]) ∧ Below w.heap.size w w' := by
  by_cases h0 : p < s.size
  · by_cases hn : s[p].toNat < 128
    · exact num_neg s p er hs h0 hn w
    · exact num_pos s p er hs h0 hn w
  · exact num_out s p er hs hp h0 w
set_option maxRecDepth 100000 in
theorem rr_number (b : Nat) (s : ByteArray) (st : Rst) (hs : s.size ≤ 1000000) (w : World) (h : RR w b s st) :
    Calls Try.prog 73 #[.pointer (qb b)] w fun e w' => e = .returned (.int .i64 (rdG 0 scan s st).1) ∧ RR w' b s (rdG 0 scan s st).2 ∧ Gq w w' (qb b) := by
  obtain ⟨p, er⟩ := st
  have hp : p ≤ s.size := h.2
  have hnum := ref_num_any s p er hs hp w
  have c0 := cell_of_row w b 0 _ _ _ h.1
  have c1 := cell_of_row w b 1 _ _ _ h.1
  have c2 := cell_of_row w b 2 _ _ _ h.1
  have H := Lib.hid h
  have hlt := h.lt
  have hsz := scan_sized (s.data.toList.drop p)
  clear h
  by_cases h0 : er = 0
  · subst h0
    obtain ⟨x, hx⟩ : ∃ x, x = scan (s.data.toList.drop p) := ⟨_, rfl⟩
    have e0 : rdG 0 scan s (p, 0) = if x.2.2 = 0 then (x.1, (p + x.2.1.toNat, 0)) else (0, (p, x.2.2)) := by rw [hx]; rfl
    have e1 : numAt s p = if x.2.2 = 0 then (x.1, (p : Int) + x.2.1, 0) else (0, 0, x.2.2) := by unfold numAt; rw [← hx]
    rw [← hx] at hsz
    rw [e0]
    rw [e1] at hnum
    clear hx e0 e1
    by_cases hx0 : x.2.2 = 0
    · obtain ⟨k, hk, hk2⟩ := hsz hx0
      rw [drop_len] at hk2
      rw [if_pos hx0] at hnum ⊢
      rw [hk] at hnum
      simp only [hk, Int.toNat_natCast]
      have hpk : (p : Int) + (k : Int) = ((p + k : Nat) : Int) := by omega
      dsimp only at hnum
      rw [hpk] at hnum
      have hpk2 : p + k ≤ s.size := by omega
      obtain ⟨m, hm⟩ : ∃ m, m = p + k := ⟨_, rfl⟩
      rw [← hm] at hnum hpk2 ⊢
      clear hm hpk hk hk2 hsz hx0
      go_enter Try.func73, Try.ntmps73
      go_wp2_with fail
      refine hnum.mono ?_
      rintro e w1 ⟨rfl, hb⟩
      have HB := Lib.hid hb
      have hblk := (hb.block b hlt).trans H.out.1
      have d2 := cell_of_row w1 b 2 _ _ _ hblk
      have f2 := frozen_of_row w1 b 2 _ _ hblk
      have f1 := frozen_of_row w1 b 1 _ _ hblk
      have d1 := cell_of_row w1 b 1 _ _ _ hblk
      have Hblk := Lib.hid hblk
      clear hb hblk c0 c1 c2 hnum
      go_wp2_with fail
      go_ret
      refine ⟨rfl, ⟨?_, hpk2⟩, gq_more (gq_put HB.out b 2 _) 1 _⟩
      rw [blk_set _ (blk_set _ Hblk.out)]
      rfl
    · rw [if_neg hx0] at hnum ⊢
      clear hsz
      go_enter Try.func73, Try.ntmps73
      go_wp2_with fail
      refine hnum.mono ?_
      rintro e w1 ⟨rfl, hb⟩
      have HB := Lib.hid hb
      have hblk := (hb.block b hlt).trans H.out.1
      have d2 := cell_of_row w1 b 2 _ _ _ hblk
      have f2 := frozen_of_row w1 b 2 _ _ hblk
      have Hblk := Lib.hid hblk
      clear hb hblk c0 c1 c2 hnum
      go_wp2_with fail
      go_ret
      refine ⟨rfl, ⟨?_, hp⟩, gq_put HB.out b 2 _⟩
      rw [blk_set _ Hblk.out]
      rfl
  · have e0 : rdG 0 scan s (p, er) = (0, (p, er)) := by unfold rdG; rw [if_neg h0]
    rw [e0]
    clear e0 hsz
    go_enter Try.func73, Try.ntmps73
    go_wp2_with fail
    refine hnum.mono ?_
    rintro e w1 ⟨rfl, hb⟩
    have HB := Lib.hid hb
    have hblk := (hb.block b hlt).trans H.out.1
    have d2 := cell_of_row w1 b 2 _ _ _ hblk
    clear hb hblk c0 c1 c2 hnum
    go_wp2_with fail
    go_ret
    exact ⟨rfl, H.out.below HB.out, Gq.of_below HB.out _⟩
theorem rdG_size (most too : Int) (s : ByteArray) (st : Rst) (ht : too ≠ 0) (hst : st.1 ≤ s.size) : rdG 0 (scanZ most too) s st =
    if (rdG 0 scan s st).2.2 = 0 then (if (rdG 0 scan s st).1 < 0 then (0, (st.1, 3)) else if most < (rdG 0 scan s st).1 then (0, (st.1, too)) else if ((s.size - (rdG 0 scan s st).2.1 : Nat) : Int) < (rdG 0 scan s st).1 then (0, (st.1, 4)) else rdG 0 scan s st) else (0, (rdG 0 scan s st).2) := by
  have hsz := scan_sized (s.data.toList.drop st.1)
  unfold rdG scanZ
  obtain ⟨x, hx⟩ : ∃ x, x = scan (s.data.toList.drop st.1) := ⟨_, rfl⟩
  rw [← hx] at hsz ⊢
  rw [drop_len] at hsz ⊢
  by_cases h0 : st.2 = 0
  · simp only [h0, if_true]
    by_cases h1 : x.2.2 = 0
    · obtain ⟨k, hk, hk2⟩ := hsz h1
      simp only [h1, if_true]
      by_cases h2 : x.1 < 0
      · simp [h2]
      · by_cases h3 : most < x.1
        · simp [h2, h3, ht]
        · have e : ((s.size - st.1 : Nat) : Int) - x.2.1 = ((s.size - (st.1 + x.2.1.toNat) : Nat) : Int) := by rw [hk]; omega
          rw [e]
          by_cases h4 : ((s.size - (st.1 + x.2.1.toNat) : Nat) : Int) < x.1
          · simp [h2, h3, h4]
          · simp [h2, h3, h4]
    · simp [h1]
  · simp only [h0, if_false]
end Go.Proofs.Ytacgomhegjilgaa
namespace Go.Proofs.Ytacgomhegjilgaa
open Go.ChangeShapes Go.WideShapes Go.ChangeAt Go.RowKit En
set_option maxRecDepth 100000 in
set_option maxHeartbeats 1000000 in
theorem rr_sized (b : Nat) (s : ByteArray) (st : Rst) (hs : s.size ≤ 1000000) (most too : Int) (htoo : too ≠ 0) (w : World) (h : RR w b s st) :
    Calls Try.prog 91 #[.pointer (qb b), .int .i64 most, .int .i64 too] w fun e w' => e = .returned (.int .i64 (rdG 0 (scanZ most too) s st).1) ∧ RR w' b s (rdG 0 (scanZ most too) s st).2 ∧ Gq w w' (qb b) := by
  have hn := rr_number b s st hs w h
  rw [rdG_size most too s st htoo h.2]
  obtain ⟨p, er⟩ := st
  have hp : p ≤ s.size := h.2
  have c1 := cell_of_row w b 1 _ _ _ h.1
  obtain ⟨⟨n, p2, e2⟩, hx⟩ : ∃ x, x = rdG 0 scan s (p, er) := ⟨_, rfl⟩
  rw [← hx] at hn ⊢
  clear hx h
  dsimp only at hn ⊢
  by_cases h0 : e2 = 0
  · subst h0
    rw [if_pos rfl]
    by_cases h1 : n < 0
    · rw [if_pos h1]
      go_enter Try.func91, Try.ntmps91
      go_wp2_with fail
      refine hn.mono ?_
      rintro e w1 ⟨rfl, hR, hG⟩
      have HR := Lib.hid hR
      have HG := Lib.hid hG
      have d2 := cell_of_row w1 b 2 _ _ _ hR.1
      have d1 := cell_of_row w1 b 1 _ _ _ hR.1
      have f2 := frozen_of_row w1 b 2 _ _ hR.1
      have f1 := frozen_of_row w1 b 1 _ _ hR.1
      clear hR hG hn c1
      go_wp2_with fail
      go_ret
      refine ⟨rfl, ⟨?_, hp⟩, gq_more (gq_more HG.out 2 _) 1 _⟩
      rw [blk_set _ (blk_set _ HR.out.1)]
      rfl
    · rw [if_neg h1]
      by_cases h2 : most < n
      · rw [if_pos h2]
        have ht := htoo
        go_enter Try.func91, Try.ntmps91
        go_wp2_with fail
        refine hn.mono ?_
        rintro e w1 ⟨rfl, hR, hG⟩
        have HR := Lib.hid hR
        have HG := Lib.hid hG
        have d2 := cell_of_row w1 b 2 _ _ _ hR.1
        have d1 := cell_of_row w1 b 1 _ _ _ hR.1
        have f2 := frozen_of_row w1 b 2 _ _ hR.1
        have f1 := frozen_of_row w1 b 1 _ _ hR.1
        clear hR hG hn c1
        go_wp2_with fail
        go_ret
        refine ⟨rfl, ⟨?_, hp⟩, gq_more (gq_more HG.out 2 _) 1 _⟩
        rw [blk_set _ (blk_set _ HR.out.1)]
        rfl
      · rw [if_neg h2]
        by_cases h3 : ((s.size - p2 : Nat) : Int) < n
        · rw [if_pos h3]
          go_enter Try.func91, Try.ntmps91
          go_wp2_with fail
          refine hn.mono ?_
          rintro e w1 ⟨rfl, hR, hG⟩
          have HR := Lib.hid hR
          have HG := Lib.hid hG
          have d2 := cell_of_row w1 b 2 _ _ _ hR.1
          have d0 := cell_of_row w1 b 0 _ _ _ hR.1
          have d1 := cell_of_row w1 b 1 _ _ _ hR.1
          have f2 := frozen_of_row w1 b 2 _ _ hR.1
          have f1 := frozen_of_row w1 b 1 _ _ hR.1
          have hp2 : p2 ≤ s.size := hR.2
          have hw1 : wrap64 ((s.size : Int) - (p2 : Int)) = ((s.size - p2 : Nat) : Int) := by unfold wrap64; omega
          have hw2 : IntKind.i64.wrap ((s.size : Int) - (p2 : Int)) = ((s.size - p2 : Nat) : Int) := by simp only [IntKind.wrap_i64]; omega
          have hw3 : (s.size : Int) - (p2 : Int) = ((s.size - p2 : Nat) : Int) := by omega
          clear hR hG hn c1
          go_wp2_with fail
          go_region
          go_wp2_with fail
          go_ret
          refine ⟨rfl, ⟨?_, hp⟩, ?_⟩
          · show ((w1.setCell _ _).setCell _ _).heap[b]? = _
            rw [blk_set _ (blk_set _ HR.out.1)]
            rfl
          · have := gq_more (gq_more HG.out 2 (.int .i64 4)) 1 (.int .i64 (p : Int))
            exact ⟨this.os, this.tape, this.output, this.size, this.block⟩
        · rw [if_neg h3]
          go_enter Try.func91, Try.ntmps91
          go_wp2_with fail
          refine hn.mono ?_
          rintro e w1 ⟨rfl, hR, hG⟩
          have HR := Lib.hid hR
          have HG := Lib.hid hG
          have d2 := cell_of_row w1 b 2 _ _ _ hR.1
          have d0 := cell_of_row w1 b 0 _ _ _ hR.1
          have d1 := cell_of_row w1 b 1 _ _ _ hR.1
          have hp2 : p2 ≤ s.size := hR.2
          have hw1 : wrap64 ((s.size : Int) - (p2 : Int)) = ((s.size - p2 : Nat) : Int) := by unfold wrap64; omega
          have hw2 : IntKind.i64.wrap ((s.size : Int) - (p2 : Int)) = ((s.size - p2 : Nat) : Int) := by simp only [IntKind.wrap_i64]; omega
          have hw3 : (s.size : Int) - (p2 : Int) = ((s.size - p2 : Nat) : Int) := by omega
          clear hR hG hn c1
          go_wp2_with fail
          go_region
          go_wp2_with fail
          go_ret
          exact ⟨rfl, HR.out, ⟨HG.out.os, HG.out.tape, HG.out.output, HG.out.size, HG.out.block⟩⟩
  · rw [if_neg h0]
    go_enter Try.func91, Try.ntmps91
    go_wp2_with fail
    refine hn.mono ?_
    rintro e w1 ⟨rfl, hR, hG⟩
    have HR := Lib.hid hR
    have HG := Lib.hid hG
    have d2 := cell_of_row w1 b 2 _ _ _ hR.1
    clear hR hG hn c1
    go_wp2_with fail
    go_ret
    exact ⟨rfl, HR.out, HG.out⟩
theorem rr_count (b : Nat) (s : ByteArray) (st : Rst) (hs : s.size ≤ 1000000) (most : Int) (w : World) (h : RR w b s st) :
    Calls Try.prog 72 #[.pointer (qb b), .int .i64 most] w fun e w' => e = .returned (.int .i64 (rdG 0 (scanZ most 6) s st).1) ∧ RR w' b s (rdG 0 (scanZ most 6) s st).2 ∧ Gq w w' (qb b) := by
  have hn := rr_sized b s st hs most 6 (by decide) w h
  obtain ⟨x, hx⟩ : ∃ x, x = rdG 0 (scanZ most 6) s st := ⟨_, rfl⟩
  rw [← hx] at hn ⊢
  clear hx h
  go_enter Try.func72, Try.ntmps72
  go_wp2_with fail
  refine hn.mono ?_
  rintro e w1 ⟨rfl, hR, hG⟩
  have HR := Lib.hid hR
  have HG := Lib.hid hG
  clear hR hG
  go_wp2_with fail
  go_ret
  exact ⟨rfl, HR.out, HG.out⟩
end Go.Proofs.Ytacgomhegjilgaa
namespace Go.Proofs.Ytacgomhegjilgaa
open Go.ChangeShapes Go.WideShapes Go.ChangeAt Go.RowKit En
/-- At p, the string goes on with F. -/
def Hs (s : ByteArray) (p : Nat) (F : List UInt8) : Prop := ∃ rest, s.data.toList.drop p = F ++ rest
theorem Hs.left {s : ByteArray} {p : Nat} {F G : List UInt8} (h : Hs s p (F ++ G)) : Hs s p F := by
  obtain ⟨rest, e⟩ := h
  exact ⟨G ++ rest, by rw [e, List.append_assoc]⟩
theorem Hs.right {s : ByteArray} {p : Nat} {F G : List UInt8} (h : Hs s p (F ++ G)) : Hs s (p + F.length) G := by
  obtain ⟨rest, e⟩ := h
  exact ⟨rest, by rw [← List.drop_drop, e, List.append_assoc, List.drop_left]⟩
theorem Hs.len {s : ByteArray} {p : Nat} {F : List UInt8} (h : Hs s p F) : F.length ≤ (s.data.toList.drop p).length := by
  obtain ⟨rest, e⟩ := h
  rw [e, List.length_append]; omega
theorem rdG_at {α : Type} (z : α) (f : List UInt8 → α × Int × Int) (s : ByteArray) (p : Nat) (v : α) (k : Nat) (h : f (s.data.toList.drop p) = (v, (k : Int), 0)) : rdG z f s (p, 0) = (v, (p + k, 0)) := by
  unfold rdG
  simp only [h, if_true, Int.toNat_natCast]
theorem at_num {s : ByteArray} {p : Nat} {n : Int} (hn : In64 n) (h : Hs s p (num n)) : rdG 0 scan s (p, 0) = (n, (p + (num n).length, 0)) := by
  obtain ⟨rest, e⟩ := h
  exact rdG_at 0 scan s p n _ (by rw [e, scan_num n hn])
theorem scanZ_at (most too : Int) (n : Nat) (hn : (n : Int) ≤ most) (hin : In64 (n : Int)) (rest : List UInt8) (hr : n ≤ rest.length) : scanZ most too (num (n : Int) ++ rest) = ((n : Int), ((num (n : Int)).length : Int), 0) := by
  unfold scanZ
  rw [scan_num (n : Int) hin rest]
  rw [List.length_append]
  dsimp only
  rw [if_pos rfl, if_neg (by omega), if_neg (by omega), if_neg (by omega)]
end Go.Proofs.Ytacgomhegjilgaa
namespace Go.Proofs.Ytacgomhegjilgaa
open Go.ChangeShapes Go.WideShapes Go.ChangeAt Go.RowKit En
theorem rdG_err {α : Type} (z : α) (f : List UInt8 → α × Int × Int) (s : ByteArray) (st : Rst) (h : st.2 ≠ 0) : (rdG z f s st).2 = st := by
  unfold rdG; rw [if_neg h]
theorem num_length (n : Int) : (num n).length = sz n.natAbs + 1 := by
  unfold num
  rw [List.length_cons, digs_len]; omega
end Go.Proofs.Ytacgomhegjilgaa
namespace Go.Proofs.Ytacgomhegjilgaa
open Go.ChangeShapes Go.WideShapes Go.ChangeAt Go.RowKit En
theorem xor_inj8 {a b m : UInt8} (h : (a ^^^ m).toNat = (b ^^^ m).toNat) : a = b := by
  have h1 := UInt8.toNat_inj.1 h
  have h2 := congrArg (· ^^^ m) h1
  simpa [UInt8.xor_assoc] using h2
theorem magL_inj (m : UInt8) : ∀ (n : Nat) (l k : List UInt8), l.length = n → k.length = n → magL m l = magL m k → l = k := by
  intro n
  induction n with
  | zero => intro l k hl hk _; rw [List.eq_nil_of_length_eq_zero hl, List.eq_nil_of_length_eq_zero hk]
  | succ n ih =>
    intro l k hl hk h
    have hl0 : l ≠ [] := fun e => by rw [e] at hl; simp at hl
    have hk0 : k ≠ [] := fun e => by rw [e] at hk; simp at hk
    obtain ⟨L, b, rfl⟩ : ∃ L b, l = L ++ [b] := ⟨l.dropLast, l.getLast hl0, (List.dropLast_concat_getLast hl0).symm⟩
    obtain ⟨K, c, rfl⟩ : ∃ L b, k = L ++ [b] := ⟨k.dropLast, k.getLast hk0, (List.dropLast_concat_getLast hk0).symm⟩
    rw [magL_snoc, magL_snoc] at h
    have h1 := (b ^^^ m).toNat_lt
    have h2 := (c ^^^ m).toNat_lt
    have e1 : magL m L = magL m K := by omega
    have e2 : (b ^^^ m).toNat = (c ^^^ m).toNat := by omega
    rw [ih L K (by simpa using hl) (by simpa using hk) e1, xor_inj8 e2]
theorem magL_ge (m : UInt8) (d : UInt8) (D : List UInt8) (h : d ≠ m) : 256 ^ D.length ≤ magL m (d :: D) := by
  have gen : ∀ (l : List UInt8) (x : Nat), x * 256 ^ l.length ≤ l.foldl (fun y b => y * 256 + (b ^^^ m).toNat) x := by
    intro l
    induction l with
    | nil => intro x; simp
    | cons b l ih =>
      intro x
      rw [List.foldl_cons, List.length_cons, Nat.pow_succ]
      refine Nat.le_trans ?_ (ih _)
      rw [Nat.mul_comm (256 ^ l.length) 256, ← Nat.mul_assoc]
      exact Nat.mul_le_mul_right _ (Nat.le_add_right _ _)
  have h1 : 1 ≤ (d ^^^ m).toNat := by
    rcases Nat.eq_zero_or_pos (d ^^^ m).toNat with h0 | h0
    · exact absurd (xor_inj8 (a := d) (b := m) (m := m) (by rw [h0, UInt8.xor_self]; rfl)) h
    · exact h0
  have h2 := gen D (0 * 256 + (d ^^^ m).toNat)
  rw [Nat.zero_mul, Nat.zero_add] at h2
  have h3 : 256 ^ D.length ≤ (d ^^^ m).toNat * 256 ^ D.length := Nat.le_mul_of_pos_left _ h1
  refine Nat.le_trans h3 ?_
  show _ ≤ (d :: D).foldl _ 0
  rw [List.foldl_cons, Nat.zero_mul, Nat.zero_add]
  exact h2
theorem pow256 (z : Nat) : 256 ^ z = 2 ^ (8 * z) := by rw [Nat.pow_mul]
theorem sz_eq {m z : Nat} (hm : m < 18446744073709551616) (h1 : m < 256 ^ z) (h2 : z = 0 ∨ 256 ^ (z - 1) ≤ m) : sz m = z := by
  rw [pow256] at h1
  rw [pow256] at h2
  rcases Nat.eq_zero_or_pos m with rfl | h0
  · rcases h2 with rfl | h2
    · rfl
    · have := Nat.pow_pos (n := 8 * (z - 1)) (show 0 < 2 by decide); omega
  · obtain ⟨_, b1, b2⟩ := Lib.bitLenAux_bounds 64 m hm (by omega)
    have b1' : 2 ^ (Lib.bitLen m - 1) ≤ m := b1
    have b2' : m < 2 ^ Lib.bitLen m := b2
    have c1 : Lib.bitLen m - 1 < 8 * z := (Nat.pow_lt_pow_iff_right (by decide)).1 (Nat.lt_of_le_of_lt b1' h1)
    have hz : z ≠ 0 := fun e => by rw [e] at h1; simp at h1; omega
    have c2 : 8 * (z - 1) < Lib.bitLen m := (Nat.pow_lt_pow_iff_right (by decide)).1 (Nat.lt_of_le_of_lt (h2.resolve_left hz) b2')
    unfold sz
    omega
theorem scan_sound {l : List UInt8} (h : (scan l).2.2 = 0) : ∃ rest, l = num (scan l).1 ++ rest ∧ (scan l).2.1 = ((num (scan l).1).length : Int) ∧ In64 (scan l).1 := by
  cases l with
  | nil => exact absurd h (by decide)
  | cons b t =>
    rw [scan_cons] at h ⊢
    by_cases h1 : 8 < szB b
    · rw [if_pos h1] at h; exact absurd h (by decide)
    · rw [if_neg h1] at h ⊢
      by_cases h2 : t.length < szB b
      · rw [if_pos h2] at h; exact absurd h (by decide)
      · rw [if_neg h2] at h ⊢
        by_cases h3 : 0 < szB b ∧ t.head? = some (maskB b)
        · rw [if_pos h3] at h; exact absurd h (by decide)
        · rw [if_neg h3] at h ⊢
          obtain ⟨D, hD⟩ : ∃ D, D = t.take (szB b) := ⟨_, rfl⟩
          rw [← hD] at h ⊢
          have hDl : D.length = szB b := by rw [hD, List.length_take]; omega
          obtain ⟨m, hm⟩ : ∃ m, m = magL (maskB b) D := ⟨_, rfl⟩
          rw [← hm] at h ⊢
          have hlt := magL_lt (maskB b) D
          rw [← hm, hDl] at hlt
          have hge : szB b = 0 ∨ 256 ^ (szB b - 1) ≤ m := by
            rcases Nat.eq_zero_or_pos (szB b) with h0 | h0
            · exact Or.inl h0
            · right
              cases hDc : D with
              | nil => rw [hDc] at hDl; simp at hDl; omega
              | cons d E =>
                have hne : d ≠ maskB b := fun e => h3 ⟨h0, by
                  have : t.head? = D.head? := by rw [hD]; cases t with
                    | nil => simp
                    | cons x y => cases hz : szB b with
                      | zero => omega
                      | succ k => rfl
                  rw [this, hDc, e]; rfl⟩
                have := magL_ge (maskB b) d E hne
                rw [hm, hDc]
                have e1 : E.length = szB b - 1 := by rw [hDc] at hDl; simp at hDl; omega
                rw [← e1]; exact this
          have hm64 : m < 18446744073709551616 := Nat.lt_of_lt_of_le hlt (by
            rw [pow256]
            exact Nat.le_trans (Nat.pow_le_pow_right (by decide) (show 8 * szB b ≤ 64 by omega)) (by decide))
          have hs := sz_eq hm64 hlt hge
          by_cases h4 : (sg m (decide (b.toNat < 128))).2 = 0
          · rw [if_pos h4]
            dsimp only
            have key : ∃ n : Int, sg m (decide (b.toNat < 128)) = (n, 0) ∧ n.natAbs = m ∧ (n < 0 ↔ b.toNat < 128) ∧ In64 n := by
              unfold sg at h4 ⊢
              by_cases hb : b.toNat < 128
              · rw [decide_eq_true hb] at h4 ⊢
                by_cases hmm : m ≤ 9223372036854775808
                · rw [if_pos ⟨rfl, hmm⟩]
                  have hpos : 1 ≤ m := by
                    have : szB b ≠ 0 := by unfold szB; rw [if_pos hb]; omega
                    exact Nat.le_trans (Nat.pow_pos (by decide)) (hge.resolve_left this)
                  exact ⟨_, rfl, by omega, ⟨fun _ => hb, fun _ => by omega⟩, by constructor <;> omega⟩
                · rw [if_neg (fun hh => hmm hh.2), if_neg (fun hh => nomatch hh.1)] at h4
                  exact absurd h4 (by decide)
              · rw [decide_eq_false hb] at h4 ⊢
                by_cases hmm : m ≤ 9223372036854775807
                · rw [if_neg (fun hh => nomatch hh.1), if_pos ⟨rfl, hmm⟩]
                  exact ⟨_, rfl, by omega, ⟨fun h => absurd h (by omega), fun h => absurd h hb⟩, by constructor <;> omega⟩
                · rw [if_neg (fun hh => nomatch hh.1), if_neg (fun hh => hmm hh.2)] at h4
                  exact absurd h4 (by decide)
            obtain ⟨n, hn1, hn2, hn3, hn4⟩ := key
            rw [hn1]
            dsimp only
            have hmk : mask n = maskB b := by
              unfold mask maskB
              by_cases hb : b.toNat < 128
              · rw [if_pos (hn3.2 hb), if_pos hb]
              · rw [if_neg (fun h => hb (hn3.1 h)), if_neg hb]
            have hf : first n = b := by
              refine UInt8.toNat_inj.1 ?_
              have h8 : sz n.natAbs ≤ 8 := by rw [hn2, hs]; omega
              have hblt := b.toNat_lt
              by_cases hb : b.toNat < 128
              · have := first_neg n (hn3.2 hb) h8
                rw [hn2, hs] at this
                have hz : szB b = 128 - b.toNat := by unfold szB; rw [if_pos hb]
                omega
              · have := first_pos n (fun h => hb (hn3.1 h)) h8
                rw [hn2, hs] at this
                have hz : szB b = b.toNat - 128 := by unfold szB; rw [if_neg hb]
                omega
            have hd : digs n 0 = D := by
              refine magL_inj (maskB b) (szB b) _ _ (by rw [digs_len, hn2, hs]; omega) hDl ?_
              rw [← hm, ← hmk, ← hn2]
              exact mag_all n hn4.abs
            refine ⟨t.drop (szB b), ?_, ?_, hn4⟩
            · unfold num
              rw [hf, hd, hD, List.cons_append, List.take_append_drop]
            · rw [num_length, hn2, hs]; push_cast; omega
          · rw [if_neg h4] at h
            exact absurd h h4
theorem Hs.comb {s : ByteArray} {p : Nat} {F G : List UInt8} (h : Hs s p F) (k : Hs s (p + F.length) G) : Hs s p (F ++ G) := by
  obtain ⟨r, e⟩ := h
  obtain ⟨r', e'⟩ := k
  rw [← List.drop_drop, e, List.drop_left] at e'
  exact ⟨r', by rw [e, e', List.append_assoc]⟩
theorem Hs.nil {s : ByteArray} {p : Nat} : Hs s p [] := ⟨_, rfl⟩
theorem rdG_sound {α : Type} {z : α} {f : List UInt8 → α × Int × Int} {s : ByteArray} {st : Rst} (h : (rdG z f s st).2.2 = 0) : st.2 = 0 ∧ (f (s.data.toList.drop st.1)).2.2 = 0 ∧ (rdG z f s st).1 = (f (s.data.toList.drop st.1)).1 ∧ (rdG z f s st).2.1 = st.1 + (f (s.data.toList.drop st.1)).2.1.toNat := by
  unfold rdG at h ⊢
  by_cases h1 : st.2 = 0
  · rw [if_pos h1] at h ⊢
    by_cases h2 : (f (s.data.toList.drop st.1)).2.2 = 0
    · rw [if_pos h2]; exact ⟨h1, h2, rfl, rfl⟩
    · rw [if_neg h2] at h; exact absurd h h2
  · rw [if_neg h1] at h; exact absurd h h1
/-- A form that stands in a string is no longer than the string. -/
theorem Hs.le {s : ByteArray} {p : Nat} {F : List UInt8} (h : Hs s p F) : F.length ≤ s.size := by
  have := h.len
  rw [List.length_drop] at this
  have e : s.data.toList.length = s.size := by simp
  omega
/-- What is read up to the end is the whole string. -/
theorem Hs.all {s : ByteArray} {F : List UInt8} (h : Hs s 0 F) (hl : s.size ≤ F.length) : bytesOf F = s := by
  obtain ⟨rest, e⟩ := h
  rw [List.drop_zero] at e
  have e1 : s.data.toList.length = s.size := by simp
  have e2 := congrArg List.length e
  rw [List.length_append] at e2
  have e3 : rest = [] := List.eq_nil_of_length_eq_zero (by omega)
  rw [e3, List.append_nil] at e
  rw [← e]; rfl
theorem end_ok {s : ByteArray} {st : Rst} (h : endE s st = 0) : st.2 = 0 ∧ s.size ≤ st.1 := by
  unfold endE at h
  by_cases h1 : st.2 = 0
  · rw [if_pos h1] at h
    by_cases h2 : st.1 < s.size
    · rw [if_pos h2] at h; exact absurd h (by decide)
    · exact ⟨h1, by omega⟩
  · rw [if_neg h1] at h; exact absurd h h1
end Go.Proofs.Ytacgomhegjilgaa
namespace Go.Proofs.Ytacgomhegjilgaa
open Go.ChangeShapes Go.WideShapes Go.ChangeAt Go.RowKit En
theorem rr_end (b : Nat) (s : ByteArray) (st : Rst) (_hs : s.size ≤ 1000000) (w : World) (h : RR w b s st) :
    Calls Try.prog 74 #[.pointer (qb b)] w fun e w' => e = .returned (.int .i64 (endE s st)) ∧ Below w.heap.size w w' := by
  obtain ⟨p, e⟩ := st
  have c0 := cell_of_row w b 0 _ _ _ h.1
  have c1 := cell_of_row w b 1 _ _ _ h.1
  have c2 := cell_of_row w b 2 _ _ _ h.1
  have hp : p ≤ s.size := h.2
  dsimp only at c0 c1 c2
  clear h
  unfold endE
  dsimp only
  by_cases he : e = 0
  · subst he
    rw [if_pos rfl]
    by_cases hl : p < s.size
    · rw [if_pos hl]
      have hl' : (p : Int) < (s.size : Int) := by omega
      go_enter Try.func74, Try.ntmps74
      go_wp2_with fail
      go_region
      go_wp2_with fail
      go_ret
      exact ⟨rfl, Below.drew (Below.refl _ _)⟩
    · rw [if_neg hl]
      have hl' : ¬ (p : Int) < (s.size : Int) := by omega
      go_enter Try.func74, Try.ntmps74
      go_wp2_with fail
      go_region
      go_wp2_with fail
      go_ret
      exact ⟨rfl, Below.drew (Below.refl _ _)⟩
  · rw [if_neg he]
    have he' : (e == (0 : Int)) = false := by simpa using he
    go_enter Try.func74, Try.ntmps74
    go_wp2_with fail
    go_region
    go_wp2_with fail
    go_ret
    exact ⟨rfl, Below.drew (Below.refl _ _)⟩
end Go.Proofs.Ytacgomhegjilgaa
