/- The Reader: what layer 1's texts say of it (made by wip/bin/pick.py) -/
import Derived.Test.YtajainkaomkbjaaEw
import Derived.ChangeAlike
import Derived.Deep.Heap
import Derived.Laws.IdiomStrings
import Derived.Laws.RangeString
import Derived.Lib.QuietBelow
import Derived.RegionTactic
namespace Go.Proofs.Ytajainkaomkbjaa.E
open Go.ChangeShapes Go.WideShapes Go.ChangeAt Go.RowKit En
theorem WS.lt {w : World} {g : Nat} {fs : List (List UInt8)} (h : WS w g fs) : g < w.heap.size := by
  obtain ⟨l, hg, _⟩ := h
  exact (Array.getElem?_eq_some_iff.1 hg).1
end Go.Proofs.Ytajainkaomkbjaa.E
namespace Go.Proofs.Ytajainkaomkbjaa.E
open Go.ChangeShapes Go.WideShapes Go.ChangeAt Go.RowKit En
/-- The int with a magnitude and a sign, and the error. -/
def sg (m : Nat) (neg : Bool) : Int × Int :=
  if neg = true ∧ m ≤ 9223372036854775808 then (-(m : Int), 0) else if neg = false ∧ m ≤ 9223372036854775807 then ((m : Int), 0) else (0, 3)
theorem signed_any (m : Nat) (neg : Bool) (hm : m < 18446744073709551616) (w : World) :
    Calls Try.prog 98 #[.int .u64 (m : Int), .bool neg] w fun e w' => e = .returned (.tuple #[.int .i64 (sg m neg).1, .int .i64 (sg m neg).2]) ∧ w' = w := by
  cases neg with
  | true =>
    by_cases h : m ≤ 9223372036854775808
    · have e : sg m true = (-(m : Int), 0) := by unfold sg; rw [if_pos ⟨rfl, h⟩]
      have e1 : IntKind.i64.wrap (IntKind.u64.wrap (-(m : Int))) = -(m : Int) := by simp only [IntKind.wrap_u64, IntKind.wrap_i64]; omega
      have h' : (m : Int) ≤ 9223372036854775808 := by omega
      rw [e]
      go_enter Try.func98, Try.ntmps98
      go_wp2
      go_ret2
      exact ⟨rfl, rfl⟩
    · have e : sg m true = (0, 3) := by unfold sg; rw [if_neg (fun h2 => h h2.2), if_neg (fun h2 => nomatch h2.1)]
      have h' : ¬ (m : Int) ≤ 9223372036854775808 := by omega
      rw [e]
      go_enter Try.func98, Try.ntmps98
      go_wp2
      go_ret2
      exact ⟨rfl, rfl⟩
  | false =>
    by_cases h : m ≤ 9223372036854775807
    · have e : sg m false = ((m : Int), 0) := by unfold sg; rw [if_neg (fun h2 => nomatch h2.1), if_pos ⟨rfl, h⟩]
      have e1 : IntKind.i64.wrap (m : Int) = (m : Int) := by simp only [IntKind.wrap_i64]; omega
      have h' : (m : Int) ≤ 9223372036854775807 := by omega
      rw [e]
      go_enter Try.func98, Try.ntmps98
      go_wp2
      go_ret2
      exact ⟨rfl, rfl⟩
    · have e : sg m false = (0, 3) := by unfold sg; rw [if_neg (fun h2 => nomatch h2.1), if_neg (fun h2 => h h2.2)]
      have h' : ¬ (m : Int) ≤ 9223372036854775807 := by omega
      rw [e]
      go_enter Try.func98, Try.ntmps98
      go_wp2
      go_ret2
      exact ⟨rfl, rfl⟩
def magL (mask : UInt8) (l : List UInt8) : Nat := l.foldl (fun m b => m * 256 + (b ^^^ mask).toNat) 0
def szB (b : UInt8) : Nat := if b.toNat < 128 then 128 - b.toNat else b.toNat - 128
def maskB (b : UInt8) : UInt8 := if b.toNat < 128 then 255 else 0
/-- The number that the bytes begin with, the number of its bytes, and the error. -/
def scan : List UInt8 → Int × Int × Int
  | [] => (0, 0, 4)
  | b :: t =>
    if 8 < szB b then (0, 0, 3) else if t.length < szB b then (0, 0, 4) else if 0 < szB b ∧ t.head? = some (maskB b) then (0, 0, 3) else
    if (sg (magL (maskB b) (t.take (szB b))) (decide (b.toNat < 128))).2 = 0 then ((sg (magL (maskB b) (t.take (szB b))) (decide (b.toNat < 128))).1, 1 + (szB b : Int), 0) else (0, 0, (sg (magL (maskB b) (t.take (szB b))) (decide (b.toNat < 128))).2)
theorem cons_at (s : ByteArray) (h : 0 < s.size) : s.data.toList = s[0] :: s.data.toList.drop 1 := by
  have := List.drop_eq_getElem_cons (l := s.data.toList) (i := 0) (by simpa using h)
  rw [List.drop_zero] at this
  exact this
theorem scan_cons (b : UInt8) (t : List UInt8) : scan (b :: t) = if 8 < szB b then (0, 0, 3) else if t.length < szB b then (0, 0, 4) else if 0 < szB b ∧ t.head? = some (maskB b) then (0, 0, 3) else
    if (sg (magL (maskB b) (t.take (szB b))) (decide (b.toNat < 128))).2 = 0 then ((sg (magL (maskB b) (t.take (szB b))) (decide (b.toNat < 128))).1, 1 + (szB b : Int), 0) else (0, 0, (sg (magL (maskB b) (t.take (szB b))) (decide (b.toNat < 128))).2) := rfl
theorem magL_lt (mask : UInt8) (l : List UInt8) : magL mask l < 256 ^ l.length := by
  have gen : ∀ (l : List UInt8) (m n : Nat), m < 256 ^ n → l.foldl (fun m b => m * 256 + (b ^^^ mask).toNat) m < 256 ^ (n + l.length) := by
    intro l
    induction l with
    | nil => intro m n h; simpa using h
    | cons b l ih =>
      intro m n h
      have := ih (m * 256 + (b ^^^ mask).toNat) (n + 1) (by have := (b ^^^ mask).toNat_lt; rw [Nat.pow_succ]; omega)
      rw [List.foldl_cons, List.length_cons, show n + (l.length + 1) = n + 1 + l.length by omega]
      exact this
  have := gen l 0 0 (by omega)
  rwa [Nat.zero_add] at this
theorem magL_snoc (mask : UInt8) (l : List UInt8) (b : UInt8) : magL mask (l ++ [b]) = magL mask l * 256 + (b ^^^ mask).toNat := by unfold magL; rw [List.foldl_append]; rfl
theorem or_step (M : Nat) (c m : UInt8) (hM : M < 72057594037927936) : bits .or .u64 (IntKind.u64.wrap ((M : Int) * 256)) (IntKind.u64.wrap (bits .xor .u8 (c.toNat : Int) (m.toNat : Int))) = ((M * 256 + (c ^^^ m).toNat : Nat) : Int) := by
  have hx : bits .xor .u8 (c.toNat : Int) (m.toNat : Int) = ((c ^^^ m).toNat : Int) := by
    rw [u8_xor_nat c.toNat m.toNat c.toNat_lt m.toNat_lt, UInt8.toNat_xor]
  have hl := (c ^^^ m).toNat_lt
  have h1 : IntKind.u64.wrap ((M : Int) * 256) = ((M * 256 : Nat) : Int) := by simp only [IntKind.wrap_u64]; omega
  have h2 : IntKind.u64.wrap ((c ^^^ m).toNat : Int) = ((c ^^^ m).toNat : Int) := by simp only [IntKind.wrap_u64]; omega
  rw [hx, h1, h2, u64_or_nat _ _ (by omega) (by omega)]
  have := Nat.two_pow_add_eq_or_of_lt (i := 8) (b := (c ^^^ m).toNat) (by omega) M
  rw [show 2 ^ 8 * M = M * 256 by omega] at this
  rw [← this]
theorem scan_big (s : ByteArray) (h : 0 < s.size) (h1 : 8 < szB s[0]) : scan s.data.toList = (0, 0, 3) := by
  rw [cons_at s h, scan_cons, if_pos h1]
theorem scan_short (s : ByteArray) (h : 0 < s.size) (h1 : ¬ 8 < szB s[0]) (h2 : s.size - 1 < szB s[0]) : scan s.data.toList = (0, 0, 4) := by
  rw [cons_at s h, scan_cons, if_neg h1, if_pos (by simpa using h2)]
theorem head_at (s : ByteArray) (h : 1 < s.size) : (s.data.toList.drop 1).head? = some s[1] := by
  rw [List.head?_drop]
  have h' : 1 < s.data.toList.length := by simpa using h
  rw [List.getElem?_eq_getElem h']; rfl
theorem scan_mask (s : ByteArray) (h : 1 < s.size) (h1 : ¬ 8 < szB s[0]) (h2 : ¬ s.size - 1 < szB s[0]) (h3 : 0 < szB s[0]) (h4 : s[1] = maskB s[0]) : scan s.data.toList = (0, 0, 3) := by
  rw [cons_at s (by omega), scan_cons, if_neg h1, if_neg (by simpa using h2), if_pos ⟨h3, by rw [head_at s h, h4]⟩]
theorem scan_rest (s : ByteArray) (h : 0 < s.size) (h1 : ¬ 8 < szB s[0]) (h2 : ¬ s.size - 1 < szB s[0]) (h3 : ¬ (0 < szB s[0] ∧ ∃ h : 1 < s.size, s[1] = maskB s[0])) (r : Int × Int) (hr : sg (magL (maskB s[0]) ((s.data.toList.drop 1).take (szB s[0]))) (decide (s[0].toNat < 128)) = r) :
    scan s.data.toList = if r.2 = 0 then (r.1, (1 : Int) + (szB s[0] : Int), 0) else (0, 0, r.2) := by
  have hh : ¬ (0 < szB s[0] ∧ (s.data.toList.drop 1).head? = some (maskB s[0])) := by
    rintro ⟨h4, h5⟩
    have h6 : 1 < s.size := by omega
    rw [head_at s h6] at h5
    exact h3 ⟨h4, h6, by simpa using h5⟩
  rw [cons_at s h, scan_cons, if_neg h1, if_neg (by simpa using h2), if_neg hh, hr]
set_option maxRecDepth 100000 in
set_option maxHeartbeats 1000000 in
theorem scan_neg (s : ByteArray) (hs0 : 0 < s.size) (hs : s.size ≤ 1000000) (hn : s[0].toNat < 128) (w : World) :
    Calls Try.prog 80 #[.string s] w fun e w' => e = .returned (.tuple #[.int .i64 (scan s.data.toList).1, .int .i64 (scan s.data.toList).2.1, .int .i64 (scan s.data.toList).2.2]) ∧ w' = w := by
  have hE : s.toList.isEmpty = false := by
    rw [ByteArray.toList_eq]
    cases hl : s.data.toList with
    | nil =>
      have h : s.data.toList.length = s.size := by simp
      rw [hl] at h
      simp at h; omega
    | cons _ _ => rfl
  have hneg : (s[0].toNat : Int) - (128 : Int) < 0 := by omega
  have ek : szB s[0] = 128 - s[0].toNat := by unfold szB; rw [if_pos hn]
  have em : maskB s[0] = 255 := by unfold maskB; rw [if_pos hn]
  have hw : wrap64 (-((s[0].toNat : Int) - (128 : Int))) = (128 : Int) - (s[0].toNat : Int) := by unfold wrap64; omega
  by_cases h1 : 8 < szB s[0]
  · have e := scan_big s hs0 h1
    have h1' : (8 : Int) < (128 : Int) - (s[0].toNat : Int) := by omega
    rw [e]
    go_enter Try.func80, Try.ntmps80
    go_wp2_with fail
    go_ret3
    exact ⟨rfl, rfl⟩
  · by_cases h2 : s.size - 1 < szB s[0]
    · have e := scan_short s hs0 h1 h2
      have h1' : ¬ (8 : Int) < (128 : Int) - (s[0].toNat : Int) := by omega
      have h2' : (s.size : Int) - (1 : Int) < (128 : Int) - (s[0].toNat : Int) := by omega
      rw [e]
      go_enter Try.func80, Try.ntmps80
      go_wp2_with fail
      go_ret3
      exact ⟨rfl, rfl⟩
    · have hs1 : 1 < s.size := by omega
      by_cases h3 : s[1] = maskB s[0]
      · have e := scan_mask s hs1 h1 h2 (by omega) h3
        have h1' : ¬ (8 : Int) < (128 : Int) - (s[0].toNat : Int) := by omega
        have h2' : ¬ (s.size : Int) - (1 : Int) < (128 : Int) - (s[0].toNat : Int) := by omega
        have h3' : (0 : Int) < (128 : Int) - (s[0].toNat : Int) := by omega
        have h4' : s[1].toNat = 255 := by rw [h3, em]; rfl
        rw [e]
        go_enter Try.func80, Try.ntmps80
        go_wp2_with fail
        go_ret3
        exact ⟨rfl, rfl⟩
      · have e := scan_rest s hs0 h1 h2 (fun h => h3 h.2.2) _ rfl
        have h1' : ¬ (8 : Int) < (128 : Int) - (s[0].toNat : Int) := by omega
        have h2' : ¬ (s.size : Int) - (1 : Int) < (128 : Int) - (s[0].toNat : Int) := by omega
        have h3' : (0 : Int) < (128 : Int) - (s[0].toNat : Int) := by omega
        have h4' : ¬ s[1].toNat = 255 := fun h => h3 (by rw [em]; exact UInt8.toNat_inj.1 h)
        have h4b : ((s[1].toNat : Int) == (255 : Int)) = false := by simp; omega
        obtain ⟨k, hk⟩ : ∃ k, szB s[0] = k := ⟨_, rfl⟩
        have hk' : -((s[0].toNat : Int) - (128 : Int)) = (k : Int) := by omega
        have hk8 : k ≤ 8 := by omega
        have hks : k + 1 ≤ s.size := by omega
        have hd : decide (s[0].toNat < 128) = true := by simpa using hn
        obtain ⟨L, hL⟩ : ∃ L, L = s.data.toList.drop 1 := ⟨_, rfl⟩
        rw [hk, em, hd, ← hL] at e
        obtain ⟨v, hv⟩ : ∃ v, v = sg (magL 255 (L.take k)) true := ⟨_, rfl⟩
        rw [← hv] at e
        obtain ⟨R, hR⟩ : ∃ R, R = scan s.data.toList := ⟨_, rfl⟩
        rw [← hR] at e ⊢
        have HR := Lib.hid e
        have Hv := Lib.hid hv
        clear hv hR
        have hlen : L.length = s.size - 1 := by rw [hL]; simp
        have hget : ∀ t, (h : 1 + t < s.size) → L.take (t + 1) = L.take t ++ [s[1 + t]] := fun t h => by
          rw [List.take_add_one, hL, List.getElem?_drop, List.getElem?_eq_getElem (by simpa using h)]; rfl
        have Hget := Lib.hid hget
        have HL := Lib.hid hL
        clear e hget hL
        go_enter Try.func80, Try.ntmps80
        go_wp2_with fail
        go_loopw [8, 38] (fun mg i wr => Hid (wr = w) ∧ ∃ t : Nat, t ≤ k ∧ i = .int .i64 (t : Int) ∧ mg = .int .u64 (magL 255 (L.take t) : Int)) (fun _ i _ => k - (intOf i).toNat)
        case atStart => exact ⟨Lib.hid rfl, 0, by omega, rfl, rfl⟩
        case round =>
          obtain ⟨hww, t, ht, rfl, rfl⟩ := hrel
          obtain rfl := hww.out
          by_cases htk : t < k
          · have hti : (t : Int) < (k : Int) := by omega
            have hb : 1 + t < s.size := by omega
            go_wp2_with fail
            go_roundw
            case rel =>
              refine ⟨by first | exact Lib.hid rfl | exact trivial, t + 1, by omega, by go_num, ?_⟩
              have hM : magL 255 (L.take t) < 72057594037927936 := by
                have h := magL_lt 255 (L.take t)
                have h2 : 256 ^ (L.take t).length ≤ 256 ^ 7 := Nat.pow_le_pow_right (by omega) (by rw [List.length_take]; omega)
                omega
              rw [Hget.out t hb, magL_snoc, ← or_step _ _ _ hM]
              rfl
            case measure => simp [intOf]; omega
          · have hM : magL 255 (L.take k) < 18446744073709551616 := by
              have h := magL_lt 255 (L.take k)
              have h2 : 256 ^ (L.take k).length ≤ 256 ^ 8 := Nat.pow_le_pow_right (by omega) (by rw [List.length_take]; omega)
              omega
            obtain rfl : t = k := by omega
            have hkw : IntKind.i64.wrap ((t : Int) + 1) = (t : Int) + 1 := by simp only [IntKind.wrap_i64]; omega
            by_cases h0 : v.2 = 0
            · have HR1 : Hid (R = (v.1, (1 : Int) + (t : Int), 0)) := Lib.hid (by rw [HR.out, if_pos h0])
              go_wp2_with fail
              refine (signed_any _ true hM wr).mono ?_
              rintro e w1 ⟨rfl, rfl⟩
              simp only [← Hv.out, h0]
              go_wp2_with fail
              go_ret3
              exact ⟨by rw [HR1.out]; rfl, rfl⟩
            · have HR1 : Hid (R = (0, 0, v.2)) := Lib.hid (by rw [HR.out, if_neg h0])
              go_wp2_with fail
              refine (signed_any _ true hM wr).mono ?_
              rintro e w1 ⟨rfl, rfl⟩
              simp only [← Hv.out]
              go_wp2_with fail
              go_ret3
              exact ⟨by rw [HR1.out]; rfl, rfl⟩
set_option maxRecDepth 100000 in
set_option maxHeartbeats 1000000 in
theorem scan_pos (s : ByteArray) (hs0 : 0 < s.size) (hs : s.size ≤ 1000000) (hn : ¬ s[0].toNat < 128) (w : World) :
    Calls Try.prog 80 #[.string s] w fun e w' => e = .returned (.tuple #[.int .i64 (scan s.data.toList).1, .int .i64 (scan s.data.toList).2.1, .int .i64 (scan s.data.toList).2.2]) ∧ w' = w := by
  have hE : s.toList.isEmpty = false := by
    rw [ByteArray.toList_eq]
    cases hl : s.data.toList with
    | nil =>
      have h : s.data.toList.length = s.size := by simp
      rw [hl] at h
      simp at h; omega
    | cons _ _ => rfl
  have hneg : ¬ (s[0].toNat : Int) - (128 : Int) < 0 := by omega
  have ek : szB s[0] = s[0].toNat - 128 := by unfold szB; rw [if_neg hn]
  have em : maskB s[0] = 0 := by unfold maskB; rw [if_neg hn]
  have hlt0 := s[0].toNat_lt
  by_cases h1 : 8 < szB s[0]
  · have e := scan_big s hs0 h1
    have h1' : (8 : Int) < (s[0].toNat : Int) - (128 : Int) := by omega
    rw [e]
    go_enter Try.func80, Try.ntmps80
    go_wp2_with fail
    go_ret3
    exact ⟨rfl, rfl⟩
  · by_cases h2 : s.size - 1 < szB s[0]
    · have e := scan_short s hs0 h1 h2
      have h1' : ¬ (8 : Int) < (s[0].toNat : Int) - (128 : Int) := by omega
      have h2' : (s.size : Int) - (1 : Int) < (s[0].toNat : Int) - (128 : Int) := by omega
      rw [e]
      go_enter Try.func80, Try.ntmps80
      go_wp2_with fail
      go_ret3
      exact ⟨rfl, rfl⟩
    · by_cases hz : szB s[0] = 0
      · have e := scan_rest s hs0 h1 h2 (fun h => by omega) _ rfl
        have h1' : ¬ (8 : Int) < (s[0].toNat : Int) - (128 : Int) := by omega
        have h2' : ¬ (s.size : Int) - (1 : Int) < (s[0].toNat : Int) - (128 : Int) := by omega
        have h3' : ¬ (0 : Int) < (s[0].toNat : Int) - (128 : Int) := by omega
        obtain ⟨k, hk⟩ : ∃ k, szB s[0] = k := ⟨_, rfl⟩
        have hk' : (s[0].toNat : Int) - (128 : Int) = (k : Int) := by omega
        have hk8 : k ≤ 8 := by omega
        have hks : k + 1 ≤ s.size := by omega
        have hd : decide (s[0].toNat < 128) = false := by simpa using hn
        obtain ⟨L, hL⟩ : ∃ L, L = s.data.toList.drop 1 := ⟨_, rfl⟩
        rw [hk, em, hd, ← hL] at e
        obtain ⟨v, hv⟩ : ∃ v, v = sg (magL 0 (L.take k)) false := ⟨_, rfl⟩
        rw [← hv] at e
        obtain ⟨R, hR⟩ : ∃ R, R = scan s.data.toList := ⟨_, rfl⟩
        rw [← hR] at e ⊢
        have HR := Lib.hid e
        have Hv := Lib.hid hv
        clear hv hR
        have hlen : L.length = s.size - 1 := by rw [hL]; simp
        have hget : ∀ t, (h : 1 + t < s.size) → L.take (t + 1) = L.take t ++ [s[1 + t]] := fun t h => by
          rw [List.take_add_one, hL, List.getElem?_drop, List.getElem?_eq_getElem (by simpa using h)]; rfl
        have Hget := Lib.hid hget
        have HL := Lib.hid hL
        clear e hget hL
        go_enter Try.func80, Try.ntmps80
        go_wp2_with fail
        go_loopw [8, 38] (fun mg i wr => Hid (wr = w) ∧ ∃ t : Nat, t ≤ k ∧ i = .int .i64 (t : Int) ∧ mg = .int .u64 (magL 0 (L.take t) : Int)) (fun _ i _ => k - (intOf i).toNat)
        case atStart => exact ⟨Lib.hid rfl, 0, by omega, rfl, rfl⟩
        case round =>
          obtain ⟨hww, t, ht, rfl, rfl⟩ := hrel
          obtain rfl := hww.out
          by_cases htk : t < k
          · exfalso; omega
          · have hM : magL 0 (L.take k) < 18446744073709551616 := by
              have h := magL_lt 0 (L.take k)
              have h2 : 256 ^ (L.take k).length ≤ 256 ^ 8 := Nat.pow_le_pow_right (by omega) (by rw [List.length_take]; omega)
              omega
            obtain rfl : t = k := by omega
            have hkw : IntKind.i64.wrap ((t : Int) + 1) = (t : Int) + 1 := by simp only [IntKind.wrap_i64]; omega
            by_cases h0 : v.2 = 0
            · have HR1 : Hid (R = (v.1, (1 : Int) + (t : Int), 0)) := Lib.hid (by rw [HR.out, if_pos h0])
              go_wp2_with fail
              refine (signed_any _ false hM wr).mono ?_
              rintro e w1 ⟨rfl, rfl⟩
              simp only [← Hv.out, h0]
              go_wp2_with fail
              go_ret3
              exact ⟨by rw [HR1.out]; rfl, rfl⟩
            · have HR1 : Hid (R = (0, 0, v.2)) := Lib.hid (by rw [HR.out, if_neg h0])
              go_wp2_with fail
              refine (signed_any _ false hM wr).mono ?_
              rintro e w1 ⟨rfl, rfl⟩
              simp only [← Hv.out]
              go_wp2_with fail
              go_ret3
              exact ⟨by rw [HR1.out]; rfl, rfl⟩
      · have hs1 : 1 < s.size := by omega
        by_cases h3 : s[1] = maskB s[0]
        · have e := scan_mask s hs1 h1 h2 (by omega) h3
          have h1' : ¬ (8 : Int) < (s[0].toNat : Int) - (128 : Int) := by omega
          have h2' : ¬ (s.size : Int) - (1 : Int) < (s[0].toNat : Int) - (128 : Int) := by omega
          have h3' : (0 : Int) < (s[0].toNat : Int) - (128 : Int) := by omega
          have h4' : s[1].toNat = 0 := by rw [h3, em]; rfl
          rw [e]
          go_enter Try.func80, Try.ntmps80
          go_wp2_with fail
          go_ret3
          exact ⟨rfl, rfl⟩
        · have e := scan_rest s hs0 h1 h2 (fun h => h3 h.2.2) _ rfl
          have h1' : ¬ (8 : Int) < (s[0].toNat : Int) - (128 : Int) := by omega
          have h2' : ¬ (s.size : Int) - (1 : Int) < (s[0].toNat : Int) - (128 : Int) := by omega
          have h3' : (0 : Int) < (s[0].toNat : Int) - (128 : Int) := by omega
          have h4' : ¬ s[1].toNat = 0 := fun h => h3 (by rw [em]; exact UInt8.toNat_inj.1 h)
          have h4b : ((s[1].toNat : Int) == (0 : Int)) = false := by simp; omega
          obtain ⟨k, hk⟩ : ∃ k, szB s[0] = k := ⟨_, rfl⟩
          have hk' : (s[0].toNat : Int) - (128 : Int) = (k : Int) := by omega
          have hk8 : k ≤ 8 := by omega
          have hks : k + 1 ≤ s.size := by omega
          have hd : decide (s[0].toNat < 128) = false := by simpa using hn
          obtain ⟨L, hL⟩ : ∃ L, L = s.data.toList.drop 1 := ⟨_, rfl⟩
          rw [hk, em, hd, ← hL] at e
          obtain ⟨v, hv⟩ : ∃ v, v = sg (magL 0 (L.take k)) false := ⟨_, rfl⟩
          rw [← hv] at e
          obtain ⟨R, hR⟩ : ∃ R, R = scan s.data.toList := ⟨_, rfl⟩
          rw [← hR] at e ⊢
          have HR := Lib.hid e
          have Hv := Lib.hid hv
          clear hv hR
          have hlen : L.length = s.size - 1 := by rw [hL]; simp
          have hget : ∀ t, (h : 1 + t < s.size) → L.take (t + 1) = L.take t ++ [s[1 + t]] := fun t h => by
            rw [List.take_add_one, hL, List.getElem?_drop, List.getElem?_eq_getElem (by simpa using h)]; rfl
          have Hget := Lib.hid hget
          have HL := Lib.hid hL
          clear e hget hL
          go_enter Try.func80, Try.ntmps80
          go_wp2_with fail
          go_loopw [8, 38] (fun mg i wr => Hid (wr = w) ∧ ∃ t : Nat, t ≤ k ∧ i = .int .i64 (t : Int) ∧ mg = .int .u64 (magL 0 (L.take t) : Int)) (fun _ i _ => k - (intOf i).toNat)
          case atStart => exact ⟨Lib.hid rfl, 0, by omega, rfl, rfl⟩
          case round =>
            obtain ⟨hww, t, ht, rfl, rfl⟩ := hrel
            obtain rfl := hww.out
            by_cases htk : t < k
            · have hti : (t : Int) < (k : Int) := by omega
              have hb : 1 + t < s.size := by omega
              go_wp2_with fail
              go_roundw
              case rel =>
                refine ⟨by first | exact Lib.hid rfl | exact trivial, t + 1, by omega, by go_num, ?_⟩
                have hM : magL 0 (L.take t) < 72057594037927936 := by
                  have h := magL_lt 0 (L.take t)
                  have h2 : 256 ^ (L.take t).length ≤ 256 ^ 7 := Nat.pow_le_pow_right (by omega) (by rw [List.length_take]; omega)
                  omega
                rw [Hget.out t hb, magL_snoc, ← or_step _ _ _ hM]
                rfl
              case measure => simp [intOf]; omega
            · have hM : magL 0 (L.take k) < 18446744073709551616 := by
                have h := magL_lt 0 (L.take k)
                have h2 : 256 ^ (L.take k).length ≤ 256 ^ 8 := Nat.pow_le_pow_right (by omega) (by rw [List.length_take]; omega)
                omega
              obtain rfl : t = k := by omega
              have hkw : IntKind.i64.wrap ((t : Int) + 1) = (t : Int) + 1 := by simp only [IntKind.wrap_i64]; omega
              by_cases h0 : v.2 = 0
              · have HR1 : Hid (R = (v.1, (1 : Int) + (t : Int), 0)) := Lib.hid (by rw [HR.out, if_pos h0])
                go_wp2_with fail
                refine (signed_any _ false hM wr).mono ?_
                rintro e w1 ⟨rfl, rfl⟩
                simp only [← Hv.out, h0]
                go_wp2_with fail
                go_ret3
                exact ⟨by rw [HR1.out]; rfl, rfl⟩
              · have HR1 : Hid (R = (0, 0, v.2)) := Lib.hid (by rw [HR.out, if_neg h0])
                go_wp2_with fail
                refine (signed_any _ false hM wr).mono ?_
                rintro e w1 ⟨rfl, rfl⟩
                simp only [← Hv.out]
                go_wp2_with fail
                go_ret3
                exact ⟨by rw [HR1.out]; rfl, rfl⟩
theorem scan_any (s : ByteArray) (hs : s.size ≤ 1000000) (w : World) :
    Calls Try.prog 80 #[.string s] w fun e w' => e = .returned (.tuple #[.int .i64 (scan s.data.toList).1, .int .i64 (scan s.data.toList).2.1, .int .i64 (scan s.data.toList).2.2]) ∧ w' = w := by
  by_cases h0 : 0 < s.size
  · by_cases hn : s[0].toNat < 128
    · exact scan_neg s h0 hs hn w
    · exact scan_pos s h0 hs hn w
  · have hnil : s.data.toList = [] := by
      have h : s.data.toList.length = s.size := by simp
      exact List.eq_nil_of_length_eq_zero (by omega)
    have hE : s.toList.isEmpty = true := by rw [ByteArray.toList_eq, hnil]; rfl
    have e : scan s.data.toList = (0, 0, 4) := by rw [hnil]; rfl
    rw [e]
    go_enter Try.func80, Try.ntmps80
    go_wp2_with fail
    go_ret3
    exact ⟨rfl, rfl⟩
end Go.Proofs.Ytajainkaomkbjaa.E
namespace Go.Proofs.Ytajainkaomkbjaa.E
open Go.ChangeShapes Go.WideShapes Go.ChangeAt Go.RowKit En
/-- The Reader in block r. -/
def RS (w : World) (r : Nat) (s : ByteArray) (p : Nat) (err : Int) : Prop :=
  w.heap[r]? = some (.cells #[.string s, .int .i64 (p : Int), .int .i64 err] 108 (0, 0)) ∧ p ≤ s.size
theorem RS.lt {w : World} {r : Nat} {s : ByteArray} {p : Nat} {err : Int} (h : RS w r s p err) : r < w.heap.size := (Array.getElem?_eq_some_iff.1 h.1).1
theorem RS.below {w w' : World} {r : Nat} {s : ByteArray} {p : Nat} {err : Int} (h : RS w r s p err) (hb : Below w.heap.size w w') : RS w' r s p err :=
  ⟨(hb.block r h.lt).trans h.1, h.2⟩
theorem new_reader (s : ByteArray) (w : World) :
    Calls Try.prog 57 #[.string s] w fun e w' => e = .returned (.pointer (some ⟨w.heap.size, 0, none⟩)) ∧ RS w' w.heap.size s 0 0 ∧ Below w.heap.size w w' := by
  go_enter Try.func57, Try.ntmps57
  go_wp2_with fail
  go_ret
  exact ⟨rfl, ⟨Deep.blk_alloc_new w _, Nat.zero_le _⟩, (Below.refl _ _).alloc (Nat.le_refl _) _⟩
theorem r_err (r : Nat) (s : ByteArray) (p : Nat) (err : Int) (w : World) (h : RS w r s p err) :
    Calls Try.prog 64 #[.pointer (some ⟨r, 0, none⟩)] w fun e w' => e = .returned (.int .i64 err) ∧ w' = w := by
  have c2 := cell_of_row w r 2 _ _ _ h.1
  clear h
  go_enter Try.func64, Try.ntmps64
  go_wp2_with fail
  go_ret
  exact ⟨rfl, rfl⟩
theorem scan_size (l : List UInt8) (h : (scan l).2.2 = 0) : ∃ k : Nat, (scan l).2.1 = (k : Int) ∧ 1 ≤ k ∧ k ≤ l.length := by
  cases l with
  | nil => simp [scan] at h
  | cons b t =>
    rw [scan_cons] at h ⊢
    by_cases h1 : 8 < szB b
    · rw [if_pos h1] at h; simp at h
    · rw [if_neg h1] at h ⊢
      by_cases h2 : t.length < szB b
      · rw [if_pos h2] at h; simp at h
      · rw [if_neg h2] at h ⊢
        by_cases h3 : 0 < szB b ∧ t.head? = some (maskB b)
        · rw [if_pos h3] at h; simp at h
        · rw [if_neg h3] at h ⊢
          by_cases h4 : (sg (magL (maskB b) (t.take (szB b))) (decide (b.toNat < 128))).2 = 0
          · rw [if_pos h4]
            exact ⟨1 + szB b, by simp, by omega, by rw [List.length_cons]; omega⟩
          · rw [if_neg h4] at h; exact absurd h h4
theorem cut_list (s : ByteArray) (p : Nat) : (s.extract p s.size).data.toList = s.data.toList.drop p := by
  rw [Lib.extract_data]; exact List.take_of_length_le (by simp)
end Go.Proofs.Ytajainkaomkbjaa.E
namespace Go.Proofs.Ytajainkaomkbjaa.E
open Go.ChangeShapes Go.WideShapes Go.ChangeAt Go.RowKit En
theorem grown_trans {a b c : World} {o : Option Nat} (h : a.grownBy b o) (k : b.grownBy c o) : a.grownBy c o :=
  ⟨k.os.trans h.os, k.tape.trans h.tape, k.output.trans h.output, Nat.le_trans h.size k.size, fun i hi hne => (k.block i (by have := h.size; omega) hne).trans (h.block i hi hne)⟩
theorem grown_below {a b : World} (h : Below a.heap.size a b) (o : Option Nat) : a.grownBy b o := ⟨h.os, h.tape, h.output, h.size, fun i hi _ => h.block i hi⟩
theorem r_left (r : Nat) (s : ByteArray) (p : Nat) (err : Int) (hs : s.size ≤ 1000000) (w : World) (h : RS w r s p err) :
    Calls Try.prog 88 #[.pointer (some ⟨r, 0, none⟩)] w fun e w' => e = .returned (.int .i64 (((s.size - p : Nat) : Int))) ∧ w' = w.drew := by
  have c0 := cell_of_row w r 0 _ _ _ h.1
  have c1 := cell_of_row w r 1 _ _ _ h.1
  have hp := h.2
  have hw : IntKind.i64.wrap ((s.size : Int) - (p : Int)) = ((s.size - p : Nat) : Int) := by simp only [IntKind.wrap_i64]; omega
  have hw2 : wrap64 ((s.size : Int) - (p : Int)) = ((s.size - p : Nat) : Int) := by unfold wrap64; omega
  clear h
  go_enter Try.func88, Try.ntmps88
  go_wp2_with fail
  go_region
  go_wp2_with fail
  go_ret
  exact ⟨rfl, rfl⟩
end Go.Proofs.Ytajainkaomkbjaa.E
namespace Go.Proofs.Ytajainkaomkbjaa.E
open Go.ChangeShapes Go.WideShapes Go.ChangeAt Go.RowKit En
/-- Where a Reader is, and its error. -/
abbrev St := Nat × Int
/-- The Reader behind a pointer, which can be nil. -/
def RP (w : World) (q : Option Addr) (s : ByteArray) (st : St) : Prop :=
  (q = none ∧ s = ByteArray.empty ∧ st = (0, 1)) ∨ ∃ r, q = some ⟨r, 0, none⟩ ∧ RS w r s st.1 st.2
theorem RP.below {w w' : World} {q : Option Addr} {s : ByteArray} {st : St} (h : RP w q s st) (hb : Below w.heap.size w w') : RP w' q s st := by
  rcases h with h | ⟨r, e, h⟩
  · exact Or.inl h
  · exact Or.inr ⟨r, e, h.below hb⟩
def Gq (w w' : World) (q : Option Addr) : Prop := w.grownBy w' (q.map Addr.block)
theorem Gq.trans {a b c : World} {q : Option Addr} (h : Gq a b q) (k : Gq b c q) : Gq a c q := grown_trans h k
theorem Gq.of_below {a b : World} (h : Below a.heap.size a b) (q : Option Addr) : Gq a b q := grown_below h _
theorem Gq.refl (a : World) (q : Option Addr) : Gq a a q := grown_same _ _
/-- Reading with a scanner. -/
def rdG {α : Type} (z : α) (f : List UInt8 → α × Int × Int) (s : ByteArray) (st : St) : α × St :=
  if st.2 = 0 then (if (f (s.data.toList.drop st.1)).2.2 = 0 then ((f (s.data.toList.drop st.1)).1, (st.1 + (f (s.data.toList.drop st.1)).2.1.toNat, 0)) else (z, (st.1, (f (s.data.toList.drop st.1)).2.2))) else (z, st)
def Sized {α : Type} (f : List UInt8 → α × Int × Int) : Prop := ∀ l, (f l).2.2 = 0 → ∃ k : Nat, (f l).2.1 = (k : Int) ∧ k ≤ l.length
theorem scan_sized : Sized scan := fun l h => by
  obtain ⟨k, h1, _, h2⟩ := scan_size l h
  exact ⟨k, h1, h2⟩
theorem put_below {w wg : World} (h : Below w.heap.size w wg) (g o : Nat) (v : Value) : w.grownBy (wg.setCell ⟨g, o, none⟩ v) (some g) :=
  ⟨h.os, h.tape, h.output, by have := h.size; simp [World.setCell]; omega, fun i hi hne => by
    rw [Deep.blk_setCell_other _ _ _ _ (fun e => hne (by rw [e]))]; exact h.block i hi⟩
theorem err_q (q : Option Addr) (s : ByteArray) (st : St) (w : World) (h : RP w q s st) :
    Calls Try.prog 64 #[.pointer q] w fun e w' => e = .returned (.int .i64 st.2) ∧ w = w' := by
  rcases h with ⟨rfl, rfl, rfl⟩ | ⟨r, rfl, h⟩
  · go_enter Try.func64, Try.ntmps64
    go_wp2_with fail
    go_ret
    exact ⟨rfl, rfl⟩
  · exact (r_err r s st.1 st.2 w h).mono fun _ _ ⟨a, b⟩ => ⟨a, b.symm⟩
theorem left_q (q : Option Addr) (s : ByteArray) (st : St) (hs : s.size ≤ 1000000) (w : World) (h : RP w q s st) :
    Calls Try.prog 88 #[.pointer q] w fun e w' => e = .returned (.int .i64 (((s.size - st.1 : Nat) : Int))) ∧ Below w.heap.size w w' := by
  rcases h with ⟨rfl, rfl, rfl⟩ | ⟨r, rfl, h⟩
  · go_enter Try.func88, Try.ntmps88
    go_wp2_with fail
    go_ret
    exact ⟨rfl, Below.refl _ _⟩
  · exact (r_left r s st.1 st.2 hs w h).mono fun _ _ ⟨a, b⟩ => ⟨a, by rw [b]; exact Below.drew (Below.refl _ _)⟩
def endE (s : ByteArray) (st : St) : Int := if st.2 = 0 then (if st.1 < s.size then 3 else 0) else st.2
theorem end_q (q : Option Addr) (s : ByteArray) (st : St) (hs : s.size ≤ 1000000) (w : World) (h : RP w q s st) :
    Calls Try.prog 62 #[.pointer q] w fun e w' => e = .returned (.int .i64 (endE s st)) ∧ Below w.heap.size w w' := by
  obtain ⟨pp, er⟩ := st
  have HR := Lib.hid h
  have hle := left_q q s (pp, er) hs w h
  clear h
  by_cases h0 : er = 0
  · subst h0
    by_cases hl : pp < s.size
    · have e : endE s (pp, 0) = 3 := by unfold endE; rw [if_pos rfl, if_pos hl]
      rw [e]
      obtain ⟨n, hn⟩ : ∃ n, n = s.size - pp := ⟨_, rfl⟩
      have hn0 : 0 < n := by omega
      rw [show s.size - (pp, (0 : Int)).1 = n from hn.symm] at hle
      clear hn e hl
      go_enter Try.func62, Try.ntmps62
      go_wp2_with fail
      refine (err_q q s (pp, 0) w HR.out).mono ?_
      rintro e w1 ⟨rfl, rfl⟩
      go_wp2_with fail
      refine hle.mono ?_
      rintro e w1 ⟨rfl, hb⟩
      have HB := Lib.hid hb
      clear hb
      go_wp2_with fail
      go_ret
      exact ⟨rfl, HB.out⟩
    · have e : endE s (pp, 0) = 0 := by unfold endE; rw [if_pos rfl, if_neg hl]
      rw [e]
      rw [show s.size - (pp, (0 : Int)).1 = 0 by show s.size - pp = 0; omega] at hle
      clear e hl
      go_enter Try.func62, Try.ntmps62
      go_wp2_with fail
      refine (err_q q s (pp, 0) w HR.out).mono ?_
      rintro e w1 ⟨rfl, rfl⟩
      go_wp2_with fail
      refine hle.mono ?_
      rintro e w1 ⟨rfl, hb⟩
      have HB := Lib.hid hb
      clear hb
      go_wp2_with fail
      go_ret
      exact ⟨rfl, HB.out⟩
  · have e : endE s (pp, er) = er := by unfold endE; rw [if_neg h0]
    rw [e]
    clear e hle
    go_enter Try.func62, Try.ntmps62
    go_wp2_with fail
    refine (err_q q s (pp, er) w HR.out).mono ?_
    rintro e w1 ⟨rfl, rfl⟩
    go_wp2_with fail
    go_ret
    exact ⟨rfl, Below.refl _ _⟩
set_option maxRecDepth 100000 in
set_option maxHeartbeats 1000000 in
theorem part_int (q : Option Addr) (s : ByteArray) (st : St) (hs : s.size ≤ 1000000) (f : List UInt8 → Int × Int × Int) (hf : Sized f) (w : World) (h : RP w q s st)
    (hsc : ∀ (p : Nat) (W : World), p ≤ s.size → Below w.heap.size w W → Calls Try.prog 80 #[.string (s.extract p s.size)] W fun e W' => e = .returned (.tuple #[.int .i64 (f (s.data.toList.drop p)).1, .int .i64 (f (s.data.toList.drop p)).2.1, .int .i64 (f (s.data.toList.drop p)).2.2]) ∧ Below W.heap.size W W') :
    Calls Try.prog 79 #[.pointer q, .func (.func 80) #[] #[]] w fun e w' => e = .returned (.int .i64 (rdG 0 f s st).1) ∧ RP w' q s (rdG 0 f s st).2 ∧ Gq w w' q := by
  obtain ⟨p, err⟩ := st
  have HR := Lib.hid h
  by_cases he : err = 0
  · subst he
    rcases h with ⟨_, _, h1⟩ | ⟨r, rfl, h⟩
    · simp at h1
    · dsimp only at h
      have hp := h.2
      obtain ⟨x, hx⟩ : ∃ x, x = f (s.data.toList.drop p) := ⟨_, rfl⟩
      have e0 : rdG 0 f s (p, 0) = if x.2.2 = 0 then (x.1, (p + x.2.1.toNat, 0)) else (0, (p, x.2.2)) := by rw [hx]; rfl
      have Hx := Lib.hid (hf (s.data.toList.drop p))
      rw [← hx] at Hx
      have hsc' := fun W => hsc p W hp
      rw [← hx] at hsc'
      have hr := h.lt
      have c0 := cell_of_row w r 0 _ _ _ h.1
      have c1 := cell_of_row w r 1 _ _ _ h.1
      have H := Lib.hid h
      have Hsc := Lib.hid hsc'
      rw [e0]
      clear h e0 hx hsc hsc'
      have cG0 : Hid (∀ d os, (Go.Sort.grow (redrawn w d) os).cell? ⟨r, 0, none⟩ = some (.string s)) := Lib.hid (fun d os => cell_regrown c0 d os)
      have cG1 : ∀ d os, (Go.Sort.grow (redrawn w d) os).cell? ⟨r, 1, none⟩ = some (.int .i64 (p : Int)) := fun d os => cell_regrown c1 d os
      have cG0' := cG0.out
      by_cases hx0 : x.2.2 = 0
      · rw [if_pos hx0]
        obtain ⟨k, hk, hk2⟩ := Hx.out hx0
        rw [List.length_drop] at hk2
        have hk3 : p + k ≤ s.size := by simp at hk2; omega
        have hkw : IntKind.i64.wrap ((p : Int) + (k : Int)) = (p : Int) + (k : Int) := by simp only [IntKind.wrap_i64]; omega
        have CL : Hid (∀ d os, Calls Try.prog 80 #[.string (s.extract p s.size)] (Go.Sort.grow (redrawn w d) os) fun e w'' => e = .returned (.tuple #[.int .i64 x.1, .int .i64 (k : Int), .int .i64 0]) ∧ ∃ p : Regrown, w'' = Go.Sort.grow (redrawn w p.d) p.os) := Lib.hid (fun d os => Calls.regrown_of (by
          have := Hsc.out _ (below_regrown w d os)
          rw [hk, hx0] at this
          exact this))
        simp only [hk, Int.toNat_natCast]
        clear Hx Hsc hk hx0
        go_enter Try.func79, Try.ntmps79
        go_wp2_with fail
        refine (err_q _ s (p, 0) w HR.out).mono ?_
        rintro e w1 ⟨rfl, rfl⟩
        go_wp2_with fail
        refine wp_region_quiet_below (by kernel_rfl) (by kernel_rfl) ?_
        repeat (go_big_quiet_step ((exact CL.out _ _)))
        refine wpQuiet_nil ?_
        intro _ hw'
        obtain ⟨⟨dq, osq⟩, hw''⟩ := hw'
        subst hw''
        have HB := Lib.hid (below_regrown w dq osq)
        have b1 := (HB.out.block r hr).trans H.out.1
        have d1 := cell_of_row _ r 1 _ _ _ b1
        have f1 := frozen_of_row _ r 1 _ _ b1
        have Hb1 := Lib.hid b1
        clear cG0' cG1 b1 c0 c1
        generalize Go.Sort.grow (redrawn w dq) osq = wg at *
        go_wp2_with fail
        go_ret
        refine ⟨rfl, Or.inr ⟨r, rfl, ?_, hk3⟩, put_below HB.out _ _ _⟩
        have := blk_set (w := wg) (off := 1) (.int .i64 ((p : Int) + (k : Int))) Hb1.out
        rw [this]
        rfl
      · rw [if_neg hx0]
        have CL : Hid (∀ d os, Calls Try.prog 80 #[.string (s.extract p s.size)] (Go.Sort.grow (redrawn w d) os) fun e w'' => e = .returned (.tuple #[.int .i64 x.1, .int .i64 x.2.1, .int .i64 x.2.2]) ∧ ∃ p : Regrown, w'' = Go.Sort.grow (redrawn w p.d) p.os) := Lib.hid (fun d os => Calls.regrown_of (Hsc.out _ (below_regrown w d os)))
        clear Hx Hsc
        go_enter Try.func79, Try.ntmps79
        go_wp2_with fail
        refine (err_q _ s (p, 0) w HR.out).mono ?_
        rintro e w1 ⟨rfl, rfl⟩
        go_wp2_with fail
        refine wp_region_quiet_below (by kernel_rfl) (by kernel_rfl) ?_
        repeat (go_big_quiet_step ((exact CL.out _ _)))
        refine wpQuiet_nil ?_
        intro _ hw'
        obtain ⟨⟨dq, osq⟩, hw''⟩ := hw'
        subst hw''
        have HB := Lib.hid (below_regrown w dq osq)
        have b1 := (HB.out.block r hr).trans H.out.1
        have f2 := frozen_of_row _ r 2 _ _ b1
        have d2 := cell_of_row _ r 2 _ _ _ b1
        have Hb1 := Lib.hid b1
        clear cG0' cG1 b1 c0 c1
        generalize Go.Sort.grow (redrawn w dq) osq = wg at *
        go_wp2_with fail
        go_ret
        refine ⟨rfl, Or.inr ⟨r, rfl, ?_, hp⟩, put_below HB.out _ _ _⟩
        have := blk_set (w := wg) (off := 2) (.int .i64 x.2.2) Hb1.out
        rw [this]
        rfl
  · have e0 : rdG 0 f s (p, err) = (0, (p, err)) := by unfold rdG; rw [if_neg he]
    rw [e0]
    clear h e0 hsc
    go_enter Try.func79, Try.ntmps79
    go_wp2_with fail
    refine (err_q q s (p, err) w HR.out).mono ?_
    rintro e w1 ⟨rfl, rfl⟩
    go_wp2_with fail
    go_ret
    exact ⟨rfl, HR.out, Gq.refl _ _⟩
set_option maxRecDepth 100000 in
set_option maxHeartbeats 1000000 in
theorem part_bool (q : Option Addr) (s : ByteArray) (st : St) (hs : s.size ≤ 1000000) (f : List UInt8 → Bool × Int × Int) (hf : Sized f) (w : World) (h : RP w q s st)
    (hsc : ∀ (p : Nat) (W : World), p ≤ s.size → Below w.heap.size w W → Calls Try.prog 82 #[.string (s.extract p s.size)] W fun e W' => e = .returned (.tuple #[.bool (f (s.data.toList.drop p)).1, .int .i64 (f (s.data.toList.drop p)).2.1, .int .i64 (f (s.data.toList.drop p)).2.2]) ∧ Below W.heap.size W W') :
    Calls Try.prog 81 #[.pointer q, .func (.func 82) #[] #[]] w fun e w' => e = .returned (.bool (rdG false f s st).1) ∧ RP w' q s (rdG false f s st).2 ∧ Gq w w' q := by
  obtain ⟨p, err⟩ := st
  have HR := Lib.hid h
  by_cases he : err = 0
  · subst he
    rcases h with ⟨_, _, h1⟩ | ⟨r, rfl, h⟩
    · simp at h1
    · dsimp only at h
      have hp := h.2
      obtain ⟨x, hx⟩ : ∃ x, x = f (s.data.toList.drop p) := ⟨_, rfl⟩
      have e0 : rdG false f s (p, 0) = if x.2.2 = 0 then (x.1, (p + x.2.1.toNat, 0)) else (false, (p, x.2.2)) := by rw [hx]; rfl
      have Hx := Lib.hid (hf (s.data.toList.drop p))
      rw [← hx] at Hx
      have hsc' := fun W => hsc p W hp
      rw [← hx] at hsc'
      have hr := h.lt
      have c0 := cell_of_row w r 0 _ _ _ h.1
      have c1 := cell_of_row w r 1 _ _ _ h.1
      have H := Lib.hid h
      have Hsc := Lib.hid hsc'
      rw [e0]
      clear h e0 hx hsc hsc'
      have cG0 : Hid (∀ d os, (Go.Sort.grow (redrawn w d) os).cell? ⟨r, 0, none⟩ = some (.string s)) := Lib.hid (fun d os => cell_regrown c0 d os)
      have cG1 : ∀ d os, (Go.Sort.grow (redrawn w d) os).cell? ⟨r, 1, none⟩ = some (.int .i64 (p : Int)) := fun d os => cell_regrown c1 d os
      have cG0' := cG0.out
      by_cases hx0 : x.2.2 = 0
      · rw [if_pos hx0]
        obtain ⟨k, hk, hk2⟩ := Hx.out hx0
        rw [List.length_drop] at hk2
        have hk3 : p + k ≤ s.size := by simp at hk2; omega
        have hkw : IntKind.i64.wrap ((p : Int) + (k : Int)) = (p : Int) + (k : Int) := by simp only [IntKind.wrap_i64]; omega
        have CL : Hid (∀ d os, Calls Try.prog 82 #[.string (s.extract p s.size)] (Go.Sort.grow (redrawn w d) os) fun e w'' => e = .returned (.tuple #[.bool x.1, .int .i64 (k : Int), .int .i64 0]) ∧ ∃ p : Regrown, w'' = Go.Sort.grow (redrawn w p.d) p.os) := Lib.hid (fun d os => Calls.regrown_of (by
          have := Hsc.out _ (below_regrown w d os)
          rw [hk, hx0] at this
          exact this))
        simp only [hk, Int.toNat_natCast]
        clear Hx Hsc hk hx0
        go_enter Try.func81, Try.ntmps81
        go_wp2_with fail
        refine (err_q _ s (p, 0) w HR.out).mono ?_
        rintro e w1 ⟨rfl, rfl⟩
        go_wp2_with fail
        refine wp_region_quiet_below (by kernel_rfl) (by kernel_rfl) ?_
        repeat (go_big_quiet_step ((exact CL.out _ _)))
        refine wpQuiet_nil ?_
        intro _ hw'
        obtain ⟨⟨dq, osq⟩, hw''⟩ := hw'
        subst hw''
        have HB := Lib.hid (below_regrown w dq osq)
        have b1 := (HB.out.block r hr).trans H.out.1
        have d1 := cell_of_row _ r 1 _ _ _ b1
        have f1 := frozen_of_row _ r 1 _ _ b1
        have Hb1 := Lib.hid b1
        clear cG0' cG1 b1 c0 c1
        generalize Go.Sort.grow (redrawn w dq) osq = wg at *
        go_wp2_with fail
        go_ret
        refine ⟨rfl, Or.inr ⟨r, rfl, ?_, hk3⟩, put_below HB.out _ _ _⟩
        have := blk_set (w := wg) (off := 1) (.int .i64 ((p : Int) + (k : Int))) Hb1.out
        rw [this]
        rfl
      · rw [if_neg hx0]
        have CL : Hid (∀ d os, Calls Try.prog 82 #[.string (s.extract p s.size)] (Go.Sort.grow (redrawn w d) os) fun e w'' => e = .returned (.tuple #[.bool x.1, .int .i64 x.2.1, .int .i64 x.2.2]) ∧ ∃ p : Regrown, w'' = Go.Sort.grow (redrawn w p.d) p.os) := Lib.hid (fun d os => Calls.regrown_of (Hsc.out _ (below_regrown w d os)))
        clear Hx Hsc
        go_enter Try.func81, Try.ntmps81
        go_wp2_with fail
        refine (err_q _ s (p, 0) w HR.out).mono ?_
        rintro e w1 ⟨rfl, rfl⟩
        go_wp2_with fail
        refine wp_region_quiet_below (by kernel_rfl) (by kernel_rfl) ?_
        repeat (go_big_quiet_step ((exact CL.out _ _)))
        refine wpQuiet_nil ?_
        intro _ hw'
        obtain ⟨⟨dq, osq⟩, hw''⟩ := hw'
        subst hw''
        have HB := Lib.hid (below_regrown w dq osq)
        have b1 := (HB.out.block r hr).trans H.out.1
        have f2 := frozen_of_row _ r 2 _ _ b1
        have d2 := cell_of_row _ r 2 _ _ _ b1
        have Hb1 := Lib.hid b1
        clear cG0' cG1 b1 c0 c1
        generalize Go.Sort.grow (redrawn w dq) osq = wg at *
        go_wp2_with fail
        go_ret
        refine ⟨rfl, Or.inr ⟨r, rfl, ?_, hp⟩, put_below HB.out _ _ _⟩
        have := blk_set (w := wg) (off := 2) (.int .i64 x.2.2) Hb1.out
        rw [this]
        rfl
  · have e0 : rdG false f s (p, err) = (false, (p, err)) := by unfold rdG; rw [if_neg he]
    rw [e0]
    clear h e0 hsc
    go_enter Try.func81, Try.ntmps81
    go_wp2_with fail
    refine (err_q q s (p, err) w HR.out).mono ?_
    rintro e w1 ⟨rfl, rfl⟩
    go_wp2_with fail
    go_ret
    exact ⟨rfl, HR.out, Gq.refl _ _⟩
set_option maxRecDepth 100000 in
set_option maxHeartbeats 1000000 in
theorem part_str (q : Option Addr) (s : ByteArray) (st : St) (hs : s.size ≤ 1000000) (f : List UInt8 → ByteArray × Int × Int) (hf : Sized f) (cp : Addr) (w : World) (h : RP w q s st)
    (hsc : ∀ (p : Nat) (W : World), p ≤ s.size → Below w.heap.size w W → Calls Try.prog 86 #[.string (s.extract p s.size), .pointer (some cp)] W fun e W' => e = .returned (.tuple #[.string (f (s.data.toList.drop p)).1, .int .i64 (f (s.data.toList.drop p)).2.1, .int .i64 (f (s.data.toList.drop p)).2.2]) ∧ Below W.heap.size W W') :
    Calls Try.prog 85 #[.pointer q, .func (.func 86) #[] #[.pointer (some cp)]] w fun e w' => e = .returned (.string (rdG ByteArray.empty f s st).1) ∧ RP w' q s (rdG ByteArray.empty f s st).2 ∧ Gq w w' q := by
  obtain ⟨p, err⟩ := st
  have HR := Lib.hid h
  by_cases he : err = 0
  · subst he
    rcases h with ⟨_, _, h1⟩ | ⟨r, rfl, h⟩
    · simp at h1
    · dsimp only at h
      have hp := h.2
      obtain ⟨x, hx⟩ : ∃ x, x = f (s.data.toList.drop p) := ⟨_, rfl⟩
      have e0 : rdG ByteArray.empty f s (p, 0) = if x.2.2 = 0 then (x.1, (p + x.2.1.toNat, 0)) else (ByteArray.empty, (p, x.2.2)) := by rw [hx]; rfl
      have Hx := Lib.hid (hf (s.data.toList.drop p))
      rw [← hx] at Hx
      have hsc' := fun W => hsc p W hp
      rw [← hx] at hsc'
      have hr := h.lt
      have c0 := cell_of_row w r 0 _ _ _ h.1
      have c1 := cell_of_row w r 1 _ _ _ h.1
      have H := Lib.hid h
      have Hsc := Lib.hid hsc'
      rw [e0]
      clear h e0 hx hsc hsc'
      have cG0 : Hid (∀ d os, (Go.Sort.grow (redrawn w d) os).cell? ⟨r, 0, none⟩ = some (.string s)) := Lib.hid (fun d os => cell_regrown c0 d os)
      have cG1 : ∀ d os, (Go.Sort.grow (redrawn w d) os).cell? ⟨r, 1, none⟩ = some (.int .i64 (p : Int)) := fun d os => cell_regrown c1 d os
      have cG0' := cG0.out
      by_cases hx0 : x.2.2 = 0
      · rw [if_pos hx0]
        obtain ⟨k, hk, hk2⟩ := Hx.out hx0
        rw [List.length_drop] at hk2
        have hk3 : p + k ≤ s.size := by simp at hk2; omega
        have hkw : IntKind.i64.wrap ((p : Int) + (k : Int)) = (p : Int) + (k : Int) := by simp only [IntKind.wrap_i64]; omega
        have CL : Hid (∀ d os, Calls Try.prog 86 #[.string (s.extract p s.size), .pointer (some cp)] (Go.Sort.grow (redrawn w d) os) fun e w'' => e = .returned (.tuple #[.string x.1, .int .i64 (k : Int), .int .i64 0]) ∧ ∃ p : Regrown, w'' = Go.Sort.grow (redrawn w p.d) p.os) := Lib.hid (fun d os => Calls.regrown_of (by
          have := Hsc.out _ (below_regrown w d os)
          rw [hk, hx0] at this
          exact this))
        simp only [hk, Int.toNat_natCast]
        clear Hx Hsc hk hx0
        go_enter Try.func85, Try.ntmps85
        go_wp2_with fail
        refine (err_q _ s (p, 0) w HR.out).mono ?_
        rintro e w1 ⟨rfl, rfl⟩
        go_wp2_with fail
        refine wp_region_quiet_below (by kernel_rfl) (by kernel_rfl) ?_
        repeat (go_big_quiet_step ((exact CL.out _ _)))
        refine wpQuiet_nil ?_
        intro _ hw'
        obtain ⟨⟨dq, osq⟩, hw''⟩ := hw'
        subst hw''
        have HB := Lib.hid (below_regrown w dq osq)
        have b1 := (HB.out.block r hr).trans H.out.1
        have d1 := cell_of_row _ r 1 _ _ _ b1
        have f1 := frozen_of_row _ r 1 _ _ b1
        have Hb1 := Lib.hid b1
        clear cG0' cG1 b1 c0 c1
        generalize Go.Sort.grow (redrawn w dq) osq = wg at *
        go_wp2_with fail
        go_ret
        refine ⟨rfl, Or.inr ⟨r, rfl, ?_, hk3⟩, put_below HB.out _ _ _⟩
        have := blk_set (w := wg) (off := 1) (.int .i64 ((p : Int) + (k : Int))) Hb1.out
        rw [this]
        rfl
      · rw [if_neg hx0]
        have CL : Hid (∀ d os, Calls Try.prog 86 #[.string (s.extract p s.size), .pointer (some cp)] (Go.Sort.grow (redrawn w d) os) fun e w'' => e = .returned (.tuple #[.string x.1, .int .i64 x.2.1, .int .i64 x.2.2]) ∧ ∃ p : Regrown, w'' = Go.Sort.grow (redrawn w p.d) p.os) := Lib.hid (fun d os => Calls.regrown_of (Hsc.out _ (below_regrown w d os)))
        clear Hx Hsc
        go_enter Try.func85, Try.ntmps85
        go_wp2_with fail
        refine (err_q _ s (p, 0) w HR.out).mono ?_
        rintro e w1 ⟨rfl, rfl⟩
        go_wp2_with fail
        refine wp_region_quiet_below (by kernel_rfl) (by kernel_rfl) ?_
        repeat (go_big_quiet_step ((exact CL.out _ _)))
        refine wpQuiet_nil ?_
        intro _ hw'
        obtain ⟨⟨dq, osq⟩, hw''⟩ := hw'
        subst hw''
        have HB := Lib.hid (below_regrown w dq osq)
        have b1 := (HB.out.block r hr).trans H.out.1
        have f2 := frozen_of_row _ r 2 _ _ b1
        have d2 := cell_of_row _ r 2 _ _ _ b1
        have Hb1 := Lib.hid b1
        clear cG0' cG1 b1 c0 c1
        generalize Go.Sort.grow (redrawn w dq) osq = wg at *
        go_wp2_with fail
        go_ret
        refine ⟨rfl, Or.inr ⟨r, rfl, ?_, hp⟩, put_below HB.out _ _ _⟩
        have := blk_set (w := wg) (off := 2) (.int .i64 x.2.2) Hb1.out
        rw [this]
        rfl
  · have e0 : rdG ByteArray.empty f s (p, err) = (ByteArray.empty, (p, err)) := by unfold rdG; rw [if_neg he]
    rw [e0]
    clear h e0 hsc
    go_enter Try.func85, Try.ntmps85
    go_wp2_with fail
    refine (err_q q s (p, err) w HR.out).mono ?_
    rintro e w1 ⟨rfl, rfl⟩
    go_wp2_with fail
    go_ret
    exact ⟨rfl, HR.out, Gq.refl _ _⟩
set_option maxRecDepth 100000 in
set_option maxHeartbeats 1000000 in
theorem part_cnt (q : Option Addr) (s : ByteArray) (st : St) (hs : s.size ≤ 1000000) (f : List UInt8 → Int × Int × Int) (hf : Sized f) (cp : Addr) (w : World) (h : RP w q s st)
    (hsc : ∀ (p : Nat) (W : World), p ≤ s.size → Below w.heap.size w W → Calls Try.prog 83 #[.string (s.extract p s.size), .pointer (some cp)] W fun e W' => e = .returned (.tuple #[.int .i64 (f (s.data.toList.drop p)).1, .int .i64 (f (s.data.toList.drop p)).2.1, .int .i64 (f (s.data.toList.drop p)).2.2]) ∧ Below W.heap.size W W') :
    Calls Try.prog 79 #[.pointer q, .func (.func 83) #[] #[.pointer (some cp)]] w fun e w' => e = .returned (.int .i64 (rdG 0 f s st).1) ∧ RP w' q s (rdG 0 f s st).2 ∧ Gq w w' q := by
  obtain ⟨p, err⟩ := st
  have HR := Lib.hid h
  by_cases he : err = 0
  · subst he
    rcases h with ⟨_, _, h1⟩ | ⟨r, rfl, h⟩
    · simp at h1
    · dsimp only at h
      have hp := h.2
      obtain ⟨x, hx⟩ : ∃ x, x = f (s.data.toList.drop p) := ⟨_, rfl⟩
      have e0 : rdG 0 f s (p, 0) = if x.2.2 = 0 then (x.1, (p + x.2.1.toNat, 0)) else (0, (p, x.2.2)) := by rw [hx]; rfl
      have Hx := Lib.hid (hf (s.data.toList.drop p))
      rw [← hx] at Hx
      have hsc' := fun W => hsc p W hp
      rw [← hx] at hsc'
      have hr := h.lt
      have c0 := cell_of_row w r 0 _ _ _ h.1
      have c1 := cell_of_row w r 1 _ _ _ h.1
      have H := Lib.hid h
      have Hsc := Lib.hid hsc'
      rw [e0]
      clear h e0 hx hsc hsc'
      have cG0 : Hid (∀ d os, (Go.Sort.grow (redrawn w d) os).cell? ⟨r, 0, none⟩ = some (.string s)) := Lib.hid (fun d os => cell_regrown c0 d os)
      have cG1 : ∀ d os, (Go.Sort.grow (redrawn w d) os).cell? ⟨r, 1, none⟩ = some (.int .i64 (p : Int)) := fun d os => cell_regrown c1 d os
      have cG0' := cG0.out
      by_cases hx0 : x.2.2 = 0
      · rw [if_pos hx0]
        obtain ⟨k, hk, hk2⟩ := Hx.out hx0
        rw [List.length_drop] at hk2
        have hk3 : p + k ≤ s.size := by simp at hk2; omega
        have hkw : IntKind.i64.wrap ((p : Int) + (k : Int)) = (p : Int) + (k : Int) := by simp only [IntKind.wrap_i64]; omega
        have CL : Hid (∀ d os, Calls Try.prog 83 #[.string (s.extract p s.size), .pointer (some cp)] (Go.Sort.grow (redrawn w d) os) fun e w'' => e = .returned (.tuple #[.int .i64 x.1, .int .i64 (k : Int), .int .i64 0]) ∧ ∃ p : Regrown, w'' = Go.Sort.grow (redrawn w p.d) p.os) := Lib.hid (fun d os => Calls.regrown_of (by
          have := Hsc.out _ (below_regrown w d os)
          rw [hk, hx0] at this
          exact this))
        simp only [hk, Int.toNat_natCast]
        clear Hx Hsc hk hx0
        go_enter Try.func79, Try.ntmps79
        go_wp2_with fail
        refine (err_q _ s (p, 0) w HR.out).mono ?_
        rintro e w1 ⟨rfl, rfl⟩
        go_wp2_with fail
        refine wp_region_quiet_below (by kernel_rfl) (by kernel_rfl) ?_
        repeat (go_big_quiet_step ((exact CL.out _ _)))
        refine wpQuiet_nil ?_
        intro _ hw'
        obtain ⟨⟨dq, osq⟩, hw''⟩ := hw'
        subst hw''
        have HB := Lib.hid (below_regrown w dq osq)
        have b1 := (HB.out.block r hr).trans H.out.1
        have d1 := cell_of_row _ r 1 _ _ _ b1
        have f1 := frozen_of_row _ r 1 _ _ b1
        have Hb1 := Lib.hid b1
        clear cG0' cG1 b1 c0 c1
        generalize Go.Sort.grow (redrawn w dq) osq = wg at *
        go_wp2_with fail
        go_ret
        refine ⟨rfl, Or.inr ⟨r, rfl, ?_, hk3⟩, put_below HB.out _ _ _⟩
        have := blk_set (w := wg) (off := 1) (.int .i64 ((p : Int) + (k : Int))) Hb1.out
        rw [this]
        rfl
      · rw [if_neg hx0]
        have CL : Hid (∀ d os, Calls Try.prog 83 #[.string (s.extract p s.size), .pointer (some cp)] (Go.Sort.grow (redrawn w d) os) fun e w'' => e = .returned (.tuple #[.int .i64 x.1, .int .i64 x.2.1, .int .i64 x.2.2]) ∧ ∃ p : Regrown, w'' = Go.Sort.grow (redrawn w p.d) p.os) := Lib.hid (fun d os => Calls.regrown_of (Hsc.out _ (below_regrown w d os)))
        clear Hx Hsc
        go_enter Try.func79, Try.ntmps79
        go_wp2_with fail
        refine (err_q _ s (p, 0) w HR.out).mono ?_
        rintro e w1 ⟨rfl, rfl⟩
        go_wp2_with fail
        refine wp_region_quiet_below (by kernel_rfl) (by kernel_rfl) ?_
        repeat (go_big_quiet_step ((exact CL.out _ _)))
        refine wpQuiet_nil ?_
        intro _ hw'
        obtain ⟨⟨dq, osq⟩, hw''⟩ := hw'
        subst hw''
        have HB := Lib.hid (below_regrown w dq osq)
        have b1 := (HB.out.block r hr).trans H.out.1
        have f2 := frozen_of_row _ r 2 _ _ b1
        have d2 := cell_of_row _ r 2 _ _ _ b1
        have Hb1 := Lib.hid b1
        clear cG0' cG1 b1 c0 c1
        generalize Go.Sort.grow (redrawn w dq) osq = wg at *
        go_wp2_with fail
        go_ret
        refine ⟨rfl, Or.inr ⟨r, rfl, ?_, hp⟩, put_below HB.out _ _ _⟩
        have := blk_set (w := wg) (off := 2) (.int .i64 x.2.2) Hb1.out
        rw [this]
        rfl
  · have e0 : rdG 0 f s (p, err) = (0, (p, err)) := by unfold rdG; rw [if_neg he]
    rw [e0]
    clear h e0 hsc
    go_enter Try.func79, Try.ntmps79
    go_wp2_with fail
    refine (err_q q s (p, err) w HR.out).mono ?_
    rintro e w1 ⟨rfl, rfl⟩
    go_wp2_with fail
    go_ret
    exact ⟨rfl, HR.out, Gq.refl _ _⟩
end Go.Proofs.Ytajainkaomkbjaa.E
namespace Go.Proofs.Ytajainkaomkbjaa.E
open Go.ChangeShapes Go.WideShapes Go.ChangeAt Go.RowKit En
def scanB (l : List UInt8) : Bool × Int × Int :=
  if (scan l).2.2 = 0 then (if (scan l).1 = 0 then (false, (scan l).2.1, 0) else if (scan l).1 = 1 then (true, (scan l).2.1, 0) else (false, 0, 3)) else (false, 0, (scan l).2.2)
theorem scanB_sized : Sized scanB := fun l h => by
  unfold scanB at h ⊢
  by_cases h0 : (scan l).2.2 = 0
  · rw [if_pos h0] at h ⊢
    obtain ⟨k, h1, h2⟩ := scan_sized l h0
    by_cases ha : (scan l).1 = 0
    · rw [if_pos ha]; exact ⟨k, h1, h2⟩
    · rw [if_neg ha] at h ⊢
      by_cases hb : (scan l).1 = 1
      · rw [if_pos hb]; exact ⟨k, h1, h2⟩
      · rw [if_neg hb] at h; simp at h
  · rw [if_neg h0] at h; exact absurd h h0
set_option maxRecDepth 100000 in
theorem scan_bool (s : ByteArray) (hs : s.size ≤ 1000000) (w : World) :
    Calls Try.prog 82 #[.string s] w fun e w' => e = .returned (.tuple #[.bool (scanB s.data.toList).1, .int .i64 (scanB s.data.toList).2.1, .int .i64 (scanB s.data.toList).2.2]) ∧ w' = w := by
  have h := scan_any s hs w
  obtain ⟨⟨n, z, e⟩, hx⟩ : ∃ x, x = scan s.data.toList := ⟨_, rfl⟩
  have e0 : scanB s.data.toList = if e = 0 then (if n = 0 then (false, z, 0) else if n = 1 then (true, z, 0) else (false, 0, 3)) else (false, 0, e) := by unfold scanB; rw [← hx]
  rw [← hx] at h
  rw [e0]
  clear hx e0
  by_cases h0 : e = 0
  · subst h0
    rw [if_pos rfl]
    by_cases hn : n = 0
    · subst hn
      rw [if_pos rfl]
      go_enter Try.func82, Try.ntmps82
      go_wp2_with fail
      refine h.mono ?_
      rintro e w1 ⟨rfl, rfl⟩
      go_wp2_with fail
      go_ret3
      exact ⟨rfl, rfl⟩
    · rw [if_neg hn]
      have hn1 : (n != (0 : Int)) = true := by simpa using hn
      by_cases h1 : n = 1
      · subst h1
        rw [if_pos rfl]
        clear hn hn1
        go_enter Try.func82, Try.ntmps82
        go_wp2_with fail
        refine h.mono ?_
        rintro e w1 ⟨rfl, rfl⟩
        go_wp2_with fail
        go_ret3
        exact ⟨rfl, rfl⟩
      · rw [if_neg h1]
        have hn2 : (n != (1 : Int)) = true := by simpa using h1
        go_enter Try.func82, Try.ntmps82
        go_wp2_with fail
        refine h.mono ?_
        rintro e w1 ⟨rfl, rfl⟩
        go_wp2_with fail
        go_ret3
        exact ⟨rfl, rfl⟩
  · rw [if_neg h0]
    go_enter Try.func82, Try.ntmps82
    go_wp2_with fail
    refine h.mono ?_
    rintro e w1 ⟨rfl, rfl⟩
    go_wp2_with fail
    go_ret3
    exact ⟨rfl, rfl⟩
/-- A length of at most most; too is the error if it is greater. -/
def scanZ (most too : Int) (l : List UInt8) : Int × Int × Int :=
  if (scan l).2.2 = 0 then (if (scan l).1 < 0 then (0, 0, 3) else if most < (scan l).1 then (0, 0, too) else if (l.length : Int) - (scan l).2.1 < (scan l).1 then (0, 0, 4) else ((scan l).1, (scan l).2.1, 0)) else (0, 0, (scan l).2.2)
theorem scanZ_ok (most too : Int) (l : List UInt8) (ht : too ≠ 0) (h : (scanZ most too l).2.2 = 0) :
    ∃ n k : Nat, scanZ most too l = ((n : Int), (k : Int), 0) ∧ k + n ≤ l.length ∧ (n : Int) ≤ most ∧ scan l = ((n : Int), (k : Int), 0) := by
  unfold scanZ at h ⊢
  by_cases h0 : (scan l).2.2 = 0
  · rw [if_pos h0] at h ⊢
    obtain ⟨k, h1, h2⟩ := scan_sized l h0
    by_cases ha : (scan l).1 < 0
    · rw [if_pos ha] at h; simp at h
    · rw [if_neg ha] at h ⊢
      by_cases hb : most < (scan l).1
      · rw [if_pos hb] at h; exact absurd h ht
      · rw [if_neg hb] at h ⊢
        by_cases hc : (l.length : Int) - (scan l).2.1 < (scan l).1
        · rw [if_pos hc] at h; simp at h
        · rw [if_neg hc]
          refine ⟨(scan l).1.toNat, k, ?_, by omega, by omega, ?_⟩
          · rw [h1]; congr 1; omega
          · apply Prod.ext
            · show _ = ((scan l).1.toNat : Int); omega
            · exact Prod.ext h1 h0
  · rw [if_neg h0] at h; exact absurd h h0
theorem scanZ_sized (most too : Int) (ht : too ≠ 0) : Sized (scanZ most too) := fun l h => by
  obtain ⟨n, k, e, h1, _⟩ := scanZ_ok most too l ht h
  rw [e]
  exact ⟨k, rfl, by omega⟩
set_option maxRecDepth 100000 in
theorem scan_size_any (s : ByteArray) (most too : Int) (hs : s.size ≤ 1000000) (w : World) :
    Calls Try.prog 84 #[.string s, .int .i64 most, .int .i64 too] w fun e w' => e = .returned (.tuple #[.int .i64 (scanZ most too s.data.toList).1, .int .i64 (scanZ most too s.data.toList).2.1, .int .i64 (scanZ most too s.data.toList).2.2]) ∧ w' = w := by
  have h := scan_any s hs w
  have hsz := scan_sized s.data.toList
  obtain ⟨⟨n, z, e⟩, hx⟩ : ∃ x, x = scan s.data.toList := ⟨_, rfl⟩
  have e0 : scanZ most too s.data.toList = if e = 0 then (if n < 0 then (0, 0, 3) else if most < n then (0, 0, too) else if (s.size : Int) - z < n then (0, 0, 4) else (n, z, 0)) else (0, 0, e) := by
    unfold scanZ; rw [← hx]
    rw [show s.data.toList.length = s.size by simp]
  rw [← hx] at h hsz
  rw [e0]
  clear hx e0
  by_cases h0 : e = 0
  · subst h0
    rw [if_pos rfl]
    obtain ⟨k, hk, hk2⟩ := hsz rfl
    dsimp only at hk
    subst hk
    rw [show s.data.toList.length = s.size by simp] at hk2
    have hw : wrap64 ((s.size : Int) - (k : Int)) = (s.size : Int) - (k : Int) := by unfold wrap64; omega
    have hw2 : IntKind.i64.wrap ((s.size : Int) - (k : Int)) = (s.size : Int) - (k : Int) := by simp only [IntKind.wrap_i64]; omega
    by_cases ha : n < 0
    · rw [if_pos ha]
      go_enter Try.func84, Try.ntmps84
      go_wp2_with fail
      refine h.mono ?_
      rintro e w1 ⟨rfl, rfl⟩
      go_wp2_with fail
      go_ret3
      exact ⟨rfl, rfl⟩
    · rw [if_neg ha]
      by_cases hb : most < n
      · rw [if_pos hb]
        go_enter Try.func84, Try.ntmps84
        go_wp2_with fail
        refine h.mono ?_
        rintro e w1 ⟨rfl, rfl⟩
        go_wp2_with fail
        go_ret3
        exact ⟨rfl, rfl⟩
      · rw [if_neg hb]
        by_cases hc : (s.size : Int) - (k : Int) < n
        · rw [if_pos hc]
          go_enter Try.func84, Try.ntmps84
          go_wp2_with fail
          refine h.mono ?_
          rintro e w1 ⟨rfl, rfl⟩
          go_wp2_with fail
          go_ret3
          exact ⟨rfl, rfl⟩
        · rw [if_neg hc]
          go_enter Try.func84, Try.ntmps84
          go_wp2_with fail
          refine h.mono ?_
          rintro e w1 ⟨rfl, rfl⟩
          go_wp2_with fail
          go_ret3
          exact ⟨rfl, rfl⟩
  · rw [if_neg h0]
    clear hsz
    go_enter Try.func84, Try.ntmps84
    go_wp2_with fail
    refine h.mono ?_
    rintro e w1 ⟨rfl, rfl⟩
    go_wp2_with fail
    go_ret3
    exact ⟨rfl, rfl⟩
theorem clone_any (s : ByteArray) (hs : s.size ≤ 1000000) (w : World) :
    Calls Try.prog 87 #[.string s] w fun e w' => e = .returned (.string s) ∧ Below w.heap.size w w' := by
  have h := Try.stringslite_Clone s w (by omega)
  go_enter Try.func87, Try.ntmps87
  go_wp2_with fail
  refine h.mono ?_
  rintro e w1 ⟨rfl, hb⟩
  have HB := Lib.hid hb
  clear hb
  go_wp2_with fail
  go_ret
  exact ⟨rfl, HB.out⟩
def bytesOf (l : List UInt8) : ByteArray := ⟨l.toArray⟩
/-- A text of at most most bytes. -/
def scanT (most : Int) (l : List UInt8) : ByteArray × Int × Int :=
  if (scanZ most 5 l).2.2 = 0 then (bytesOf ((l.drop (scanZ most 5 l).2.1.toNat).take (scanZ most 5 l).1.toNat), (scanZ most 5 l).2.1 + (scanZ most 5 l).1, 0) else (ByteArray.empty, 0, (scanZ most 5 l).2.2)
theorem scanT_sized (most : Int) : Sized (scanT most) := fun l h => by
  unfold scanT at h ⊢
  by_cases h0 : (scanZ most 5 l).2.2 = 0
  · rw [if_pos h0]
    obtain ⟨n, k, e, h1, _⟩ := scanZ_ok most 5 l (by decide) h0
    rw [e]
    exact ⟨k + n, by simp, by omega⟩
  · rw [if_neg h0] at h; exact absurd h h0
theorem cut_mid (s : ByteArray) (k n : Nat) : s.extract k (k + n) = bytesOf ((s.data.toList.drop k).take n) := by
  apply ByteArray.ext
  apply Array.ext'
  show (s.extract k (k + n)).data.toList = _
  rw [Lib.extract_data]
  show _ = ((s.data.toList.drop k).take n)
  congr 1
  omega
set_option maxRecDepth 100000 in
theorem text_closure (s : ByteArray) (most : Int) (hs : s.size ≤ 1000000) (cp : Addr) (w : World) (hc : w.cell? cp = some (.int .i64 most)) :
    Calls Try.prog 86 #[.string s, .pointer (some cp)] w fun e w' => e = .returned (.tuple #[.string (scanT most s.data.toList).1, .int .i64 (scanT most s.data.toList).2.1, .int .i64 (scanT most s.data.toList).2.2]) ∧ Below w.heap.size w w' := by
  have h := scan_size_any s most 5 hs w
  have hsz := scanZ_ok most 5 s.data.toList (by decide)
  obtain ⟨x, hx⟩ : ∃ x, x = scanZ most 5 s.data.toList := ⟨_, rfl⟩
  have e0 : scanT most s.data.toList = if x.2.2 = 0 then (bytesOf ((s.data.toList.drop x.2.1.toNat).take x.1.toNat), x.2.1 + x.1, 0) else (ByteArray.empty, 0, x.2.2) := by unfold scanT; rw [← hx]
  rw [← hx] at h hsz
  rw [e0]
  clear hx e0
  by_cases h0 : x.2.2 = 0
  · obtain ⟨n, k, e, h1, h2, _⟩ := hsz h0
    subst e
    rw [show s.data.toList.length = s.size by simp] at h1
    rw [if_pos rfl]
    have hcut := cut_mid s k n
    dsimp only at h ⊢
    rw [Int.toNat_natCast, Int.toNat_natCast]
    rw [← hcut]
    clear hcut h2 hsz h0
    obtain ⟨m, hm⟩ : ∃ m, m = k + n := ⟨_, rfl⟩
    have hw : IntKind.i64.wrap ((k : Int) + (n : Int)) = (m : Int) := by simp only [IntKind.wrap_i64]; omega
    have hw2 : wrap64 ((k : Int) + (n : Int)) = (m : Int) := by unfold wrap64; omega
    have hmi : (k : Int) + (n : Int) = (m : Int) := by omega
    have hkm : k ≤ m := by omega
    have hms : m ≤ s.size := by omega
    rw [hmi, ← hm]
    have hcl := fun w => clone_any (s.extract k m) (by have : (s.extract k m).size ≤ s.size := (by simp; omega); omega) w
    clear hm h1
    go_enter Try.func86, Try.ntmps86
    go_wp2_with fail
    refine h.mono ?_
    rintro e w1 ⟨rfl, rfl⟩
    go_wp2_with fail
    refine (hcl _).mono ?_
    rintro e w2 ⟨rfl, hb⟩
    have HB := Lib.hid hb
    clear hb hcl
    go_wp2_with fail
    go_ret3
    exact ⟨rfl, HB.out⟩
  · rw [if_neg h0]
    clear hsz
    go_enter Try.func86, Try.ntmps86
    go_wp2_with fail
    refine h.mono ?_
    rintro e w1 ⟨rfl, rfl⟩
    go_wp2_with fail
    go_ret3
    exact ⟨rfl, Below.refl _ _⟩
set_option maxRecDepth 100000 in
theorem count_closure (s : ByteArray) (most : Int) (hs : s.size ≤ 1000000) (cp : Addr) (w : World) (hc : w.cell? cp = some (.int .i64 most)) :
    Calls Try.prog 83 #[.string s, .pointer (some cp)] w fun e w' => e = .returned (.tuple #[.int .i64 (scanZ most 6 s.data.toList).1, .int .i64 (scanZ most 6 s.data.toList).2.1, .int .i64 (scanZ most 6 s.data.toList).2.2]) ∧ Below w.heap.size w w' := by
  have h := scan_size_any s most 6 hs w
  obtain ⟨x, hx⟩ : ∃ x, x = scanZ most 6 s.data.toList := ⟨_, rfl⟩
  rw [← hx] at h ⊢
  clear hx
  go_enter Try.func83, Try.ntmps83
  go_wp2_with fail
  refine h.mono ?_
  rintro e w1 ⟨rfl, rfl⟩
  go_wp2_with fail
  go_ret3
  exact ⟨rfl, Below.refl _ _⟩
theorem extract_le (s : ByteArray) (p : Nat) (h : s.size ≤ 1000000) : (s.extract p s.size).size ≤ 1000000 := by
  have : (s.extract p s.size).size ≤ s.size := (by simp)
  omega
theorem number_q (q : Option Addr) (s : ByteArray) (st : St) (hs : s.size ≤ 1000000) (w : World) (h : RP w q s st) :
    Calls Try.prog 58 #[.pointer q] w fun e w' => e = .returned (.int .i64 (rdG 0 scan s st).1) ∧ RP w' q s (rdG 0 scan s st).2 ∧ Gq w w' q := by
  have H := part_int q s st hs scan scan_sized w h (fun p W hp _ => by
    have := scan_any (s.extract p s.size) (extract_le s p hs) W
    rw [cut_list] at this
    exact this.mono fun _ _ ⟨a, b⟩ => ⟨a, by rw [b]; exact Below.refl _ _⟩)
  obtain ⟨x, hx⟩ : ∃ x, x = rdG 0 scan s st := ⟨_, rfl⟩
  rw [← hx] at H ⊢
  clear hx h
  go_enter Try.func58, Try.ntmps58
  go_wp2_with fail
  refine H.mono ?_
  rintro e w1 ⟨rfl, h1, h2⟩
  go_wp2_with fail
  go_ret
  exact ⟨rfl, h1, h2⟩
theorem bool_q (q : Option Addr) (s : ByteArray) (st : St) (hs : s.size ≤ 1000000) (w : World) (h : RP w q s st) :
    Calls Try.prog 59 #[.pointer q] w fun e w' => e = .returned (.bool (rdG false scanB s st).1) ∧ RP w' q s (rdG false scanB s st).2 ∧ Gq w w' q := by
  have H := part_bool q s st hs scanB scanB_sized w h (fun p W hp _ => by
    have := scan_bool (s.extract p s.size) (extract_le s p hs) W
    rw [cut_list] at this
    exact this.mono fun _ _ ⟨a, b⟩ => ⟨a, by rw [b]; exact Below.refl _ _⟩)
  obtain ⟨x, hx⟩ : ∃ x, x = rdG false scanB s st := ⟨_, rfl⟩
  rw [← hx] at H ⊢
  clear hx h
  go_enter Try.func59, Try.ntmps59
  go_wp2_with fail
  refine H.mono ?_
  rintro e w1 ⟨rfl, h1, h2⟩
  go_wp2_with fail
  go_ret
  exact ⟨rfl, h1, h2⟩
theorem text_q (q : Option Addr) (s : ByteArray) (st : St) (hs : s.size ≤ 1000000) (most : Int) (w : World) (h : RP w q s st) :
    Calls Try.prog 61 #[.pointer q, .int .i64 most] w fun e w' => e = .returned (.string (rdG ByteArray.empty (scanT most) s st).1) ∧ RP w' q s (rdG ByteArray.empty (scanT most) s st).2 ∧ Gq w w' q := by
  have hA : Below w.heap.size w (w.alloc (.cells #[.int .i64 most] 3)) := (Below.refl _ _).alloc (Nat.le_refl _) _
  have H := part_str q s st hs (scanT most) (scanT_sized most) ⟨w.heap.size, 0, none⟩ (w.alloc (.cells #[.int .i64 most] 3)) (h.below hA) (fun p W hp hB => by
    have := text_closure (s.extract p s.size) most (extract_le s p hs) ⟨w.heap.size, 0, none⟩ W (by
      rw [hB.cell (p := ⟨w.heap.size, 0, none⟩) (by simp)]
      exact cell_of_row _ w.heap.size 0 _ _ _ (Deep.blk_alloc_new w _))
    rw [cut_list] at this
    exact this)
  have HA := Lib.hid hA
  obtain ⟨x, hx⟩ : ∃ x, x = rdG ByteArray.empty (scanT most) s st := ⟨_, rfl⟩
  rw [← hx] at H ⊢
  clear hx h hA
  go_enter Try.func61, Try.ntmps61
  go_wp2_with fail
  refine H.mono ?_
  rintro e w1 ⟨rfl, h1, h2⟩
  go_wp2_with fail
  go_ret
  exact ⟨rfl, h1, Gq.trans (Gq.of_below HA.out q) h2⟩
theorem count_q (q : Option Addr) (s : ByteArray) (st : St) (hs : s.size ≤ 1000000) (most : Int) (w : World) (h : RP w q s st) :
    Calls Try.prog 60 #[.pointer q, .int .i64 most] w fun e w' => e = .returned (.int .i64 (rdG 0 (scanZ most 6) s st).1) ∧ RP w' q s (rdG 0 (scanZ most 6) s st).2 ∧ Gq w w' q := by
  have hA : Below w.heap.size w (w.alloc (.cells #[.int .i64 most] 3)) := (Below.refl _ _).alloc (Nat.le_refl _) _
  have H := part_cnt q s st hs (scanZ most 6) (scanZ_sized most 6 (by decide)) ⟨w.heap.size, 0, none⟩ (w.alloc (.cells #[.int .i64 most] 3)) (h.below hA) (fun p W hp hB => by
    have := count_closure (s.extract p s.size) most (extract_le s p hs) ⟨w.heap.size, 0, none⟩ W (by
      rw [hB.cell (p := ⟨w.heap.size, 0, none⟩) (by simp)]
      exact cell_of_row _ w.heap.size 0 _ _ _ (Deep.blk_alloc_new w _))
    rw [cut_list] at this
    exact this)
  have HA := Lib.hid hA
  obtain ⟨x, hx⟩ : ∃ x, x = rdG 0 (scanZ most 6) s st := ⟨_, rfl⟩
  rw [← hx] at H ⊢
  clear hx h hA
  go_enter Try.func60, Try.ntmps60
  go_wp2_with fail
  refine H.mono ?_
  rintro e w1 ⟨rfl, h1, h2⟩
  go_wp2_with fail
  go_ret
  exact ⟨rfl, h1, Gq.trans (Gq.of_below HA.out q) h2⟩
end Go.Proofs.Ytajainkaomkbjaa.E
namespace Go.Proofs.Ytajainkaomkbjaa.E
open Go.ChangeShapes Go.WideShapes Go.ChangeAt Go.RowKit En
theorem RP.lt {w : World} {q : Option Addr} {s : ByteArray} {st : St} (h : RP w q s st) : ∀ g, q.map Addr.block = some g → g < w.heap.size := by
  intro g hg
  rcases h with ⟨rfl, _⟩ | ⟨r, rfl, h⟩
  · simp at hg
  · simp at hg; subst hg; exact h.lt
end Go.Proofs.Ytajainkaomkbjaa.E
