/- scanBool, scanSize, the closures of Text and Count; the Reader's Number, Bool, Text, Count. -/
import Derived.Test.YtepcihfkkeahhaaRq
namespace Go.Proofs.Ytepcihfkkeahhaa
open Go.ChangeShapes Go.WideShapes Go.ChangeAt Go.RowKit En

def scanB (l : List UInt8) : Bool × Int × Int :=
  if (scan l).2.2 = 0 then (if (scan l).1 = 0 then (false, (scan l).2.1, 0) else if (scan l).1 = 1 then (true, (scan l).2.1, 0) else (false, 0, 3)) else (false, 0, (scan l).2.2)
theorem scanB_sized : Sized scanB := fun l h => by
  unfold scanB at h ⊢
  by_cases h0 : (scan l).2.2 = 0
  · rw [if_pos h0] at h ⊢
    obtain ⟨k, h1, h2⟩ := scan_sized l h0
    by_cases ha : (scan l).1 = 0
    · rw [if_pos ha]; exact ⟨k, h1, h2⟩
    · rw [if_neg ha] at h ⊢
      by_cases hb : (scan l).1 = 1
      · rw [if_pos hb]; exact ⟨k, h1, h2⟩
      · rw [if_neg hb] at h; simp at h
  · rw [if_neg h0] at h; exact absurd h h0
set_option maxRecDepth 100000 in
theorem scan_bool (s : ByteArray) (hs : s.size ≤ 1000000) (w : World) :
    Calls Try.prog 92 #[.string s] w fun e w' => e = .returned (.tuple #[.bool (scanB s.data.toList).1, .int .i64 (scanB s.data.toList).2.1, .int .i64 (scanB s.data.toList).2.2]) ∧ w' = w := by
  have h := scan_any s hs w
  obtain ⟨⟨n, z, e⟩, hx⟩ : ∃ x, x = scan s.data.toList := ⟨_, rfl⟩
  have e0 : scanB s.data.toList = if e = 0 then (if n = 0 then (false, z, 0) else if n = 1 then (true, z, 0) else (false, 0, 3)) else (false, 0, e) := by unfold scanB; rw [← hx]
  rw [← hx] at h
  rw [e0]
  clear hx e0
  by_cases h0 : e = 0
  · subst h0
    rw [if_pos rfl]
    by_cases hn : n = 0
    · subst hn
      rw [if_pos rfl]
      go_enter Try.func92, Try.ntmps92
      go_wp2_with fail
      refine h.mono ?_
      rintro e w1 ⟨rfl, rfl⟩
      go_wp2_with fail
      go_ret3
      exact ⟨rfl, rfl⟩
    · rw [if_neg hn]
      have hn1 : (n != (0 : Int)) = true := by simpa using hn
      by_cases h1 : n = 1
      · subst h1
        rw [if_pos rfl]
        clear hn hn1
        go_enter Try.func92, Try.ntmps92
        go_wp2_with fail
        refine h.mono ?_
        rintro e w1 ⟨rfl, rfl⟩
        go_wp2_with fail
        go_ret3
        exact ⟨rfl, rfl⟩
      · rw [if_neg h1]
        have hn2 : (n != (1 : Int)) = true := by simpa using h1
        go_enter Try.func92, Try.ntmps92
        go_wp2_with fail
        refine h.mono ?_
        rintro e w1 ⟨rfl, rfl⟩
        go_wp2_with fail
        go_ret3
        exact ⟨rfl, rfl⟩
  · rw [if_neg h0]
    go_enter Try.func92, Try.ntmps92
    go_wp2_with fail
    refine h.mono ?_
    rintro e w1 ⟨rfl, rfl⟩
    go_wp2_with fail
    go_ret3
    exact ⟨rfl, rfl⟩

/-- A length of at most most; too is the error if it is greater. -/
def scanZ (most too : Int) (l : List UInt8) : Int × Int × Int :=
  if (scan l).2.2 = 0 then (if (scan l).1 < 0 then (0, 0, 3) else if most < (scan l).1 then (0, 0, too) else if (l.length : Int) - (scan l).2.1 < (scan l).1 then (0, 0, 4) else ((scan l).1, (scan l).2.1, 0)) else (0, 0, (scan l).2.2)
theorem scanZ_ok (most too : Int) (l : List UInt8) (ht : too ≠ 0) (h : (scanZ most too l).2.2 = 0) :
    ∃ n k : Nat, scanZ most too l = ((n : Int), (k : Int), 0) ∧ k + n ≤ l.length ∧ (n : Int) ≤ most ∧ scan l = ((n : Int), (k : Int), 0) := by
  unfold scanZ at h ⊢
  by_cases h0 : (scan l).2.2 = 0
  · rw [if_pos h0] at h ⊢
    obtain ⟨k, h1, h2⟩ := scan_sized l h0
    by_cases ha : (scan l).1 < 0
    · rw [if_pos ha] at h; simp at h
    · rw [if_neg ha] at h ⊢
      by_cases hb : most < (scan l).1
      · rw [if_pos hb] at h; exact absurd h ht
      · rw [if_neg hb] at h ⊢
        by_cases hc : (l.length : Int) - (scan l).2.1 < (scan l).1
        · rw [if_pos hc] at h; simp at h
        · rw [if_neg hc]
          refine ⟨(scan l).1.toNat, k, ?_, by omega, by omega, ?_⟩
          · rw [h1]; congr 1; omega
          · apply Prod.ext
            · show _ = ((scan l).1.toNat : Int); omega
            · exact Prod.ext h1 h0
  · rw [if_neg h0] at h; exact absurd h h0
theorem scanZ_sized (most too : Int) (ht : too ≠ 0) : Sized (scanZ most too) := fun l h => by
  obtain ⟨n, k, e, h1, _⟩ := scanZ_ok most too l ht h
  rw [e]
  exact ⟨k, rfl, by omega⟩
set_option maxRecDepth 100000 in
theorem scan_size_any (s : ByteArray) (most too : Int) (hs : s.size ≤ 1000000) (w : World) :
    Calls Try.prog 95 #[.string s, .int .i64 most, .int .i64 too] w fun e w' => e = .returned (.tuple #[.int .i64 (scanZ most too s.data.toList).1, .int .i64 (scanZ most too s.data.toList).2.1, .int .i64 (scanZ most too s.data.toList).2.2]) ∧ w' = w := by
  have h := scan_any s hs w
  have hsz := scan_sized s.data.toList
  obtain ⟨⟨n, z, e⟩, hx⟩ : ∃ x, x = scan s.data.toList := ⟨_, rfl⟩
  have e0 : scanZ most too s.data.toList = if e = 0 then (if n < 0 then (0, 0, 3) else if most < n then (0, 0, too) else if (s.size : Int) - z < n then (0, 0, 4) else (n, z, 0)) else (0, 0, e) := by
    unfold scanZ; rw [← hx]
    rw [show s.data.toList.length = s.size by simp]
  rw [← hx] at h hsz
  rw [e0]
  clear hx e0
  by_cases h0 : e = 0
  · subst h0
    rw [if_pos rfl]
    obtain ⟨k, hk, hk2⟩ := hsz rfl
    dsimp only at hk
    subst hk
    rw [show s.data.toList.length = s.size by simp] at hk2
    have hw : wrap64 ((s.size : Int) - (k : Int)) = (s.size : Int) - (k : Int) := by unfold wrap64; omega
    have hw2 : IntKind.i64.wrap ((s.size : Int) - (k : Int)) = (s.size : Int) - (k : Int) := by simp only [IntKind.wrap_i64]; omega
    by_cases ha : n < 0
    · rw [if_pos ha]
      go_enter Try.func95, Try.ntmps95
      go_wp2_with fail
      refine h.mono ?_
      rintro e w1 ⟨rfl, rfl⟩
      go_wp2_with fail
      go_ret3
      exact ⟨rfl, rfl⟩
    · rw [if_neg ha]
      by_cases hb : most < n
      · rw [if_pos hb]
        go_enter Try.func95, Try.ntmps95
        go_wp2_with fail
        refine h.mono ?_
        rintro e w1 ⟨rfl, rfl⟩
        go_wp2_with fail
        go_ret3
        exact ⟨rfl, rfl⟩
      · rw [if_neg hb]
        by_cases hc : (s.size : Int) - (k : Int) < n
        · rw [if_pos hc]
          go_enter Try.func95, Try.ntmps95
          go_wp2_with fail
          refine h.mono ?_
          rintro e w1 ⟨rfl, rfl⟩
          go_wp2_with fail
          go_ret3
          exact ⟨rfl, rfl⟩
        · rw [if_neg hc]
          go_enter Try.func95, Try.ntmps95
          go_wp2_with fail
          refine h.mono ?_
          rintro e w1 ⟨rfl, rfl⟩
          go_wp2_with fail
          go_ret3
          exact ⟨rfl, rfl⟩
  · rw [if_neg h0]
    clear hsz
    go_enter Try.func95, Try.ntmps95
    go_wp2_with fail
    refine h.mono ?_
    rintro e w1 ⟨rfl, rfl⟩
    go_wp2_with fail
    go_ret3
    exact ⟨rfl, rfl⟩

theorem clone_any (s : ByteArray) (hs : s.size ≤ 1000000) (w : World) :
    Calls Try.prog 96 #[.string s] w fun e w' => e = .returned (.string s) ∧ Below w.heap.size w w' := by
  have h := Try.stringslite_Clone s w (by omega)
  go_enter Try.func96, Try.ntmps96
  go_wp2_with fail
  refine h.mono ?_
  rintro e w1 ⟨rfl, hb⟩
  have HB := Lib.hid hb
  clear hb
  go_wp2_with fail
  go_ret
  exact ⟨rfl, HB.out⟩

def bytesOf (l : List UInt8) : ByteArray := ⟨l.toArray⟩
/-- A text of at most most bytes. -/
def scanT (most : Int) (l : List UInt8) : ByteArray × Int × Int :=
  if (scanZ most 5 l).2.2 = 0 then (bytesOf ((l.drop (scanZ most 5 l).2.1.toNat).take (scanZ most 5 l).1.toNat), (scanZ most 5 l).2.1 + (scanZ most 5 l).1, 0) else (ByteArray.empty, 0, (scanZ most 5 l).2.2)
theorem scanT_sized (most : Int) : Sized (scanT most) := fun l h => by
  unfold scanT at h ⊢
  by_cases h0 : (scanZ most 5 l).2.2 = 0
  · rw [if_pos h0]
    obtain ⟨n, k, e, h1, _⟩ := scanZ_ok most 5 l (by decide) h0
    rw [e]
    exact ⟨k + n, by simp, by omega⟩
  · rw [if_neg h0] at h; exact absurd h h0
theorem cut_mid (s : ByteArray) (k n : Nat) : s.extract k (k + n) = bytesOf ((s.data.toList.drop k).take n) := by
  apply ByteArray.ext
  apply Array.ext'
  show (s.extract k (k + n)).data.toList = _
  rw [Lib.extract_data]
  show _ = ((s.data.toList.drop k).take n)
  congr 1
  omega
set_option maxRecDepth 100000 in
theorem text_closure (s : ByteArray) (most : Int) (hs : s.size ≤ 1000000) (cp : Addr) (w : World) (hc : w.cell? cp = some (.int .i64 most)) :
    Calls Try.prog 94 #[.string s, .pointer (some cp)] w fun e w' => e = .returned (.tuple #[.string (scanT most s.data.toList).1, .int .i64 (scanT most s.data.toList).2.1, .int .i64 (scanT most s.data.toList).2.2]) ∧ Below w.heap.size w w' := by
  have h := scan_size_any s most 5 hs w
  have hsz := scanZ_ok most 5 s.data.toList (by decide)
  obtain ⟨x, hx⟩ : ∃ x, x = scanZ most 5 s.data.toList := ⟨_, rfl⟩
  have e0 : scanT most s.data.toList = if x.2.2 = 0 then (bytesOf ((s.data.toList.drop x.2.1.toNat).take x.1.toNat), x.2.1 + x.1, 0) else (ByteArray.empty, 0, x.2.2) := by unfold scanT; rw [← hx]
  rw [← hx] at h hsz
  rw [e0]
  clear hx e0
  by_cases h0 : x.2.2 = 0
  · obtain ⟨n, k, e, h1, h2, _⟩ := hsz h0
    subst e
    rw [show s.data.toList.length = s.size by simp] at h1
    rw [if_pos rfl]
    have hcut := cut_mid s k n
    dsimp only at h ⊢
    rw [Int.toNat_natCast, Int.toNat_natCast]
    rw [← hcut]
    clear hcut h2 hsz h0
    obtain ⟨m, hm⟩ : ∃ m, m = k + n := ⟨_, rfl⟩
    have hw : IntKind.i64.wrap ((k : Int) + (n : Int)) = (m : Int) := by simp only [IntKind.wrap_i64]; omega
    have hw2 : wrap64 ((k : Int) + (n : Int)) = (m : Int) := by unfold wrap64; omega
    have hmi : (k : Int) + (n : Int) = (m : Int) := by omega
    have hkm : k ≤ m := by omega
    have hms : m ≤ s.size := by omega
    rw [hmi, ← hm]
    have hcl := fun w => clone_any (s.extract k m) (by have : (s.extract k m).size ≤ s.size := (by simp; omega); omega) w
    clear hm h1
    go_enter Try.func94, Try.ntmps94
    go_wp2_with fail
    refine h.mono ?_
    rintro e w1 ⟨rfl, rfl⟩
    go_wp2_with fail
    refine (hcl _).mono ?_
    rintro e w2 ⟨rfl, hb⟩
    have HB := Lib.hid hb
    clear hb hcl
    go_wp2_with fail
    go_ret3
    exact ⟨rfl, HB.out⟩
  · rw [if_neg h0]
    clear hsz
    go_enter Try.func94, Try.ntmps94
    go_wp2_with fail
    refine h.mono ?_
    rintro e w1 ⟨rfl, rfl⟩
    go_wp2_with fail
    go_ret3
    exact ⟨rfl, Below.refl _ _⟩
set_option maxRecDepth 100000 in
theorem count_closure (s : ByteArray) (most : Int) (hs : s.size ≤ 1000000) (cp : Addr) (w : World) (hc : w.cell? cp = some (.int .i64 most)) :
    Calls Try.prog 97 #[.string s, .pointer (some cp)] w fun e w' => e = .returned (.tuple #[.int .i64 (scanZ most 6 s.data.toList).1, .int .i64 (scanZ most 6 s.data.toList).2.1, .int .i64 (scanZ most 6 s.data.toList).2.2]) ∧ Below w.heap.size w w' := by
  have h := scan_size_any s most 6 hs w
  obtain ⟨x, hx⟩ : ∃ x, x = scanZ most 6 s.data.toList := ⟨_, rfl⟩
  rw [← hx] at h ⊢
  clear hx
  go_enter Try.func97, Try.ntmps97
  go_wp2_with fail
  refine h.mono ?_
  rintro e w1 ⟨rfl, rfl⟩
  go_wp2_with fail
  go_ret3
  exact ⟨rfl, Below.refl _ _⟩

theorem extract_le (s : ByteArray) (p : Nat) (h : s.size ≤ 1000000) : (s.extract p s.size).size ≤ 1000000 := by
  have : (s.extract p s.size).size ≤ s.size := (by simp)
  omega
theorem number_q (q : Option Addr) (s : ByteArray) (st : St) (hs : s.size ≤ 1000000) (w : World) (h : RP w q s st) :
    Calls Try.prog 18 #[.pointer q] w fun e w' => e = .returned (.int .i64 (rdG 0 scan s st).1) ∧ RP w' q s (rdG 0 scan s st).2 ∧ Gq w w' q := by
  have H := part_int q s st hs scan scan_sized w h (fun p W hp _ => by
    have := scan_any (s.extract p s.size) (extract_le s p hs) W
    rw [cut_list] at this
    exact this.mono fun _ _ ⟨a, b⟩ => ⟨a, by rw [b]; exact Below.refl _ _⟩)
  obtain ⟨x, hx⟩ : ∃ x, x = rdG 0 scan s st := ⟨_, rfl⟩
  rw [← hx] at H ⊢
  clear hx h
  go_enter Try.func18, Try.ntmps18
  go_wp2_with fail
  refine H.mono ?_
  rintro e w1 ⟨rfl, h1, h2⟩
  go_wp2_with fail
  go_ret
  exact ⟨rfl, h1, h2⟩
theorem bool_q (q : Option Addr) (s : ByteArray) (st : St) (hs : s.size ≤ 1000000) (w : World) (h : RP w q s st) :
    Calls Try.prog 41 #[.pointer q] w fun e w' => e = .returned (.bool (rdG false scanB s st).1) ∧ RP w' q s (rdG false scanB s st).2 ∧ Gq w w' q := by
  have H := part_bool q s st hs scanB scanB_sized w h (fun p W hp _ => by
    have := scan_bool (s.extract p s.size) (extract_le s p hs) W
    rw [cut_list] at this
    exact this.mono fun _ _ ⟨a, b⟩ => ⟨a, by rw [b]; exact Below.refl _ _⟩)
  obtain ⟨x, hx⟩ : ∃ x, x = rdG false scanB s st := ⟨_, rfl⟩
  rw [← hx] at H ⊢
  clear hx h
  go_enter Try.func41, Try.ntmps41
  go_wp2_with fail
  refine H.mono ?_
  rintro e w1 ⟨rfl, h1, h2⟩
  go_wp2_with fail
  go_ret
  exact ⟨rfl, h1, h2⟩
theorem text_q (q : Option Addr) (s : ByteArray) (st : St) (hs : s.size ≤ 1000000) (most : Int) (w : World) (h : RP w q s st) :
    Calls Try.prog 42 #[.pointer q, .int .i64 most] w fun e w' => e = .returned (.string (rdG ByteArray.empty (scanT most) s st).1) ∧ RP w' q s (rdG ByteArray.empty (scanT most) s st).2 ∧ Gq w w' q := by
  have hA : Below w.heap.size w (w.alloc (.cells #[.int .i64 most] 3)) := (Below.refl _ _).alloc (Nat.le_refl _) _
  have H := part_str q s st hs (scanT most) (scanT_sized most) ⟨w.heap.size, 0, none⟩ (w.alloc (.cells #[.int .i64 most] 3)) (h.below hA) (fun p W hp hB => by
    have := text_closure (s.extract p s.size) most (extract_le s p hs) ⟨w.heap.size, 0, none⟩ W (by
      rw [hB.cell (p := ⟨w.heap.size, 0, none⟩) (by simp)]
      exact cell_of_row _ w.heap.size 0 _ _ _ (Deep.blk_alloc_new w _))
    rw [cut_list] at this
    exact this)
  have HA := Lib.hid hA
  obtain ⟨x, hx⟩ : ∃ x, x = rdG ByteArray.empty (scanT most) s st := ⟨_, rfl⟩
  rw [← hx] at H ⊢
  clear hx h hA
  go_enter Try.func42, Try.ntmps42
  go_wp2_with fail
  refine H.mono ?_
  rintro e w1 ⟨rfl, h1, h2⟩
  go_wp2_with fail
  go_ret
  exact ⟨rfl, h1, Gq.trans (Gq.of_below HA.out q) h2⟩
theorem count_q (q : Option Addr) (s : ByteArray) (st : St) (hs : s.size ≤ 1000000) (most : Int) (w : World) (h : RP w q s st) :
    Calls Try.prog 43 #[.pointer q, .int .i64 most] w fun e w' => e = .returned (.int .i64 (rdG 0 (scanZ most 6) s st).1) ∧ RP w' q s (rdG 0 (scanZ most 6) s st).2 ∧ Gq w w' q := by
  have hA : Below w.heap.size w (w.alloc (.cells #[.int .i64 most] 3)) := (Below.refl _ _).alloc (Nat.le_refl _) _
  have H := part_cnt q s st hs (scanZ most 6) (scanZ_sized most 6 (by decide)) ⟨w.heap.size, 0, none⟩ (w.alloc (.cells #[.int .i64 most] 3)) (h.below hA) (fun p W hp hB => by
    have := count_closure (s.extract p s.size) most (extract_le s p hs) ⟨w.heap.size, 0, none⟩ W (by
      rw [hB.cell (p := ⟨w.heap.size, 0, none⟩) (by simp)]
      exact cell_of_row _ w.heap.size 0 _ _ _ (Deep.blk_alloc_new w _))
    rw [cut_list] at this
    exact this)
  have HA := Lib.hid hA
  obtain ⟨x, hx⟩ : ∃ x, x = rdG 0 (scanZ most 6) s st := ⟨_, rfl⟩
  rw [← hx] at H ⊢
  clear hx h hA
  go_enter Try.func43, Try.ntmps43
  go_wp2_with fail
  refine H.mono ?_
  rintro e w1 ⟨rfl, h1, h2⟩
  go_wp2_with fail
  go_ret
  exact ⟨rfl, h1, Gq.trans (Gq.of_below HA.out q) h2⟩
end Go.Proofs.Ytepcihfkkeahhaa
