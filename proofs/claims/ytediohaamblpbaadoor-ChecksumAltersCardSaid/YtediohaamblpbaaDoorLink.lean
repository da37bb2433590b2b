/- What the links are: bytes, Link, and the reference's Link. -/
import Derived.Test.YtediohaamblpbaaDoorRow
import Derived.Laws.IdiomStrings
import Derived.Laws.MakeOwn
import Derived.OwnWalk
namespace Go.Proofs.YtediohaamblpbaaDoor
open Go.ChangeShapes Go.WideShapes Go.ChangeAt Go.RowKit Go.Joins Ck

/-- Block g holds the bytes l from its head on, and none of these cells is frozen. -/
def BY (w : World) (g : Nat) (l : List UInt8) : Prop :=
  ∃ (C : Array Value) (t : TypeId) (lo hi : Nat), w.heap[g]? = some (.cells C t (lo, hi)) ∧ (∀ j, j < l.length → ¬ (lo ≤ j ∧ j < hi)) ∧ l.length ≤ C.size ∧ ∀ j (h : j < l.length), C[j]? = some (.int .u8 (l[j].toNat : Int))
theorem BY.lt {w : World} {g : Nat} {l : List UInt8} (h : BY w g l) : g < w.heap.size := by
  obtain ⟨C, t, lo, hi, hg, _⟩ := h
  exact (Array.getElem?_eq_some_iff.1 hg).1
theorem BY.cell {w : World} {g : Nat} {l : List UInt8} (h : BY w g l) (j : Nat) (hj : j < l.length) : w.cell? ⟨g, j, none⟩ = some (.int .u8 (l[j].toNat : Int)) := by
  obtain ⟨C, t, lo, hi, hg, _, _, hc⟩ := h
  rw [cell_of_row w g j C _ _ hg, hc j hj]
theorem BY.free {w : World} {g : Nat} {l : List UInt8} (h : BY w g l) (j : Nat) (hj : j < l.length) : w.frozen? ⟨g, j, none⟩ = false := by
  obtain ⟨C, t, lo, hi, hg, h1, h2, _⟩ := h
  simp only [World.frozen?, hg]
  have := h1 j hj
  simp only [Bool.and_eq_false_iff, decide_eq_false_iff_not]
  omega
theorem BY.same {w w' : World} {g : Nat} {l : List UInt8} (h : BY w g l) (e : w'.heap[g]? = w.heap[g]?) : BY w' g l := by
  obtain ⟨C, t, lo, hi, hg, r⟩ := h
  exact ⟨C, t, lo, hi, e.trans hg, r⟩
theorem BY.set {w : World} {g : Nat} {l : List UInt8} (h : BY w g l) (j : Nat) (b : UInt8) (z : Int) (hz : z = b.toNat) : BY (w.setCell ⟨g, j, none⟩ (.int .u8 z)) g (l.set j b) := by
  subst hz
  obtain ⟨C, t, lo, hi, hg, h1, h2, h3⟩ := h
  refine ⟨C.setIfInBounds j (.int .u8 (b.toNat : Int)), t, lo, hi, ?_, by simpa using h1, by simpa using h2, fun k hk => ?_⟩
  · unfold World.setCell
    simp [Array.getElem?_modify, hg]
  · have hk' : k < l.length := by simpa using hk
    rw [Array.getElem?_setIfInBounds]
    by_cases e : j = k
    · subst e
      have : j < C.size := by omega
      simp [this]
    · rw [if_neg e, h3 k hk', List.getElem_set_ne e]
theorem BY.back (src : TypeId) (e : TypeId) (hs : Tryd.prog.underlying src = some (.slice e)) (he : Tryd.prog.underlying e = some (.int .u8)) (g cap : Nat) (l : List UInt8) (n : Nat) (hn : n = l.length) (w : World) (h : BY w g l) : (convert src 9 (.slice (some ⟨g, 0, none⟩) n cap)).run Tryd.prog w = .ok (.string ⟨l.toArray⟩) w := by
  subst hn
  refine run_convert_bytes_back w src 9 e ⟨g, 0, none⟩ cap l hs he Tryd.underlying9 (fun j hj => ?_)
  have e : (⟨g, 0, none⟩ : Addr).add j = ⟨g, j, none⟩ := by unfold Addr.add; split <;> simp_all
  rw [e]; exact h.cell j hj

/-- The k lowest bytes of a number, the lowest first, and zeros behind them. -/
def leAt (n i : Nat) : UInt8 := UInt8.ofNat (n / 256 ^ i % 256)
def lePart (n k count : Nat) : List UInt8 := (List.range count).map fun i => if i < k then leAt n i else 0
def le (n count : Nat) : List UInt8 := (List.range count).map (leAt n)
theorem lePart_all (n count : Nat) : lePart n count count = le n count := by
  unfold lePart le
  apply List.map_congr_left
  intro i hi
  rw [if_pos (List.mem_range.1 hi)]
theorem lePart_len (n k count : Nat) : (lePart n k count).length = count := by simp [lePart]
theorem le_len (n count : Nat) : (le n count).length = count := by simp [le]
theorem lePart_set (n k count : Nat) (hk : k < count) : (lePart n k count).set k (leAt n k) = lePart n (k + 1) count := by
  apply List.ext_getElem?
  intro j
  unfold lePart
  rw [List.getElem?_set]
  simp only [List.getElem?_map, List.length_map, List.length_range]
  by_cases e : k = j
  · subst e; simp [hk]
  · rw [if_neg e]
    by_cases hj : j < count
    · simp only [List.getElem?_range hj, Option.map_some]
      by_cases h : j < k
      · have : j < k + 1 := by omega
        simp [h, this]
      · have : ¬ j < k + 1 := by omega
        simp [h, this]
    · rw [List.getElem?_eq_none (by simpa using hj)]; rfl
theorem leAt_int (n i : Nat) : ((n / 256 ^ i % 256 : Nat) : Int) = ((leAt n i).toNat : Int) := by
  unfold leAt
  rw [UInt8.toNat_ofNat']
  omega
theorem u8_info : (Tryd.prog.info? 5).map (fun i => (i.zero, i.size, i.bytes)) = some (some (.int .u8 0), 1, 1) := by kernel_rfl
theorem made_u8 (n : Nat) (j : Nat) (hj : j < n) : (madeCells (Value.int .u8 0).cells n)[j]? = some (.int .u8 0) := by
  unfold madeCells
  have e : ∀ j : Nat, ((Value.int .u8 0).cells)[j % (Value.int .u8 0).cells.size]! = .int .u8 0 := fun j => by
    show (#[Value.int .u8 0] : Array Value)[j % 1]! = _
    rw [Nat.mod_one]; rfl
  simp only [Array.getElem?_map, e]
  simp [hj]

set_option maxHeartbeats 400000 in
theorem bytes_any (n : Nat) (z : Int) (hz : z = n) (hn : n < 18446744073709551616) (count : Nat) (hc : count ≤ 8) (w : World) :
    Calls Tryd.prog 40 #[.int .u64 z, .int .i64 count] w fun e w' => e = .returned (.string ⟨(le n count).toArray⟩) ∧ Below w.heap.size w w' := by
  subst hz
  obtain ⟨i0, hi0, hz0, hz1, hz2⟩ := info_parts u8_info
  have hmk := run_make (P := Tryd.prog) w 49 5 i0 _ Tryd.underlying49 hi0 hz0 .i64 .i64 (count : Int) (count : Int) (by omega) (by omega) (by rw [hz2]; omega) (by omega)
  rw [Int.toNat_natCast, hz1, Nat.mul_one] at hmk
  have hb0 : BY (w.alloc (.cells (madeCells (Value.int .u8 0).cells count) 5)) w.heap.size (lePart n 0 count) :=
    ⟨_, _, _, _, heap_alloc_new _ _, fun j _ => by omega, by rw [lePart_len, size_madeCells]; omega, fun j hj => by
      rw [made_u8 _ _ (by rw [lePart_len] at hj; exact hj)]
      simp [lePart]⟩
  have Hb0 := Lib.hid hb0
  have hB0 := Lib.hid ((Below.refl w.heap.size w).alloc (Nat.le_refl _) (.cells (madeCells (Value.int .u8 0).cells count) 5))
  clear hb0 hz0 hi0 hz1 hz2
  go_enter Tryd.func40, Tryd.ntmps40
  go_wp2
  clear hmk
  go_loopw [0, 6] (fun m i wr => ∃ k : Nat, k ≤ count ∧ i = .int .i64 k ∧ m = .int .u64 ((n / 256 ^ k : Nat) : Int) ∧ Hid (BY wr w.heap.size (lePart n k count)) ∧ Hid (Below w.heap.size w wr)) (fun _ i _ => count - (intOf i).toNat)
  case atStart => exact ⟨0, Nat.zero_le _, rfl, by simp, Hb0, hB0⟩
  case round =>
    obtain ⟨k, hk, rfl, rfl, hb, hB⟩ := hrel
    by_cases hlt : k < count
    · have hc1 := hb.out.cell k (by rw [lePart_len]; exact hlt)
      have hf1 := hb.out.free k (by rw [lePart_len]; exact hlt)
      have hset := fun z hz => hb.out.set k (leAt n k) z hz
      rw [lePart_set _ _ _ hlt] at hset
      have hi := leAt_int n k
      have hnext : (n / 256 ^ k / 256 : Nat) = n / 256 ^ (k + 1) := by rw [Nat.div_div_eq_div_mul, Nat.pow_succ]
      have hbd : n / 256 ^ k < 18446744073709551616 := Nat.lt_of_le_of_lt (Nat.div_le_self n (256 ^ k)) hn
      generalize n / 256 ^ k = q at *
      have hqz : (q : Int) < 18446744073709551616 := by omega
      have Hset := Lib.hid hset
      have Hnext := Lib.hid hnext
      have Hi := Lib.hid hi
      clear hset hnext hi
      go_wp2
      go_roundw
      case rel => exact ⟨k + 1, by omega, by go_num, by rw [← Hnext.out]; go_num, Lib.hid (Hset.out _ (by rw [← Hi.out]; omega)), Lib.hid (Below.setCell hB.out (Nat.le_refl _) _)⟩
      case measure => simp [intOf]; omega
    · obtain rfl : k = count := by omega
      have hk1 := BY.back 49 5 Tryd.underlying49 Tryd.underlying5 w.heap.size k (lePart n k k) k (by rw [lePart_len]) _ hb.out
      rw [lePart_all] at hk1
      go_wp2
      go_ret
      exact ⟨rfl, hB.out⟩

/-- The link of a record behind a previous one. -/
def linkS (p : BitVec 32) (r : List UInt8) : BitVec 32 := Ck.sum (le p.toNat 4 ++ le r.length 8 ++ r)
theorem link_list (a b : List UInt8) (r : ByteArray) : ((⟨a.toArray⟩ : ByteArray) ++ ⟨b.toArray⟩ ++ r).data.toList = a ++ b ++ r.data.toList := by
  simp [ByteArray.data_append]
theorem link_size (a b : List UInt8) (r : ByteArray) : ((⟨a.toArray⟩ : ByteArray) ++ ⟨b.toArray⟩ ++ r).size = a.length + b.length + r.size := by
  rw [← ByteArray.size_data, ← Array.length_toList, link_list]; simp; omega
theorem rlink_any (p : BitVec 32) (z : Int) (hz : z = p.toNat) (r : ByteArray) (hr : r.size ≤ 1000000) (w : World) :
    Calls Tryd.prog 30 #[.int .u32 z, .string r] w fun e w' => e = .returned (.int .u32 (linkS p r.data.toList).toNat) ∧ Below w.heap.size w w' := by
  subst hz
  have hp := u32_lt p
  have hfin : linkS p r.data.toList = Ck.sum ((⟨(le p.toNat 4).toArray⟩ : ByteArray) ++ ⟨(le r.size 8).toArray⟩ ++ r).data.toList := by
    rw [link_list]; unfold linkS; rw [show r.data.toList.length = r.size from by simp]
  have hs : ((⟨(le p.toNat 4).toArray⟩ : ByteArray) ++ ⟨(le r.size 8).toArray⟩ ++ r).size ≤ maxLen := by
    rw [link_size, le_len, le_len]; unfold maxLen; omega
  rw [hfin]
  clear hfin
  have C1 := fun W => bytes_any p.toNat p.toNat rfl (by omega) 4 (by omega) W
  have C2 := fun W => bytes_any r.size r.size rfl (by omega) 8 (by omega) W
  generalize (⟨(le p.toNat 4).toArray⟩ : ByteArray) = A at *
  generalize (⟨(le r.size 8).toArray⟩ : ByteArray) = B at *
  have RS := fun W => rsum_any (A ++ B ++ r) hs W
  have hsz : A.size + B.size + r.size ≤ 9223372036854775807 := by
    have h := hs
    rw [show (A ++ B ++ r).size = A.size + B.size + r.size from by simp [ByteArray.size_append]] at h
    exact h
  generalize Ck.sum (A ++ B ++ r).data.toList = f at *
  have HC1 := Lib.hid C1
  have HC2 := Lib.hid C2
  have HRS := Lib.hid RS
  clear C1 C2 RS hs
  go_enter Tryd.func30, Tryd.ntmps30
  go_wp2_with fail
  refine (HC1.out _).mono ?_
  rintro e w1 ⟨rfl, hb1⟩
  have HB1 := Lib.hid hb1
  clear hb1
  go_wp2_with fail
  refine (HC2.out _).mono ?_
  rintro e w2 ⟨rfl, hb2⟩
  have HB2 := Lib.hid (Below.trans HB1.out (hb2.mono HB1.out.size))
  clear hb2
  go_wp2_with fail
  refine (HRS.out _).mono ?_
  rintro e w' ⟨rfl, rfl⟩
  go_wp2_with fail
  go_ret
  exact ⟨rfl, HB2.out⟩

/-- The head of a link, where k of the first four bytes and j of the next eight are written. -/
def headAt (p n k j : Nat) : List UInt8 := lePart p k 4 ++ lePart n j 8
theorem headAt_len (p n k j : Nat) : (headAt p n k j).length = 12 := by simp [headAt, lePart_len]
theorem headAt_set1 (p n k : Nat) (hk : k < 4) : (headAt p n k 0).set k (leAt p k) = headAt p n (k + 1) 0 := by
  unfold headAt
  rw [List.set_append_left _ _ (by rw [lePart_len]; exact hk), lePart_set _ _ _ hk]
theorem headAt_set2 (p n j : Nat) (hj : j < 8) : (headAt p n 4 j).set (4 + j) (leAt n j) = headAt p n 4 (j + 1) := by
  unfold headAt
  rw [List.set_append_right _ _ (by rw [lePart_len]; omega), lePart_len, Nat.add_sub_cancel_left, lePart_set _ _ _ hj]
theorem pow_8 (k : Nat) : 2 ^ (8 * k) = 256 ^ k := by rw [Nat.pow_mul]
theorem leAt_shift (p k : Nat) : ((p : Int) / 2 ^ (8 * k) % 256) = ((leAt p k).toNat : Int) := by
  rw [← leAt_int, ← pow_8]; simp
theorem headAt_full (p n : Nat) : headAt p n 4 8 = le p 4 ++ le n 8 := by unfold headAt; rw [lePart_all, lePart_all]
set_option maxHeartbeats 1000000 in
theorem link_any (p : BitVec 32) (z : Int) (hz : z = p.toNat) (r : ByteArray) (hr : r.size ≤ 1000000) (w : World) (hT : Tab w) :
    Calls Tryd.prog 29 #[.int .u32 z, .string r] w fun e w' => e = .returned (.int .u32 (linkS p r.data.toList).toNat) ∧ Below w.heap.size w w' := by
  subst hz
  have hp := u32_lt p
  have HT := Lib.hid hT
  clear hT
  have hl : (⟨(le p.toNat 4 ++ le r.size 8).toArray⟩ : ByteArray).size ≤ maxLen := by
    show (le p.toNat 4 ++ le r.size 8).toArray.size ≤ maxLen
    simp [le_len, maxLen]
  have S1 := fun W hW => sum_any ⟨(le p.toNat 4 ++ le r.size 8).toArray⟩ hl W hW
  have hfin : linkS p r.data.toList = ext (Ck.sum (ByteArray.data ⟨(le p.toNat 4 ++ le r.size 8).toArray⟩).toList) r.data.toList := by
    rw [ext_sum]; unfold linkS; rw [show r.data.toList.length = r.size from by simp]
  rw [hfin]
  clear hfin hl
  obtain ⟨A, hA⟩ : ∃ A : ByteArray, (⟨(le p.toNat 4 ++ le r.size 8).toArray⟩ : ByteArray) = A := ⟨_, rfl⟩
  rw [hA] at S1 ⊢
  generalize Ck.sum A.data.toList = f at *
  have HS1 := Lib.hid S1
  have HA := Lib.hid hA
  clear S1 hA
  go_enter Tryd.func29, Tryd.ntmps29
  go_wp2_with fail
  go_loopw [8] (fun i wr => ∃ k : Nat, k ≤ 4 ∧ i = .int .i64 k ∧ Hid (BY wr w.heap.size (headAt p.toNat r.size k 0)) ∧ Hid (Below w.heap.size w wr)) (fun i _ => 4 - (intOf i).toNat)
  case atStart => exact ⟨0, Nat.zero_le _, rfl, Lib.hid ⟨_, _, _, _, heap_alloc_new _ _, fun j _ => by omega, by rw [headAt_len]; simp, fun j hj => by
      rw [headAt_len] at hj
      rcases (show j = 0 ∨ j = 1 ∨ j = 2 ∨ j = 3 ∨ j = 4 ∨ j = 5 ∨ j = 6 ∨ j = 7 ∨ j = 8 ∨ j = 9 ∨ j = 10 ∨ j = 11 by omega) with rfl | rfl | rfl | rfl | rfl | rfl | rfl | rfl | rfl | rfl | rfl | rfl <;> rfl⟩, Lib.hid ((Below.refl _ _).alloc (Nat.le_refl _) _)⟩
  case round =>
    obtain ⟨k, hk, rfl, hb, hB⟩ := hrel
    by_cases hlt : k < 4
    · have hc1 := hb.out.cell k (by rw [headAt_len]; omega)
      have hf1 := hb.out.free k (by rw [headAt_len]; omega)
      go_wp2_with fail
      go_roundw
      case rel => exact ⟨k + 1, by omega, by go_num, Lib.hid (by have h := hb.out.set k (leAt p.toNat k) _ (leAt_shift _ _); rw [headAt_set1 _ _ _ hlt] at h; exact h), Lib.hid (Below.setCell hB.out (Nat.le_refl _) _)⟩
      case measure => simp [intOf]; omega
    · obtain rfl : k = 4 := by omega
      go_wp2_with fail
      go_loopw [19] (fun i wr => ∃ k : Nat, k ≤ 8 ∧ i = .int .i64 k ∧ Hid (BY wr w.heap.size (headAt p.toNat r.size 4 k)) ∧ Hid (Below w.heap.size w wr)) (fun i _ => 8 - (intOf i).toNat)
      case atStart => exact ⟨0, Nat.zero_le _, rfl, hb, hB⟩
      case round =>
        obtain ⟨j, hj, rfl, hb2, hB2⟩ := hrel
        by_cases hlt2 : j < 8
        · have hc1 := hb2.out.cell (4 + j) (by rw [headAt_len]; omega)
          have hf1 := hb2.out.free (4 + j) (by rw [headAt_len]; omega)
          go_wp2_with fail
          go_roundw
          case rel => exact ⟨j + 1, by omega, by go_num, Lib.hid (by have h := hb2.out.set (4 + j) (leAt r.size j) _ (leAt_shift _ _); rw [headAt_set2 _ _ _ hlt2] at h; exact h), Lib.hid (Below.setCell hB2.out (Nat.le_refl _) _)⟩
          case measure => simp [intOf]; omega
        · obtain rfl : j = 8 := by omega
          have hk1 := BY.back 49 5 Tryd.underlying49 Tryd.underlying5 w.heap.size 12 _ 12 (by rw [headAt_len]) _ hb2.out
          rw [headAt_full] at hk1
          rw [HA.out] at hk1
          have HTl := Lib.hid (HT.out.below hB2.out)
          go_wp2_with fail
          refine (HS1.out _ HTl.out).mono ?_
          rintro e w' ⟨rfl, rfl⟩
          go_wp2_with fail
          refine (ext_any f _ rfl r (by unfold maxLen; omega) _ HTl.out).mono ?_
          rintro e w' ⟨rfl, rfl⟩
          go_wp2_with fail
          go_ret
          exact ⟨rfl, hB2.out⟩
end Go.Proofs.YtediohaamblpbaaDoor
