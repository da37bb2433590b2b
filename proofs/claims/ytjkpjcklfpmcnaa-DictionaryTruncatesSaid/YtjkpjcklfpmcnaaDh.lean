/- Plain facts of dec: a beginning of an encoded form. -/
import Derived.Test.YtjkpjcklfpmcnaaDg
namespace Go.Proofs.Ytjkpjcklfpmcnaa
open Go.ChangeShapes Go.WideShapes Go.ChangeAt Go.RowKit Dp

theorem getD_take (l : List UInt8) {m j : Nat} (h : j < m) : (l.take m).getD j 0 = l.getD j 0 := by
  rw [List.getD_eq_getElem?_getD, List.getD_eq_getElem?_getD, List.getElem?_take_of_lt h]
theorem item_size {d : List ByteArray} {k : Nat} (hk : k < d.length) : (item d k).length = scH k + (d[k].size - sw d k) := by
  rw [item_len, getD_at d k hk]
  unfold scH
  by_cases h : k % 16 = 0
  · rw [if_pos h, if_pos h]
  · rw [if_neg h, if_neg h]
theorem cut_item {d : List ByteArray} (hs : ∀ x ∈ d, x.size ≤ 255) {k : Nat} (hk : k < d.length) {r : ByteArray} {rest : List UInt8} {m : Nat} (hr : r.data.toList = (item d k ++ rest).take m) (hm : m < (item d k).length) : scE k r = 4 := by
  obtain ⟨r0, h0⟩ : ∃ r0 : ByteArray, r0.data.toList = item d k ++ rest := ⟨⟨(item d k ++ rest).toArray⟩, List.toList_toArray⟩
  obtain ⟨pre, p1, p2, p3, p4⟩ := item_parts hs hk h0
  have hl := item_size hk
  have hz : r.size = m := by
    have : r.size = r.data.toList.length := by simp
    rw [this, hr, List.length_take, List.length_append]; omega
  apply sc_four
  by_cases h : m < scH k
  · exact .inl (by omega)
  · refine .inr ?_
    have hH : 0 < scH k := by unfold scH; split <;> omega
    have hb : byt r (scH k - 1) = byt r0 (scH k - 1) := by
      rw [byt_of hr, byt_of h0, getD_take _ (by omega)]
    rw [hb, p3]; omega
theorem dgo_cut {d : List ByteArray} (hS : Srt d) (hs : ∀ x ∈ d, x.size ≤ 255) : ∀ (n k : Nat) (r : ByteArray) (m : Nat), k + n = d.length → r.data.toList = ((List.range' k n).flatMap (item d)).take m → m < ((List.range' k n).flatMap (item d)).length → dgo n (d.take k) r = (4, [])
  | 0, k, r, m, hk, hr, hm => by simp at hm
  | n + 1, k, r, m, hk, hr, hm => by
    rw [List.range'_succ, List.flatMap_cons] at hr hm
    have hD : (d.take k).length = k := by rw [List.length_take]; omega
    by_cases h : m < (item d k).length
    · have e := cut_item hs (show k < d.length by omega) hr h
      rw [dgo_bad (by rw [hD, e]; decide), hD, e]
    · rw [List.take_append, List.take_of_length_le (show (item d k).length ≤ m by omega)] at hr
      obtain ⟨e1, e2, e3, e4⟩ := dec_item hS hs (show k < d.length by omega) hr
      rw [dgo_next (by rw [hD]; exact e1) (by rw [hD]; exact e2), hD, e3, ← List.take_succ_eq_append_getElem (by omega)]
      rw [List.length_append] at hm
      exact dgo_cut hS hs n (k + 1) _ _ (by omega) e4 (by omega)
/-- Every proper beginning of an encoded form is too short. -/
theorem dec_cut {d : List ByteArray} (h : chk d = 0) {s : ByteArray} (hse : s = ⟨(frm d d.length).toArray⟩) {m : Nat} (hm : m < s.size) : dec (s.extract 0 m) = (4, []) := by
  obtain ⟨hs, hS, hl⟩ := chk_zero h
  have hb : s.data.toList = hd2 d.length ++ (List.range d.length).flatMap (item d) := by rw [hse]; exact List.toList_toArray
  have hz : (s.extract 0 m).size = m := by simp; omega
  unfold dec
  by_cases h2 : m < 2
  · rw [if_pos (by omega)]
  · have hsz : s.size = 2 + ((List.range d.length).flatMap (item d)).length := by
      have : s.size = s.data.toList.length := by simp
      rw [this, hb, List.length_append]; rfl
    have b0 : byt s 0 = d.length / 256 := by rw [byt_of hb]; exact u8_nat (by omega)
    have b1 : byt s 1 = d.length % 256 := by
      rw [byt_of hb]
      show (UInt8.ofNat d.length).toNat = _
      rw [UInt8.toNat_ofNat']
    have hc : cnt (s.extract 0 m) = d.length := by
      unfold cnt
      rw [byt_take s (by omega), byt_take s (by omega), b0, b1]; omega
    rw [if_neg (by omega), hc, if_neg (by omega)]
    refine dgo_cut hS hs d.length 0 _ (m - 2) (by omega) ?_ ?_
    · rw [ext_bytes, ext_take, hb, List.range_eq_range', List.drop_take]
      congr 1
    · rw [← List.range_eq_range']; omega
end Go.Proofs.Ytjkpjcklfpmcnaa
