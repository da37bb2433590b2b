/- Plain facts of dec: the encoded form of a dictionary leads back to it. -/
import Derived.Test.YtjkpjcklfpmcnaaDf
namespace Go.Proofs.Ytjkpjcklfpmcnaa
open Go.ChangeShapes Go.WideShapes Go.ChangeAt Go.RowKit Dp

theorem cmn_take_eq (l m : List UInt8) (n : Nat) (h : n ≤ cmn l m) : l.take n = m.take n := by
  apply List.ext_getElem?
  intro j
  by_cases hj : j < n
  · rw [List.getElem?_take_of_lt hj, List.getElem?_take_of_lt hj]
    exact cmn_same l m j (by omega)
  · rw [List.getElem?_eq_none (by rw [List.length_take]; omega), List.getElem?_eq_none (by rw [List.length_take]; omega)]
theorem byt_of {r : ByteArray} {l : List UInt8} (h : r.data.toList = l) (k : Nat) : byt r k = (l.getD k 0).toNat := by unfold byt; rw [h]
theorem lst_take (d : List ByteArray) {k : Nat} (hk : k ≤ d.length) (h0 : k ≠ 0) : lst (d.take k) = d[k - 1]'(by omega) := by
  have hD : (d.take k).length = k := by rw [List.length_take]; omega
  unfold lst
  rw [hD, getD_at _ _ (by rw [hD]; omega), List.getElem_take]
theorem u8_nat {n : Nat} (h : n ≤ 255) : (UInt8.ofNat n).toNat = n := by rw [UInt8.toNat_ofNat']; omega
theorem item_parts {d : List ByteArray} (hs : ∀ x ∈ d, x.size ≤ 255) {k : Nat} (hk : k < d.length) {r : ByteArray} {rest : List UInt8} (hr : r.data.toList = item d k ++ rest) :
    ∃ pre, r.data.toList = pre ++ (d[k].data.toList.drop (sw d k) ++ rest) ∧ pre.length = scH k ∧ byt r (scH k - 1) = d[k].size - sw d k ∧ (if k % 16 = 0 then 0 else byt r 0) = sw d k := by
  have ht : d.getD k ByteArray.empty = d[k] := getD_at d k hk
  have hz := hs _ (List.getElem_mem hk)
  have hsw := sw_le d k
  rw [ht] at hsw
  unfold item at hr
  rw [ht] at hr
  by_cases h16 : k % 16 = 0
  · have h0 : sw d k = 0 := by unfold sw; rw [if_pos h16]
    have hH : scH k = 1 := if_pos h16
    rw [if_pos h16] at hr ⊢
    refine ⟨[UInt8.ofNat (d[k].size - sw d k)], by rw [hr]; simp, by rw [hH]; rfl, ?_, h0.symm⟩
    rw [hH, byt_of hr]
    exact u8_nat (by omega)
  · have hH : scH k = 2 := if_neg h16
    rw [if_neg h16] at hr ⊢
    refine ⟨[UInt8.ofNat (sw d k), UInt8.ofNat (d[k].size - sw d k)], by rw [hr]; simp, by rw [hH]; rfl, ?_, ?_⟩
    · rw [hH, byt_of hr]
      exact u8_nat (by omega)
    · rw [byt_of hr]
      exact u8_nat (by omega)
theorem dec_item {d : List ByteArray} (hS : Srt d) (hs : ∀ x ∈ d, x.size ≤ 255) {k : Nat} (hk : k < d.length) {r : ByteArray} {rest : List UInt8} (hr : r.data.toList = item d k ++ rest) :
    scE k r = 0 ∧ jE (d.take k) (scS k r) (scO k r) = 0 ∧ jV (d.take k) (scS k r) (scO k r) = d[k] ∧ (r.extract (scN k r) r.size).data.toList = rest := by
  have hD : (d.take k).length = k := by rw [List.length_take]; omega
  obtain ⟨pre, p1, p2, p3, p4⟩ := item_parts hs hk hr
  have ht : d.getD k ByteArray.empty = d[k] := getD_at d k hk
  have hz := hs _ (List.getElem_mem hk)
  have hsw := sw_le d k
  rw [ht] at hsw
  have hdl : (d[k].data.toList.drop (sw d k)).length = d[k].size - sw d k := by rw [List.length_drop]; simp
  have hlen : r.size = scH k + (d[k].size - sw d k) + rest.length := by
    have : r.size = r.data.toList.length := by simp
    rw [this, p1, List.length_append, List.length_append, p2, hdl]; omega
  obtain ⟨g1, g2, g3, g4⟩ := sc_good (k := k) (r := r) (by omega) (by omega)
  rw [p3] at g2 g3
  rw [p4] at g4
  have ho : (scO k r).data.toList = d[k].data.toList.drop (sw d k) := by
    rw [g3, ext_mid, p1, List.drop_left' p2, List.take_left' hdl]
  have hos : (scO k r).size = d[k].size - sw d k := by
    have : (scO k r).size = (scO k r).data.toList.length := by simp
    rw [this, ho, hdl]
  have hrest : (r.extract (scN k r) r.size).data.toList = rest := by
    rw [g2, ext_bytes, p1, ← List.drop_drop, List.drop_left' p2, List.drop_left' hdl]
  have hsame : (lst (d.take k)).data.toList.take (sw d k) = d[k].data.toList.take (sw d k) := by
    by_cases h16 : k % 16 = 0
    · have h0 : sw d k = 0 := by unfold sw; rw [if_pos h16]
      rw [h0]; simp
    · have h0 : k ≠ 0 := fun e => h16 (by rw [e])
      have hc : sw d k = cm (lst (d.take k)) d[k] := by
        unfold sw
        rw [if_neg h16, ht, lst_take d (by omega) h0, getD_at d (k - 1) (by omega)]
      exact cmn_take_eq _ _ _ (by rw [hc]; exact Nat.le_refl _)
  have hjn : jn (lst (d.take k)) (sw d k) (scO k r) = d[k] := ba_ext (by
    show ((lst (d.take k)).data.toList.take (sw d k) ++ (scO k r).data.toList).toArray.toList = _
    rw [List.toList_toArray, ho, hsame, List.take_append_drop])
  have hj : jE (d.take k) (scS k r) (scO k r) = 0 := by
    rw [g4]
    unfold jE
    by_cases h0 : k = 0
    · rw [hD, if_pos h0]
    · rw [hD, if_neg h0]
      have hl := lst_take d (show k ≤ d.length by omega) h0
      have hle : sw d k ≤ (lst (d.take k)).size ∧ ¬ (k % 16 ≠ 0 ∧ sw d k < cm (lst (d.take k)) d[k]) := by
        by_cases h16 : k % 16 = 0
        · have h0 : sw d k = 0 := by unfold sw; rw [if_pos h16]
          exact ⟨by omega, fun g => g.1 h16⟩
        · have hc : sw d k = cm (lst (d.take k)) d[k] := by
            unfold sw
            rw [if_neg h16, ht, hl, getD_at d (k - 1) (by omega)]
          exact ⟨by rw [hc]; exact (cm_le _ _).1, fun g => by have := g.2; omega⟩
      unfold jnE
      rw [if_neg (by omega), if_neg (by omega), hjn]
      have hb : bl (lst (d.take k)) d[k] = true := by rw [hl]; exact srt_get hS (by omega) hk
      rw [hb, if_neg (by decide), if_neg hle.2]
  refine ⟨g1, hj, ?_, hrest⟩
  unfold jV
  rw [if_pos hj, g4, hjn]
theorem dgo_frm {d : List ByteArray} (hS : Srt d) (hs : ∀ x ∈ d, x.size ≤ 255) : ∀ (n k : Nat) (r : ByteArray), k + n = d.length → r.data.toList = (List.range' k n).flatMap (item d) → dgo n (d.take k) r = (0, d)
  | 0, k, r, hk, hr => by
    have hz : r.size = 0 := by
      have : r.size = r.data.toList.length := by simp
      rw [this, hr]; rfl
    show (if r.size = 0 then ((0 : Int), d.take k) else (3, [])) = _
    rw [if_pos hz, List.take_of_length_le (by omega)]
  | n + 1, k, r, hk, hr => by
    rw [List.range'_succ, List.flatMap_cons] at hr
    obtain ⟨e1, e2, e3, e4⟩ := dec_item hS hs (show k < d.length by omega) hr
    have hD : (d.take k).length = k := by rw [List.length_take]; omega
    rw [dgo_next (by rw [hD]; exact e1) (by rw [hD]; exact e2), hD, e3, ← List.take_succ_eq_append_getElem (by omega)]
    exact dgo_frm hS hs n (k + 1) _ (by omega) e4
/-- The encoded form of a dictionary leads back to it. -/
theorem dec_frm {d : List ByteArray} (h : chk d = 0) : dec ⟨(frm d d.length).toArray⟩ = (0, d) := by
  obtain ⟨hs, hS, hl⟩ := chk_zero h
  obtain ⟨s, hse⟩ : ∃ s : ByteArray, s = ⟨(frm d d.length).toArray⟩ := ⟨_, rfl⟩
  have hb : s.data.toList = hd2 d.length ++ (List.range d.length).flatMap (item d) := by rw [hse]; exact List.toList_toArray
  rw [← hse]
  have h2 : 2 ≤ s.size := by
    have : s.size = s.data.toList.length := by simp
    rw [this, hb, List.length_append]
    have : (hd2 d.length).length = 2 := rfl
    omega
  have b0 : byt s 0 = d.length / 256 := by rw [byt_of hb]; exact u8_nat (by omega)
  have b1 : byt s 1 = d.length % 256 := by
    rw [byt_of hb]
    show (UInt8.ofNat d.length).toNat = _
    rw [UInt8.toNat_ofNat']
  have hc : cnt s = d.length := by unfold cnt; rw [b0, b1]; omega
  unfold dec
  rw [if_neg (by omega), hc, if_neg (by omega)]
  refine dgo_frm hS hs d.length 0 _ (by omega) ?_
  rw [ext_bytes, hb, List.range_eq_range']
  exact List.drop_left' rfl
end Go.Proofs.Ytjkpjcklfpmcnaa
