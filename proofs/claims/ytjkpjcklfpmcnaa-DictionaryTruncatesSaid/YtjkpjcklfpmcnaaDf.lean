/- Plain facts of dec: what it accepts is the encoded form of a dictionary. -/
import Derived.Test.YtjkpjcklfpmcnaaRd
namespace Go.Proofs.Ytjkpjcklfpmcnaa
open Go.ChangeShapes Go.WideShapes Go.ChangeAt Go.RowKit Dp

theorem getD_pre (D E : List ByteArray) {j : Nat} (h : j < D.length) : (D ++ E).getD j ByteArray.empty = D.getD j ByteArray.empty := by
  simp [List.getD, List.getElem?_append_left h]
theorem item_pre (D E : List ByteArray) {k : Nat} (h : k < D.length) : item (D ++ E) k = item D k := by
  unfold item sw
  rw [getD_pre D E h, getD_pre D E (show k - 1 < D.length by omega)]
theorem get_snoc (D : List ByteArray) (t : ByteArray) : (D ++ [t]).getD D.length ByteArray.empty = t := by simp [List.getD]
theorem sw_snoc (D : List ByteArray) (t : ByteArray) : sw (D ++ [t]) D.length = if D.length % 16 = 0 then 0 else cm (lst D) t := by
  unfold sw
  by_cases h : D.length % 16 = 0
  · rw [if_pos h, if_pos h]
  · rw [if_neg h, if_neg h, get_snoc, getD_pre D [t] (show D.length - 1 < D.length by omega)]
    rfl
theorem byt_ofNat (r : ByteArray) (k : Nat) : UInt8.ofNat (byt r k) = r.data.toList.getD k 0 := by unfold byt; simp
theorem bytes_cons (r : ByteArray) (h : 1 ≤ r.size) : r.data.toList = UInt8.ofNat (byt r 0) :: r.data.toList.drop 1 := by
  rw [byt_ofNat]
  have hl : r.data.toList.length = r.size := by simp
  cases hd : r.data.toList with
  | nil => rw [hd] at hl; simp at hl; omega
  | cons a l => simp
theorem bytes_cons2 (r : ByteArray) (h : 2 ≤ r.size) : r.data.toList = UInt8.ofNat (byt r 0) :: UInt8.ofNat (byt r 1) :: r.data.toList.drop 2 := by
  rw [byt_ofNat, byt_ofNat]
  have hl : r.data.toList.length = r.size := by simp
  cases hd : r.data.toList with
  | nil => rw [hd] at hl; simp at hl; omega
  | cons a l =>
    cases l with
    | nil => rw [hd] at hl; simp at hl; omega
    | cons b l => simp
theorem drop_split (l : List UInt8) (a m : Nat) : l.drop a = (l.drop a).take m ++ l.drop (a + m) := by
  rw [← List.drop_drop]; exact (List.take_append_drop _ _).symm
theorem ext_mid (r : ByteArray) (a m : Nat) : (r.extract a (a + m)).data.toList = (r.data.toList.drop a).take m := by
  rw [Lib.extract_data]; congr 1; omega
theorem jn_drop (y : ByteArray) (sh : Nat) (o : ByteArray) (h : sh ≤ y.size) : (jn y sh o).data.toList.drop sh = o.data.toList := by
  show (y.data.toList.take sh ++ o.data.toList).toArray.toList.drop sh = _
  have : (y.data.toList.take sh).length = sh := by rw [List.length_take]; simp; omega
  exact List.drop_left' this
theorem jn_ok {k : Nat} {y : ByteArray} {sh : Nat} {o : ByteArray} (h : jnE k y sh o = 0) : sh ≤ y.size ∧ sh + o.size ≤ 255 ∧ bl y (jn y sh o) = true ∧ (k % 16 ≠ 0 → cm y (jn y sh o) = sh) := by
  unfold jnE at h
  by_cases h1 : y.size < sh
  · rw [if_pos h1] at h; cases h
  · rw [if_neg h1] at h
    by_cases h2 : 255 < sh + o.size
    · rw [if_pos h2] at h; cases h
    · rw [if_neg h2] at h
      by_cases h3 : bl y (jn y sh o) = false
      · rw [if_pos h3] at h; cases h
      · rw [if_neg h3] at h
        refine ⟨by omega, by omega, by simpa using h3, fun h16 => ?_⟩
        by_cases h4 : k % 16 ≠ 0 ∧ sh < cm y (jn y sh o)
        · rw [if_pos h4] at h; cases h
        · have := cm_jn y sh o (by omega)
          have : ¬ sh < cm y (jn y sh o) := fun g => h4 ⟨h16, g⟩
          omega
/-- One step: the string that is decoded, its item, and what is left. -/
theorem step_item {D : List ByteArray} {r : ByteArray} (hE : scE D.length r = 0) (hj : jE D (scS D.length r) (scO D.length r) = 0) :
    r.data.toList = item (D ++ [jV D (scS D.length r) (scO D.length r)]) D.length ++ (r.extract (scN D.length r) r.size).data.toList ∧
    (jV D (scS D.length r) (scO D.length r)).size ≤ 255 ∧ (D ≠ [] → bl (lst D) (jV D (scS D.length r) (scO D.length r)) = true) := by
  obtain ⟨q1, q2⟩ := scE_ok hE
  obtain ⟨_, g2, g3, g4⟩ := sc_good q1 q2
  have hv : jV D (scS D.length r) (scO D.length r) = jn (lst D) (scS D.length r) (scO D.length r) := by unfold jV; rw [if_pos hj]
  have hol := scO_le D.length r
  have hS : scS D.length r ≤ (lst D).size ∧ scS D.length r + (scO D.length r).size ≤ 255 ∧ (D ≠ [] → bl (lst D) (jn (lst D) (scS D.length r) (scO D.length r)) = true) ∧ (D.length % 16 ≠ 0 → cm (lst D) (jn (lst D) (scS D.length r) (scO D.length r)) = scS D.length r) := by
    by_cases hk : D.length = 0
    · have h0 : scS D.length r = 0 := scS_zero r (by omega)
      rw [h0]
      exact ⟨Nat.zero_le _, by omega, fun h => absurd (List.eq_nil_of_length_eq_zero hk) h, fun h => absurd (by omega) h⟩
    · unfold jE at hj
      rw [if_neg hk] at hj
      obtain ⟨a1, a2, a3, a4⟩ := jn_ok hj
      exact ⟨a1, a2, fun _ => a3, a4⟩
  obtain ⟨a1, a2, a3, a4⟩ := hS
  rw [hv]
  refine ⟨?_, by rw [jn_size _ _ _ a1]; exact a2, a3⟩
  have hsw : sw (D ++ [jn (lst D) (scS D.length r) (scO D.length r)]) D.length = scS D.length r := by
    rw [sw_snoc]
    by_cases h16 : D.length % 16 = 0
    · rw [if_pos h16, scS_zero r h16]
    · rw [if_neg h16, a4 h16]
  unfold item
  rw [hsw, get_snoc, jn_size _ _ _ a1, jn_drop _ _ _ a1, Nat.add_sub_cancel_left, g2, g3, ext_mid, ext_bytes]
  by_cases h16 : D.length % 16 = 0
  · have hH : scH D.length = 1 := if_pos h16
    rw [hH] at q1 q2 ⊢
    rw [if_pos h16]
    have hs : (r.extract 1 (1 + byt r (1 - 1))).size = byt r 0 := by
      rw [ByteArray.size_extract]
      have : 1 + byt r 0 ≤ r.size := q2
      show min (1 + byt r 0) r.size - 1 = _
      omega
    rw [hs]
    conv => lhs; rw [bytes_cons r q1, drop_split _ 1 (byt r 0)]
    rfl
  · have hH : scH D.length = 2 := if_neg h16
    rw [hH] at q1 q2 ⊢
    rw [if_neg h16] at g4 ⊢
    have hs : (r.extract 2 (2 + byt r (2 - 1))).size = byt r 1 := by
      rw [ByteArray.size_extract]
      have : 2 + byt r 1 ≤ r.size := q2
      show min (2 + byt r 1) r.size - 2 = _
      omega
    rw [hs, g4]
    conv => lhs; rw [bytes_cons2 r q1, drop_split _ 2 (byt r 1)]
    rfl
theorem srt_snoc {D : List ByteArray} (h : Srt D) {t : ByteArray} (ht : D ≠ [] → bl (lst D) t = true) : Srt (D ++ [t]) := by
  refine List.pairwise_append.2 ⟨h, List.pairwise_singleton _ _, fun a ha b hb => ?_⟩
  rw [List.mem_singleton.1 hb]
  have hne : D ≠ [] := fun e => by rw [e] at ha; simp at ha
  have hl := ht hne
  have hp : 0 < D.length := List.length_pos_iff.2 hne
  obtain ⟨i, hi, rfl⟩ := List.getElem_of_mem ha
  have el : lst D = D[D.length - 1] := getD_at D _ (by omega)
  by_cases e : i = D.length - 1
  · subst e; rw [← el]; exact hl
  · have := srt_get h (show i < D.length - 1 by omega) (by omega)
    rw [← el] at this
    exact bl_trans this hl
theorem dgo_items : ∀ (n : Nat) (D : List ByteArray) (r : ByteArray) (R : List ByteArray), Srt D → (∀ x ∈ D, x.size ≤ 255) → dgo n D r = (0, R) →
    (∃ E, R = D ++ E ∧ E.length = n) ∧ Srt R ∧ (∀ x ∈ R, x.size ≤ 255) ∧ r.data.toList = (List.range' D.length n).flatMap (item R)
  | 0, D, r, R, hS, hs, h => by
    have h' : (if r.size = 0 then ((0 : Int), D) else (3, [])) = (0, R) := h
    by_cases hz : r.size = 0
    · rw [if_pos hz] at h'
      injection h' with _ h'
      subst h'
      refine ⟨⟨[], by simp, rfl⟩, hS, hs, ?_⟩
      have : r.data.toList.length = 0 := by simpa using hz
      rw [List.eq_nil_of_length_eq_zero this]; rfl
    · rw [if_neg hz] at h'; injection h' with h' _; cases h'
  | n + 1, D, r, R, hS, hs, h => by
    by_cases hE : scE D.length r = 0
    · by_cases hj : jE D (scS D.length r) (scO D.length r) = 0
      · rw [dgo_next hE hj] at h
        obtain ⟨e1, e2, e3⟩ := step_item hE hj
        obtain ⟨t, ht⟩ : ∃ t, t = jV D (scS D.length r) (scO D.length r) := ⟨_, rfl⟩
        rw [← ht] at h e1 e2 e3
        obtain ⟨⟨E, f1, f2⟩, f3, f4, f5⟩ := dgo_items n (D ++ [t]) _ R (srt_snoc hS e3) (fun x hx => by
          rcases List.mem_append.1 hx with g | g
          · exact hs x g
          · rw [List.mem_singleton.1 g]; exact e2) h
        refine ⟨⟨t :: E, by rw [f1, List.append_assoc]; rfl, by rw [List.length_cons, f2]⟩, f3, f4, ?_⟩
        rw [e1, f5, List.range'_succ, List.flatMap_cons, f1, item_pre (D ++ [t]) E (by simp), List.length_append, List.length_singleton]
      · rw [dgo_bad2 hE hj] at h
        injection h with h _
        exact absurd h hj
    · rw [dgo_bad hE] at h
      injection h with h _
      exact absurd h hE
/-- What dec accepts is the encoded form of a dictionary. -/
theorem dec_form {s : ByteArray} {R : List ByteArray} (h : dec s = (0, R)) : chk R = 0 ∧ (⟨(frm R R.length).toArray⟩ : ByteArray) = s := by
  unfold dec at h
  by_cases h2 : s.size < 2
  · rw [if_pos h2] at h; injection h with h _; cases h
  · rw [if_neg h2] at h
    by_cases h4 : 4096 < cnt s
    · rw [if_pos h4] at h; injection h with h _; cases h
    · rw [if_neg h4] at h
      obtain ⟨⟨E, f1, f2⟩, f3, f4, f5⟩ := dgo_items _ _ _ _ srt_nil (fun x hx => by simp at hx) h
      have hl : R.length = cnt s := by rw [f1, List.nil_append, f2]
      refine ⟨chk_srt f3 f4 (by omega), ba_ext ?_⟩
      show (frm R R.length).toArray.toList = _
      rw [List.toList_toArray]
      unfold frm
      rw [ext_bytes] at f5
      rw [bytes_cons2 s (by omega), f5, hl, List.range_eq_range']
      have b0 := byt_le s 0
      have b1 := byt_le s 1
      have e0 : cnt s / 256 = byt s 0 := by unfold cnt; omega
      have e1 : UInt8.ofNat (cnt s) = UInt8.ofNat (byt s 1) := by
        apply UInt8.toNat_inj.1
        rw [UInt8.toNat_ofNat', UInt8.toNat_ofNat']
        unfold cnt; omega
      unfold hd2
      rw [e0, e1]
      rfl
end Go.Proofs.Ytjkpjcklfpmcnaa
