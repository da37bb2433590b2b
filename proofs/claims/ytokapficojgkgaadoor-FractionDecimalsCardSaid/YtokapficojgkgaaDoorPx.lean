
/- The program's Parse at what Print prints. -/
import Derived.Test.YtokapficojgkgaaDoorPr
import Derived.Test.YtokapficojgkgaaDoorParse
namespace Go.Proofs.YtokapficojgkgaaDoor
open Go.ChangeShapes Go.WideShapes Go.ChangeAt Go.RowKit Pl

theorem ext_list (L : List UInt8) (k : Nat) : (⟨L.toArray⟩ : ByteArray).extract k L.length = ⟨(L.drop k).toArray⟩ := by
  refine ByteArray.ext ?_
  rw [ByteArray.data_extract]
  simp [List.extract_toArray]
  exact List.take_of_length_le (by rw [List.length_drop]; omega)
theorem bytes_app (A B : List UInt8) : (⟨A.toArray⟩ : ByteArray) ++ ⟨B.toArray⟩ = ⟨(A ++ B).toArray⟩ := by
  refine ByteArray.ext ?_
  rw [ByteArray.data_append]
  simp
/-- What stands behind the sign. -/
def unL (m d : Nat) : List UInt8 := Lib.decDigits m ++ (if d = 1 then [] else 47 :: Lib.decDigits d)
def unB (m d : Nat) : ByteArray := ⟨(unL m d).toArray⟩
theorem unL_len (m d : Nat) (hm : m ≤ 1048576) (hd : d ≤ 1048576) : (unL m d).length ≤ 15 ∧ 1 ≤ (unL m d).length := by
  have h1 := nd_le (k := 6) (u := m) (by omega)
  have h2 := nd_le (k := 6) (u := d) (by omega)
  have h3 := Lib.nDigits_pos m
  unfold unL
  by_cases h : d = 1
  · rw [if_pos h, List.append_nil, dec_len]; omega
  · rw [if_neg h, List.length_append, List.length_cons, dec_len, dec_len]; omega
theorem prB_pos {n d : Int} (hn : 0 ≤ n) (hd : 1 ≤ d) : prB n d = unB n.natAbs d.natAbs := by
  unfold prB unB unL
  by_cases h : d = 1
  · rw [if_pos h, if_pos (by omega), List.append_nil, bsI_pos hn]; rfl
  · rw [if_neg h, if_neg (by omega), bsI_pos hn, bsI_pos (show 0 ≤ d by omega)]
    unfold dgB slB
    show (⟨(Lib.decDigits n.natAbs).toArray⟩ : ByteArray) ++ ⟨[47].toArray⟩ ++ ⟨(Lib.decDigits d.natAbs).toArray⟩ = _
    rw [bytes_app, bytes_app, List.append_assoc]; rfl
theorem prB_neg {n d : Int} (hn : n < 0) (hd : 1 ≤ d) : prB n d = ⟨(45 :: unL n.natAbs d.natAbs).toArray⟩ := by
  unfold prB unL
  by_cases h : d = 1
  · rw [if_pos h, if_pos (by omega), List.append_nil, bsI_neg hn]
    unfold miB dgB
    rw [bytes_cons]
  · rw [if_neg h, if_neg (by omega), bsI_neg hn, bsI_pos (show 0 ≤ d by omega)]
    unfold miB dgB slB
    show (⟨#[45]⟩ : ByteArray) ++ ⟨(Lib.decDigits n.natAbs).toArray⟩ ++ ⟨[47].toArray⟩ ++ ⟨(Lib.decDigits d.natAbs).toArray⟩ = _
    rw [bytes_cons, bytes_app, bytes_app, List.append_assoc]; rfl
theorem quot_un (m d : Nat) (hm : m ≤ 1048576) (hd : d ≤ 1048576) : Quot (unB m d) (m : Int) (d : Int) true := by
  intro w
  have hl := unL_len m d hm hd
  have hp := Lib.nDigits_pos m
  have hsz : (unB m d).size = (unL m d).length := List.size_toArray
  have h1 := nd_le (k := 6) (u := m) (by omega)
  have h2 := nd_le (k := 6) (u := d) (by omega)
  by_cases h : d = 1
  · have hu : unL m d = Lib.decDigits m := by unfold unL; rw [if_pos h, List.append_nil]
    have hlen : (unL m d).length = Lib.nDigits m := by rw [hu, dec_len]
    have hsc : scanL 0 0 (unB m d).data.toList = ((m : Int), Lib.nDigits m) := by
      show scanL 0 0 (unL m d) = _
      rw [hu, ← List.append_nil (Lib.decDigits m), scan_zero]; rfl
    have hx : (unB m d).extract (Lib.nDigits m) (unB m d).size = ⟨#[]⟩ := by
      rw [hsz]
      show (⟨(unL m d).toArray⟩ : ByteArray).extract _ _ = _
      rw [ext_list, List.drop_eq_nil_of_le (by omega)]
    have q := quot_plain (unB m d) ⟨#[]⟩ (by omega) (m : Int) (Lib.nDigits m) (Lib.hid hsc) (by omega) (by omega) (Lib.hid hx) (Lib.hid (by simp)) (Lib.hid (by simp)) (by decide) (d : Int) true (by rw [h]; simp) (by simp) w
    exact q
  · have hu : unL m d = Lib.decDigits m ++ 47 :: Lib.decDigits d := by unfold unL; rw [if_neg h]
    have hlen : (unL m d).length = Lib.nDigits m + (Lib.nDigits d + 1) := by rw [hu, List.length_append, List.length_cons, dec_len, dec_len]
    have hsc : scanL 0 0 (unB m d).data.toList = ((m : Int), Lib.nDigits m) := by
      show scanL 0 0 (unL m d) = _
      rw [hu, scan_zero]
      show (if 48 ≤ (47 : UInt8).toNat ∧ (47 : UInt8).toNat ≤ 57 then _ else _) = _
      rw [if_neg (by decide)]
    have hx : (unB m d).extract (Lib.nDigits m) (unB m d).size = ⟨(47 :: Lib.decDigits d).toArray⟩ := by
      rw [hsz]
      show (⟨(unL m d).toArray⟩ : ByteArray).extract _ _ = _
      rw [ext_list, hu, List.drop_left' (dec_len m)]
    have hx2 : (⟨(47 :: Lib.decDigits d).toArray⟩ : ByteArray).extract 1 (⟨(47 :: Lib.decDigits d).toArray⟩ : ByteArray).size = dgB d := by
      have e : (⟨(47 :: Lib.decDigits d).toArray⟩ : ByteArray).size = (47 :: Lib.decDigits d).length := List.size_toArray
      rw [e, ext_list]; rfl
    have hts : (⟨(47 :: Lib.decDigits d).toArray⟩ : ByteArray).size ≤ 16 := by
      show (47 :: Lib.decDigits d).toArray.size ≤ 16
      rw [List.size_toArray, List.length_cons, dec_len]; omega
    have hdz := dgB_size d hd
    have hsc2 : scanL 0 0 (dgB d).data.toList = ((d : Int), Lib.nDigits d) := by
      show scanL 0 0 (Lib.decDigits d) = _
      rw [← List.append_nil (Lib.decDigits d), scan_zero]; rfl
    have hds : (dgB d).size = Lib.nDigits d := by
      show (Lib.decDigits d).toArray.size = _
      rw [List.size_toArray, dec_len]
    have hpd := Lib.nDigits_pos d
    exact quot_slash (unB m d) _ (dgB d) (by omega) (m : Int) (d : Int) (Lib.nDigits m) (Lib.nDigits d) (Lib.hid hsc) (by omega) (by omega) (Lib.hid hx) (Lib.hid (by rfl)) hts (Lib.hid hx2) (by omega) (Lib.hid hsc2) true (by simp; omega) w
theorem parse_print (n d : Int) (h : canon n d) : Gives 8 (prB n d) n d 0 := by
  obtain ⟨e1, e2, e3⟩ := mk_canon h
  have hc := h
  obtain ⟨h1, h2, h3, h4, _⟩ := hc
  have hl := unL_len n.natAbs d.natAbs (by omega) (by omega)
  have hq := quot_un n.natAbs d.natAbs (by omega) (by omega)
  obtain ⟨k, r, hk, hh⟩ := dec_head n.natAbs
  by_cases hn : n < 0
  · rw [prB_neg hn h1]
    have g := parse_neg_ok ⟨(45 :: unL n.natAbs d.natAbs).toArray⟩ (unB n.natAbs d.natAbs) (by show (45 :: unL n.natAbs d.natAbs).toArray.size ≤ 16; rw [List.size_toArray, List.length_cons]; omega) (by show 1 ≤ (45 :: unL n.natAbs d.natAbs).toArray.size; rw [List.size_toArray, List.length_cons]; omega)
      (Lib.hid (by rfl)) (Lib.hid (by
        have e : (⟨(45 :: unL n.natAbs d.natAbs).toArray⟩ : ByteArray).size = (45 :: unL n.natAbs d.natAbs).length := List.size_toArray
        rw [e, ext_list]; rfl)) (n.natAbs : Int) (d.natAbs : Int) hq (by omega) (by omega) (by omega) (by omega)
    rw [show -(n.natAbs : Int) = n by omega, show (d.natAbs : Int) = d by omega, e1, e2, e3] at g
    exact g
  · rw [prB_pos (by omega) h1]
    have g := parse_pos_ok (unB n.natAbs d.natAbs) (by show (unL n.natAbs d.natAbs).toArray.size ≤ 16; rw [List.size_toArray]; omega)
      (Lib.hid (by
        show ((unL n.natAbs d.natAbs).head? == some 45) = false
        unfold unL
        rw [hh]
        show (some (UInt8.ofNat (48 + k)) == some 45) = false
        have := digit_ne hk 45 (by decide)
        simpa using this)) (n.natAbs : Int) (d.natAbs : Int) hq (by omega) (by omega) (by omega) (by omega)
    rw [show (n.natAbs : Int) = n by omega, show (d.natAbs : Int) = d by omega, e1, e2, e3] at g
    exact g
end Go.Proofs.YtokapficojgkgaaDoor
