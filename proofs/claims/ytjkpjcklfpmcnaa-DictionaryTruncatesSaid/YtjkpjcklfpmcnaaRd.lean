/- The reference's Decode: plain facts. -/
import Derived.Test.YtjkpjcklfpmcnaaDd
namespace Go.Proofs.Ytjkpjcklfpmcnaa
open Go.ChangeShapes Go.WideShapes Go.ChangeAt Go.RowKit Dp

theorem ba_ext {a b : ByteArray} (h : a.data.toList = b.data.toList) : a = b := by
  cases a; cases b
  congr 1
  exact Array.toList_inj.1 h
theorem byt_take (s : ByteArray) {n k : Nat} (h : k < n) : byt (s.extract 0 n) k = byt s k := by
  unfold byt; rw [ext_take]; simp [List.getD, h]
theorem byt_drop (s : ByteArray) (a k : Nat) : byt (s.extract a s.size) k = byt s (a + k) := by
  unfold byt; rw [ext_bytes]; simp [List.getD, List.getElem?_drop]
theorem ext_ext1 (r : ByteArray) (a m : Nat) : (r.extract a r.size).extract 0 m = r.extract a (a + m) := ba_ext (by
  rw [ext_take, ext_bytes, Lib.extract_data]
  congr 1; omega)
theorem ext_ext2 (r : ByteArray) (a m : Nat) : (r.extract a r.size).extract m (r.extract a r.size).size = r.extract (a + m) r.size := ba_ext (by
  rw [ext_bytes, ext_bytes, ext_bytes, List.drop_drop])
theorem jn_add (y : ByteArray) (sh : Nat) (o : ByteArray) : y.extract 0 sh ++ o = jn y sh o := ba_ext (by
  show (y.extract 0 sh ++ o).data.toList = (y.data.toList.take sh ++ o.data.toList).toArray.toList
  rw [← ext_take]
  simp)
theorem jn_zero (y o : ByteArray) : jn y 0 o = o := ba_ext (by
  show ([] ++ o.data.toList).toArray.toList = _
  simp)
theorem cmn_take (l m : List UInt8) (n : Nat) (h : n ≤ l.length) : n ≤ cmn l (l.take n ++ m) := by
  induction n generalizing l with
  | zero => omega
  | succ n ih =>
    cases l with
    | nil => simp at h
    | cons a l =>
      rw [List.take_succ_cons, List.cons_append]
      unfold cmn
      rw [if_pos rfl]
      have := ih l (by simpa using h)
      omega
theorem cm_jn (y : ByteArray) (sh : Nat) (o : ByteArray) (h : sh ≤ y.size) : sh ≤ cm y (jn y sh o) := by
  unfold cm
  have := cmn_take y.data.toList o.data.toList sh (by simpa using h)
  exact this
theorem lst_snoc (D : List ByteArray) (t : ByteArray) : lst (D ++ [t]) = t := by
  unfold lst
  rw [List.length_append, List.length_singleton, Nat.add_sub_cancel]
  simp [List.getD]
theorem sc_four {k : Nat} {r : ByteArray} (h : r.size < scH k ∨ r.size < scH k + byt r (scH k - 1)) : scE k r = 4 := by
  unfold scE
  by_cases h1 : r.size < scH k
  · rw [if_pos h1]
  · rw [if_neg h1, if_pos (h.resolve_left h1)]
theorem sc_good {k : Nat} {r : ByteArray} (h : scH k ≤ r.size) (h2 : scH k + byt r (scH k - 1) ≤ r.size) : scE k r = 0 ∧ scN k r = scH k + byt r (scH k - 1) ∧ scO k r = r.extract (scH k) (scH k + byt r (scH k - 1)) ∧ scS k r = if k % 16 = 0 then 0 else byt r 0 := by
  have h0 : scE k r = 0 := by unfold scE; rw [if_neg (by omega), if_neg (by omega)]
  refine ⟨h0, ?_, ?_, ?_⟩
  · unfold scN; rw [if_pos h0]
  · unfold scO scN; rw [if_pos h0, if_pos h0]
  · unfold scS; rw [if_pos h0]
end Go.Proofs.Ytjkpjcklfpmcnaa
