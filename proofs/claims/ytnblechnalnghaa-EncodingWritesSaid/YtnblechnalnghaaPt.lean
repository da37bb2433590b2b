/- The law's part: a part is written, and its form by the reference returned (written by wip/bin/gen_pt.py). -/
import Derived.Test.YtnblechnalnghaaRi
import Derived.Test.YtnblechnalnghaaWm
namespace Go.Proofs.Ytnblechnalnghaa
open Go.ChangeShapes Go.WideShapes Go.ChangeAt Go.RowKit En

structure Pt where
  k : Int
  n0 : Int
  n1 : Int
  n2 : Int
  n3 : Int
  n4 : Int
  n5 : Int
  n6 : Int
  n7 : Int
  key : ByteArray
  s : ByteArray
def Pt.cells (a : Pt) : List Value := [.int .u8 a.k, .int .i64 a.n0, .int .i64 a.n1, .int .i64 a.n2, .int .i64 a.n3, .int .i64 a.n4, .int .i64 a.n5, .int .i64 a.n6, .int .i64 a.n7, .string a.key, .string a.s]
def Pt.Ok (a : Pt) : Prop := 0 ≤ a.k ∧ a.k ≤ 255 ∧ (∀ n ∈ [a.n0, a.n1, a.n2, a.n3, a.n4, a.n5, a.n6, a.n7], In64 n)
theorem WS.gq {w : World} {g : Nat} {fs : List (List UInt8)} (h : WQ w (some ⟨g, 0, none⟩) fs) : WS w g fs := by
  rcases h with h | ⟨g', e, h⟩
  · simp at h
  · simp at e; subst e; exact h
/-- What part leaves and returns. -/
def PartPost (w : World) (g : Nat) (fs : List (List UInt8)) (e : Ending) (w' : World) : Prop :=
  ∃ F : List UInt8, 0 < F.length ∧ F.length ≤ 100000 ∧ e = .returned (.string (bytesOf F)) ∧ WS w' g (F :: fs) ∧ w.grownBy w' (some g)
section
variable (w : World) (o0 o1 o2 o3 o4 o5 o6 o7 o8 : Obj)
theorem nine0 : (((((((((w.alloc o0).alloc o1).alloc o2).alloc o3).alloc o4).alloc o5).alloc o6).alloc o7).alloc o8).heap[w.heap.size]? = some o0 :=
  (Deep.blk_alloc_lt _ _ _ (by simp <;> omega)).trans ((Deep.blk_alloc_lt _ _ _ (by simp <;> omega)).trans ((Deep.blk_alloc_lt _ _ _ (by simp <;> omega)).trans ((Deep.blk_alloc_lt _ _ _ (by simp <;> omega)).trans ((Deep.blk_alloc_lt _ _ _ (by simp <;> omega)).trans ((Deep.blk_alloc_lt _ _ _ (by simp <;> omega)).trans ((Deep.blk_alloc_lt _ _ _ (by simp <;> omega)).trans ((Deep.blk_alloc_lt _ _ _ (by simp <;> omega)).trans (Deep.blk_alloc_new w o0))))))))
theorem nine1 : (((((((((w.alloc o0).alloc o1).alloc o2).alloc o3).alloc o4).alloc o5).alloc o6).alloc o7).alloc o8).heap[w.heap.size + 1]? = some o1 :=
  (Deep.blk_alloc_lt _ _ _ (by simp <;> omega)).trans ((Deep.blk_alloc_lt _ _ _ (by simp <;> omega)).trans ((Deep.blk_alloc_lt _ _ _ (by simp <;> omega)).trans ((Deep.blk_alloc_lt _ _ _ (by simp <;> omega)).trans ((Deep.blk_alloc_lt _ _ _ (by simp <;> omega)).trans ((Deep.blk_alloc_lt _ _ _ (by simp <;> omega)).trans ((Deep.blk_alloc_lt _ _ _ (by simp <;> omega)).trans (by
    have := Deep.blk_alloc_new (w.alloc o0) o1
    rwa [show (w.alloc o0).heap.size = w.heap.size + 1 by simp] at this)))))))
theorem nine2 : (((((((((w.alloc o0).alloc o1).alloc o2).alloc o3).alloc o4).alloc o5).alloc o6).alloc o7).alloc o8).heap[w.heap.size + 2]? = some o2 :=
  (Deep.blk_alloc_lt _ _ _ (by simp <;> omega)).trans ((Deep.blk_alloc_lt _ _ _ (by simp <;> omega)).trans ((Deep.blk_alloc_lt _ _ _ (by simp <;> omega)).trans ((Deep.blk_alloc_lt _ _ _ (by simp <;> omega)).trans ((Deep.blk_alloc_lt _ _ _ (by simp <;> omega)).trans ((Deep.blk_alloc_lt _ _ _ (by simp <;> omega)).trans (by
    have := Deep.blk_alloc_new ((w.alloc o0).alloc o1) o2
    rwa [show ((w.alloc o0).alloc o1).heap.size = w.heap.size + 2 by simp] at this))))))
theorem nine3 : (((((((((w.alloc o0).alloc o1).alloc o2).alloc o3).alloc o4).alloc o5).alloc o6).alloc o7).alloc o8).heap[w.heap.size + 3]? = some o3 :=
  (Deep.blk_alloc_lt _ _ _ (by simp <;> omega)).trans ((Deep.blk_alloc_lt _ _ _ (by simp <;> omega)).trans ((Deep.blk_alloc_lt _ _ _ (by simp <;> omega)).trans ((Deep.blk_alloc_lt _ _ _ (by simp <;> omega)).trans ((Deep.blk_alloc_lt _ _ _ (by simp <;> omega)).trans (by
    have := Deep.blk_alloc_new (((w.alloc o0).alloc o1).alloc o2) o3
    rwa [show (((w.alloc o0).alloc o1).alloc o2).heap.size = w.heap.size + 3 by simp] at this)))))
theorem nine4 : (((((((((w.alloc o0).alloc o1).alloc o2).alloc o3).alloc o4).alloc o5).alloc o6).alloc o7).alloc o8).heap[w.heap.size + 4]? = some o4 :=
  (Deep.blk_alloc_lt _ _ _ (by simp <;> omega)).trans ((Deep.blk_alloc_lt _ _ _ (by simp <;> omega)).trans ((Deep.blk_alloc_lt _ _ _ (by simp <;> omega)).trans ((Deep.blk_alloc_lt _ _ _ (by simp <;> omega)).trans (by
    have := Deep.blk_alloc_new ((((w.alloc o0).alloc o1).alloc o2).alloc o3) o4
    rwa [show ((((w.alloc o0).alloc o1).alloc o2).alloc o3).heap.size = w.heap.size + 4 by simp] at this))))
theorem nine5 : (((((((((w.alloc o0).alloc o1).alloc o2).alloc o3).alloc o4).alloc o5).alloc o6).alloc o7).alloc o8).heap[w.heap.size + 5]? = some o5 :=
  (Deep.blk_alloc_lt _ _ _ (by simp <;> omega)).trans ((Deep.blk_alloc_lt _ _ _ (by simp <;> omega)).trans ((Deep.blk_alloc_lt _ _ _ (by simp <;> omega)).trans (by
    have := Deep.blk_alloc_new (((((w.alloc o0).alloc o1).alloc o2).alloc o3).alloc o4) o5
    rwa [show (((((w.alloc o0).alloc o1).alloc o2).alloc o3).alloc o4).heap.size = w.heap.size + 5 by simp] at this)))
theorem nine6 : (((((((((w.alloc o0).alloc o1).alloc o2).alloc o3).alloc o4).alloc o5).alloc o6).alloc o7).alloc o8).heap[w.heap.size + 6]? = some o6 :=
  (Deep.blk_alloc_lt _ _ _ (by simp <;> omega)).trans ((Deep.blk_alloc_lt _ _ _ (by simp <;> omega)).trans (by
    have := Deep.blk_alloc_new ((((((w.alloc o0).alloc o1).alloc o2).alloc o3).alloc o4).alloc o5) o6
    rwa [show ((((((w.alloc o0).alloc o1).alloc o2).alloc o3).alloc o4).alloc o5).heap.size = w.heap.size + 6 by simp] at this))
theorem nine7 : (((((((((w.alloc o0).alloc o1).alloc o2).alloc o3).alloc o4).alloc o5).alloc o6).alloc o7).alloc o8).heap[w.heap.size + 7]? = some o7 :=
  (Deep.blk_alloc_lt _ _ _ (by simp <;> omega)).trans (by
    have := Deep.blk_alloc_new (((((((w.alloc o0).alloc o1).alloc o2).alloc o3).alloc o4).alloc o5).alloc o6) o7
    rwa [show (((((((w.alloc o0).alloc o1).alloc o2).alloc o3).alloc o4).alloc o5).alloc o6).heap.size = w.heap.size + 7 by simp] at this)
theorem nine8 : (((((((((w.alloc o0).alloc o1).alloc o2).alloc o3).alloc o4).alloc o5).alloc o6).alloc o7).alloc o8).heap[w.heap.size + 8]? = some o8 :=
  by
    have := Deep.blk_alloc_new ((((((((w.alloc o0).alloc o1).alloc o2).alloc o3).alloc o4).alloc o5).alloc o6).alloc o7) o8
    rwa [show ((((((((w.alloc o0).alloc o1).alloc o2).alloc o3).alloc o4).alloc o5).alloc o6).alloc o7).heap.size = w.heap.size + 8 by simp] at this
end
theorem nums_pos (l : List Int) (h : l ≠ []) : 0 < (nums l).length := by
  cases l with
  | nil => exact absurd rfl h
  | cons a l => simp [nums, num]

set_option maxRecDepth 100000 in
set_option maxHeartbeats 4000000 in
theorem part_0 (g : Nat) (fs : List (List UInt8)) (htot : total fs ≤ 1000000) (k n0 n1 n2 n3 n4 n5 n6 n7 : Int) (key s : ByteArray) (hk0 : 0 ≤ k) (hk1 : k ≤ 255) (hin : ∀ n ∈ [n0, n1, n2, n3, n4, n5, n6, n7], In64 n) (hkey : key.size ≤ 50) (hs : s.size ≤ 50) (hkj : k % 9 = 0) (w : World) (hW : WS w g fs) :
    Calls Try.prog 24 #[.pointer (some ⟨g, 0, none⟩), .agg #[.int .u8 k, .int .i64 n0, .int .i64 n1, .int .i64 n2, .int .i64 n3, .int .i64 n4, .int .i64 n5, .int .i64 n6, .int .i64 n7, .string key, .string s]] w (PartPost w g fs) := by
  have _u1 := hk1
  have _u2 := hkey
  have _u3 := hs
  have i0 := hin n0 (by simp)
  have i1 := hin n1 (by simp)
  have i2 := hin n2 (by simp)
  have i3 := hin n3 (by simp)
  have i4 := hin n4 (by simp)
  have i5 := hin n5 (by simp)
  have i6 := hin n6 (by simp)
  have i7 := hin n7 (by simp)
  have hglt := hW.lt
  have HB0 : Hid (Below w.heap.size w (((((((((w.alloc (.cells #[.int .u8 k, .int .i64 n0, .int .i64 n1, .int .i64 n2, .int .i64 n3, .int .i64 n4, .int .i64 n5, .int .i64 n6, .int .i64 n7, .string key, .string s] 47)).alloc (.cells #[.int .i64 n0, .string s, .int .i64 n1] 88)).alloc (.cells #[.string key, .int .i64 n0, .string s, .int .i64 n1] 91)).alloc (.cells #[.int .i64 n0, .int .i64 n1] 83)).alloc (.cells #[.int .i64 n0, .int .i64 n1, .int .i64 n2, .int .i64 n3, .int .i64 n4] 95)).alloc (.cells #[.int .i64 n0, .int .i64 n0, .int .i64 n1, .int .i64 n2, .int .i64 n3, .int .i64 n4, .int .i64 n5, .int .i64 n6, .int .i64 n7, .int .i64 n1] 85)).alloc (.cells #[.string key, .int .i64 n0, .string s, .int .i64 n1] 91)).alloc (.cells #[.int .i64 n0, .int .i64 n1, .int .i64 n0, .int .i64 n1] 83)).alloc (.cells #[.int .i64 n0, .int .i64 n1, .int .i64 n2, .int .i64 n3, .int .i64 n4, .int .i64 n5, .string key, .string s, .string key, .int .i64 n6, .int .i64 n7, .bool (decide (0 < n0)), .slice (some ⟨w.heap.size + 6, 0, none⟩) 1 1, .slice (some ⟨w.heap.size + 7, 0, none⟩) 2 2] 54))) := Lib.hid (by
    (repeat' (first | exact Below.refl _ _ | refine Below.alloc ?_ (by simp <;> omega) _)))
  have HW0 : Hid (WQ (((((((((w.alloc (.cells #[.int .u8 k, .int .i64 n0, .int .i64 n1, .int .i64 n2, .int .i64 n3, .int .i64 n4, .int .i64 n5, .int .i64 n6, .int .i64 n7, .string key, .string s] 47)).alloc (.cells #[.int .i64 n0, .string s, .int .i64 n1] 88)).alloc (.cells #[.string key, .int .i64 n0, .string s, .int .i64 n1] 91)).alloc (.cells #[.int .i64 n0, .int .i64 n1] 83)).alloc (.cells #[.int .i64 n0, .int .i64 n1, .int .i64 n2, .int .i64 n3, .int .i64 n4] 95)).alloc (.cells #[.int .i64 n0, .int .i64 n0, .int .i64 n1, .int .i64 n2, .int .i64 n3, .int .i64 n4, .int .i64 n5, .int .i64 n6, .int .i64 n7, .int .i64 n1] 85)).alloc (.cells #[.string key, .int .i64 n0, .string s, .int .i64 n1] 91)).alloc (.cells #[.int .i64 n0, .int .i64 n1, .int .i64 n0, .int .i64 n1] 83)).alloc (.cells #[.int .i64 n0, .int .i64 n1, .int .i64 n2, .int .i64 n3, .int .i64 n4, .int .i64 n5, .string key, .string s, .string key, .int .i64 n6, .int .i64 n7, .bool (decide (0 < n0)), .slice (some ⟨w.heap.size + 6, 0, none⟩) 1 1, .slice (some ⟨w.heap.size + 7, 0, none⟩) 2 2] 54)) (some ⟨g, 0, none⟩) fs) := Lib.hid (Or.inr ⟨g, rfl, hW.below HB0.out⟩)
  have Hblk : Hid ((((((((((w.alloc (.cells #[.int .u8 k, .int .i64 n0, .int .i64 n1, .int .i64 n2, .int .i64 n3, .int .i64 n4, .int .i64 n5, .int .i64 n6, .int .i64 n7, .string key, .string s] 47)).alloc (.cells #[.int .i64 n0, .string s, .int .i64 n1] 88)).alloc (.cells #[.string key, .int .i64 n0, .string s, .int .i64 n1] 91)).alloc (.cells #[.int .i64 n0, .int .i64 n1] 83)).alloc (.cells #[.int .i64 n0, .int .i64 n1, .int .i64 n2, .int .i64 n3, .int .i64 n4] 95)).alloc (.cells #[.int .i64 n0, .int .i64 n0, .int .i64 n1, .int .i64 n2, .int .i64 n3, .int .i64 n4, .int .i64 n5, .int .i64 n6, .int .i64 n7, .int .i64 n1] 85)).alloc (.cells #[.string key, .int .i64 n0, .string s, .int .i64 n1] 91)).alloc (.cells #[.int .i64 n0, .int .i64 n1, .int .i64 n0, .int .i64 n1] 83)).alloc (.cells #[.int .i64 n0, .int .i64 n1, .int .i64 n2, .int .i64 n3, .int .i64 n4, .int .i64 n5, .string key, .string s, .string key, .int .i64 n6, .int .i64 n7, .bool (decide (0 < n0)), .slice (some ⟨w.heap.size + 6, 0, none⟩) 1 1, .slice (some ⟨w.heap.size + 7, 0, none⟩) 2 2] 54)).heap[w.heap.size]? = some (.cells #[.int .u8 k, .int .i64 n0, .int .i64 n1, .int .i64 n2, .int .i64 n3, .int .i64 n4, .int .i64 n5, .int .i64 n6, .int .i64 n7, .string key, .string s] 47 (0, 0))) := Lib.hid (nine0 _ _ _ _ _ _ _ _ _ _)
  have HF : Hid (0 < (num n0).length ∧ (num n0).length ≤ 100000) := Lib.hid (by
    have := num_bounds n0 i0.1 i0.2
    omega)
  have hkw : k.tmod 9 = 0 := by rw [Int.tmod_eq_emod_of_nonneg hk0]; exact hkj
  have Hin := Lib.hid hin
  clear hW hin _u1 _u2 _u3
  go_enter Try.func24, Try.ntmps24
  go_wp2_with fail
  refine (w_numberq (some ⟨g, 0, none⟩) fs n0 i0 htot _ HW0.out).mono ?_
  rintro e w1 ⟨rfl, hq, hg⟩
  have HW1 := Lib.hid (WS.gq hq)
  have HG : Hid (w.grownBy w1 (some g)) := Lib.hid (grown_trans (grown_below HB0.out _) hg)
  have hb1 := (hg.block (w.heap.size) (Array.getElem?_eq_some_iff.1 Hblk.out).1 (fun e => by have := Option.some.inj e; simp at this; omega)).trans Hblk.out
  have c0 := cell_of_row w1 (w.heap.size) 0 _ _ _ hb1
  have c1 := cell_of_row w1 (w.heap.size) 1 _ _ _ hb1
  clear hq hg hb1
  go_wp2_with fail
  refine (ref_number n0 i0 w1).mono ?_
  rintro e w2 ⟨rfl, hb⟩
  have HB2 := Lib.hid hb
  clear hb
  go_wp2_with fail
  go_ret
  exact ⟨num n0, HF.out.1, HF.out.2, rfl, HW1.out.below HB2.out, grown_trans HG.out (grown_below HB2.out _)⟩

set_option maxRecDepth 100000 in
set_option maxHeartbeats 4000000 in
theorem part_1 (g : Nat) (fs : List (List UInt8)) (htot : total fs ≤ 1000000) (k n0 n1 n2 n3 n4 n5 n6 n7 : Int) (key s : ByteArray) (hk0 : 0 ≤ k) (hk1 : k ≤ 255) (hin : ∀ n ∈ [n0, n1, n2, n3, n4, n5, n6, n7], In64 n) (hkey : key.size ≤ 50) (hs : s.size ≤ 50) (hkj : k % 9 = 1) (w : World) (hW : WS w g fs) :
    Calls Try.prog 24 #[.pointer (some ⟨g, 0, none⟩), .agg #[.int .u8 k, .int .i64 n0, .int .i64 n1, .int .i64 n2, .int .i64 n3, .int .i64 n4, .int .i64 n5, .int .i64 n6, .int .i64 n7, .string key, .string s]] w (PartPost w g fs) := by
  have _u1 := hk1
  have _u2 := hkey
  have _u3 := hs
  have i0 := hin n0 (by simp)
  have i1 := hin n1 (by simp)
  have i2 := hin n2 (by simp)
  have i3 := hin n3 (by simp)
  have i4 := hin n4 (by simp)
  have i5 := hin n5 (by simp)
  have i6 := hin n6 (by simp)
  have i7 := hin n7 (by simp)
  have hglt := hW.lt
  have HB0 : Hid (Below w.heap.size w (((((((((w.alloc (.cells #[.int .u8 k, .int .i64 n0, .int .i64 n1, .int .i64 n2, .int .i64 n3, .int .i64 n4, .int .i64 n5, .int .i64 n6, .int .i64 n7, .string key, .string s] 47)).alloc (.cells #[.int .i64 n0, .string s, .int .i64 n1] 88)).alloc (.cells #[.string key, .int .i64 n0, .string s, .int .i64 n1] 91)).alloc (.cells #[.int .i64 n0, .int .i64 n1] 83)).alloc (.cells #[.int .i64 n0, .int .i64 n1, .int .i64 n2, .int .i64 n3, .int .i64 n4] 95)).alloc (.cells #[.int .i64 n0, .int .i64 n0, .int .i64 n1, .int .i64 n2, .int .i64 n3, .int .i64 n4, .int .i64 n5, .int .i64 n6, .int .i64 n7, .int .i64 n1] 85)).alloc (.cells #[.string key, .int .i64 n0, .string s, .int .i64 n1] 91)).alloc (.cells #[.int .i64 n0, .int .i64 n1, .int .i64 n0, .int .i64 n1] 83)).alloc (.cells #[.int .i64 n0, .int .i64 n1, .int .i64 n2, .int .i64 n3, .int .i64 n4, .int .i64 n5, .string key, .string s, .string key, .int .i64 n6, .int .i64 n7, .bool (decide (0 < n0)), .slice (some ⟨w.heap.size + 6, 0, none⟩) 1 1, .slice (some ⟨w.heap.size + 7, 0, none⟩) 2 2] 54))) := Lib.hid (by
    (repeat' (first | exact Below.refl _ _ | refine Below.alloc ?_ (by simp <;> omega) _)))
  have HW0 : Hid (WQ (((((((((w.alloc (.cells #[.int .u8 k, .int .i64 n0, .int .i64 n1, .int .i64 n2, .int .i64 n3, .int .i64 n4, .int .i64 n5, .int .i64 n6, .int .i64 n7, .string key, .string s] 47)).alloc (.cells #[.int .i64 n0, .string s, .int .i64 n1] 88)).alloc (.cells #[.string key, .int .i64 n0, .string s, .int .i64 n1] 91)).alloc (.cells #[.int .i64 n0, .int .i64 n1] 83)).alloc (.cells #[.int .i64 n0, .int .i64 n1, .int .i64 n2, .int .i64 n3, .int .i64 n4] 95)).alloc (.cells #[.int .i64 n0, .int .i64 n0, .int .i64 n1, .int .i64 n2, .int .i64 n3, .int .i64 n4, .int .i64 n5, .int .i64 n6, .int .i64 n7, .int .i64 n1] 85)).alloc (.cells #[.string key, .int .i64 n0, .string s, .int .i64 n1] 91)).alloc (.cells #[.int .i64 n0, .int .i64 n1, .int .i64 n0, .int .i64 n1] 83)).alloc (.cells #[.int .i64 n0, .int .i64 n1, .int .i64 n2, .int .i64 n3, .int .i64 n4, .int .i64 n5, .string key, .string s, .string key, .int .i64 n6, .int .i64 n7, .bool (decide (0 < n0)), .slice (some ⟨w.heap.size + 6, 0, none⟩) 1 1, .slice (some ⟨w.heap.size + 7, 0, none⟩) 2 2] 54)) (some ⟨g, 0, none⟩) fs) := Lib.hid (Or.inr ⟨g, rfl, hW.below HB0.out⟩)
  have Hblk : Hid ((((((((((w.alloc (.cells #[.int .u8 k, .int .i64 n0, .int .i64 n1, .int .i64 n2, .int .i64 n3, .int .i64 n4, .int .i64 n5, .int .i64 n6, .int .i64 n7, .string key, .string s] 47)).alloc (.cells #[.int .i64 n0, .string s, .int .i64 n1] 88)).alloc (.cells #[.string key, .int .i64 n0, .string s, .int .i64 n1] 91)).alloc (.cells #[.int .i64 n0, .int .i64 n1] 83)).alloc (.cells #[.int .i64 n0, .int .i64 n1, .int .i64 n2, .int .i64 n3, .int .i64 n4] 95)).alloc (.cells #[.int .i64 n0, .int .i64 n0, .int .i64 n1, .int .i64 n2, .int .i64 n3, .int .i64 n4, .int .i64 n5, .int .i64 n6, .int .i64 n7, .int .i64 n1] 85)).alloc (.cells #[.string key, .int .i64 n0, .string s, .int .i64 n1] 91)).alloc (.cells #[.int .i64 n0, .int .i64 n1, .int .i64 n0, .int .i64 n1] 83)).alloc (.cells #[.int .i64 n0, .int .i64 n1, .int .i64 n2, .int .i64 n3, .int .i64 n4, .int .i64 n5, .string key, .string s, .string key, .int .i64 n6, .int .i64 n7, .bool (decide (0 < n0)), .slice (some ⟨w.heap.size + 6, 0, none⟩) 1 1, .slice (some ⟨w.heap.size + 7, 0, none⟩) 2 2] 54)).heap[w.heap.size]? = some (.cells #[.int .u8 k, .int .i64 n0, .int .i64 n1, .int .i64 n2, .int .i64 n3, .int .i64 n4, .int .i64 n5, .int .i64 n6, .int .i64 n7, .string key, .string s] 47 (0, 0))) := Lib.hid (nine0 _ _ _ _ _ _ _ _ _ _)
  have HF : Hid (0 < (boolF (decide (0 < n0))).length ∧ (boolF (decide (0 < n0))).length ≤ 100000) := Lib.hid (by
    have h1 := boolF_bound (decide (0 < n0))
    have h2 : ∀ b, 0 < (boolF b).length := by intro b; cases b <;> decide
    exact ⟨h2 _, by omega⟩)
  have hkw : k.tmod 9 = 1 := by rw [Int.tmod_eq_emod_of_nonneg hk0]; exact hkj
  have Hin := Lib.hid hin
  clear hW hin _u1 _u2 _u3
  go_enter Try.func24, Try.ntmps24
  go_wp2_with fail
  refine (w_bool (some ⟨g, 0, none⟩) fs _ htot _ HW0.out).mono ?_
  rintro e w1 ⟨rfl, hq, hg⟩
  have HW1 := Lib.hid (WS.gq hq)
  have HG : Hid (w.grownBy w1 (some g)) := Lib.hid (grown_trans (grown_below HB0.out _) hg)
  have hb1 := (hg.block (w.heap.size) (Array.getElem?_eq_some_iff.1 Hblk.out).1 (fun e => by have := Option.some.inj e; simp at this; omega)).trans Hblk.out
  have c0 := cell_of_row w1 (w.heap.size) 0 _ _ _ hb1
  have c1 := cell_of_row w1 (w.heap.size) 1 _ _ _ hb1
  clear hq hg hb1
  go_wp2_with fail
  refine (ref_bool _ w1).mono ?_
  rintro e w2 ⟨rfl, hb⟩
  have HB2 := Lib.hid hb
  clear hb
  go_wp2_with fail
  go_ret
  exact ⟨boolF (decide (0 < n0)), HF.out.1, HF.out.2, rfl, HW1.out.below HB2.out, grown_trans HG.out (grown_below HB2.out _)⟩

set_option maxRecDepth 100000 in
set_option maxHeartbeats 4000000 in
theorem part_2 (g : Nat) (fs : List (List UInt8)) (htot : total fs ≤ 1000000) (k n0 n1 n2 n3 n4 n5 n6 n7 : Int) (key s : ByteArray) (hk0 : 0 ≤ k) (hk1 : k ≤ 255) (hin : ∀ n ∈ [n0, n1, n2, n3, n4, n5, n6, n7], In64 n) (hkey : key.size ≤ 50) (hs : s.size ≤ 50) (hkj : k % 9 = 2) (w : World) (hW : WS w g fs) :
    Calls Try.prog 24 #[.pointer (some ⟨g, 0, none⟩), .agg #[.int .u8 k, .int .i64 n0, .int .i64 n1, .int .i64 n2, .int .i64 n3, .int .i64 n4, .int .i64 n5, .int .i64 n6, .int .i64 n7, .string key, .string s]] w (PartPost w g fs) := by
  have _u1 := hk1
  have _u2 := hkey
  have _u3 := hs
  have i0 := hin n0 (by simp)
  have i1 := hin n1 (by simp)
  have i2 := hin n2 (by simp)
  have i3 := hin n3 (by simp)
  have i4 := hin n4 (by simp)
  have i5 := hin n5 (by simp)
  have i6 := hin n6 (by simp)
  have i7 := hin n7 (by simp)
  have hglt := hW.lt
  have HB0 : Hid (Below w.heap.size w (((((((((w.alloc (.cells #[.int .u8 k, .int .i64 n0, .int .i64 n1, .int .i64 n2, .int .i64 n3, .int .i64 n4, .int .i64 n5, .int .i64 n6, .int .i64 n7, .string key, .string s] 47)).alloc (.cells #[.int .i64 n0, .string s, .int .i64 n1] 88)).alloc (.cells #[.string key, .int .i64 n0, .string s, .int .i64 n1] 91)).alloc (.cells #[.int .i64 n0, .int .i64 n1] 83)).alloc (.cells #[.int .i64 n0, .int .i64 n1, .int .i64 n2, .int .i64 n3, .int .i64 n4] 95)).alloc (.cells #[.int .i64 n0, .int .i64 n0, .int .i64 n1, .int .i64 n2, .int .i64 n3, .int .i64 n4, .int .i64 n5, .int .i64 n6, .int .i64 n7, .int .i64 n1] 85)).alloc (.cells #[.string key, .int .i64 n0, .string s, .int .i64 n1] 91)).alloc (.cells #[.int .i64 n0, .int .i64 n1, .int .i64 n0, .int .i64 n1] 83)).alloc (.cells #[.int .i64 n0, .int .i64 n1, .int .i64 n2, .int .i64 n3, .int .i64 n4, .int .i64 n5, .string key, .string s, .string key, .int .i64 n6, .int .i64 n7, .bool (decide (0 < n0)), .slice (some ⟨w.heap.size + 6, 0, none⟩) 1 1, .slice (some ⟨w.heap.size + 7, 0, none⟩) 2 2] 54))) := Lib.hid (by
    (repeat' (first | exact Below.refl _ _ | refine Below.alloc ?_ (by simp <;> omega) _)))
  have HW0 : Hid (WQ (((((((((w.alloc (.cells #[.int .u8 k, .int .i64 n0, .int .i64 n1, .int .i64 n2, .int .i64 n3, .int .i64 n4, .int .i64 n5, .int .i64 n6, .int .i64 n7, .string key, .string s] 47)).alloc (.cells #[.int .i64 n0, .string s, .int .i64 n1] 88)).alloc (.cells #[.string key, .int .i64 n0, .string s, .int .i64 n1] 91)).alloc (.cells #[.int .i64 n0, .int .i64 n1] 83)).alloc (.cells #[.int .i64 n0, .int .i64 n1, .int .i64 n2, .int .i64 n3, .int .i64 n4] 95)).alloc (.cells #[.int .i64 n0, .int .i64 n0, .int .i64 n1, .int .i64 n2, .int .i64 n3, .int .i64 n4, .int .i64 n5, .int .i64 n6, .int .i64 n7, .int .i64 n1] 85)).alloc (.cells #[.string key, .int .i64 n0, .string s, .int .i64 n1] 91)).alloc (.cells #[.int .i64 n0, .int .i64 n1, .int .i64 n0, .int .i64 n1] 83)).alloc (.cells #[.int .i64 n0, .int .i64 n1, .int .i64 n2, .int .i64 n3, .int .i64 n4, .int .i64 n5, .string key, .string s, .string key, .int .i64 n6, .int .i64 n7, .bool (decide (0 < n0)), .slice (some ⟨w.heap.size + 6, 0, none⟩) 1 1, .slice (some ⟨w.heap.size + 7, 0, none⟩) 2 2] 54)) (some ⟨g, 0, none⟩) fs) := Lib.hid (Or.inr ⟨g, rfl, hW.below HB0.out⟩)
  have Hblk : Hid ((((((((((w.alloc (.cells #[.int .u8 k, .int .i64 n0, .int .i64 n1, .int .i64 n2, .int .i64 n3, .int .i64 n4, .int .i64 n5, .int .i64 n6, .int .i64 n7, .string key, .string s] 47)).alloc (.cells #[.int .i64 n0, .string s, .int .i64 n1] 88)).alloc (.cells #[.string key, .int .i64 n0, .string s, .int .i64 n1] 91)).alloc (.cells #[.int .i64 n0, .int .i64 n1] 83)).alloc (.cells #[.int .i64 n0, .int .i64 n1, .int .i64 n2, .int .i64 n3, .int .i64 n4] 95)).alloc (.cells #[.int .i64 n0, .int .i64 n0, .int .i64 n1, .int .i64 n2, .int .i64 n3, .int .i64 n4, .int .i64 n5, .int .i64 n6, .int .i64 n7, .int .i64 n1] 85)).alloc (.cells #[.string key, .int .i64 n0, .string s, .int .i64 n1] 91)).alloc (.cells #[.int .i64 n0, .int .i64 n1, .int .i64 n0, .int .i64 n1] 83)).alloc (.cells #[.int .i64 n0, .int .i64 n1, .int .i64 n2, .int .i64 n3, .int .i64 n4, .int .i64 n5, .string key, .string s, .string key, .int .i64 n6, .int .i64 n7, .bool (decide (0 < n0)), .slice (some ⟨w.heap.size + 6, 0, none⟩) 1 1, .slice (some ⟨w.heap.size + 7, 0, none⟩) 2 2] 54)).heap[w.heap.size]? = some (.cells #[.int .u8 k, .int .i64 n0, .int .i64 n1, .int .i64 n2, .int .i64 n3, .int .i64 n4, .int .i64 n5, .int .i64 n6, .int .i64 n7, .string key, .string s] 47 (0, 0))) := Lib.hid (nine0 _ _ _ _ _ _ _ _ _ _)
  have HF : Hid (0 < (text s).length ∧ (text s).length ≤ 100000) := Lib.hid (by
    have h1 := text_bound s (by omega)
    have h2 := num_bounds (s.size : Int) (by omega) (by omega)
    have h3 := text_len s
    omega)
  have hkw : k.tmod 9 = 2 := by rw [Int.tmod_eq_emod_of_nonneg hk0]; exact hkj
  have Hin := Lib.hid hin
  clear hW hin _u1 _u2 _u3
  go_enter Try.func24, Try.ntmps24
  go_wp2_with fail
  refine (w_text (some ⟨g, 0, none⟩) fs s (by omega) htot _ HW0.out).mono ?_
  rintro e w1 ⟨rfl, hq, hg⟩
  have HW1 := Lib.hid (WS.gq hq)
  have HG : Hid (w.grownBy w1 (some g)) := Lib.hid (grown_trans (grown_below HB0.out _) hg)
  have hb1 := (hg.block (w.heap.size) (Array.getElem?_eq_some_iff.1 Hblk.out).1 (fun e => by have := Option.some.inj e; simp at this; omega)).trans Hblk.out
  have c0 := cell_of_row w1 (w.heap.size) 0 _ _ _ hb1
  have c1 := cell_of_row w1 (w.heap.size) 1 _ _ _ hb1
  have c2 := cell_of_row w1 (w.heap.size) 2 _ _ _ hb1
  have c3 := cell_of_row w1 (w.heap.size) 3 _ _ _ hb1
  have c4 := cell_of_row w1 (w.heap.size) 4 _ _ _ hb1
  have c5 := cell_of_row w1 (w.heap.size) 5 _ _ _ hb1
  have c6 := cell_of_row w1 (w.heap.size) 6 _ _ _ hb1
  have c7 := cell_of_row w1 (w.heap.size) 7 _ _ _ hb1
  have c8 := cell_of_row w1 (w.heap.size) 8 _ _ _ hb1
  have c9 := cell_of_row w1 (w.heap.size) 9 _ _ _ hb1
  have c10 := cell_of_row w1 (w.heap.size) 10 _ _ _ hb1
  clear hq hg hb1
  go_wp2_with fail
  refine (ref_text s (by omega) w1).mono ?_
  rintro e w2 ⟨rfl, hb⟩
  have HB2 := Lib.hid hb
  clear hb
  go_wp2_with fail
  go_ret
  exact ⟨text s, HF.out.1, HF.out.2, rfl, HW1.out.below HB2.out, grown_trans HG.out (grown_below HB2.out _)⟩

set_option maxRecDepth 100000 in
set_option maxHeartbeats 4000000 in
theorem part_3 (g : Nat) (fs : List (List UInt8)) (htot : total fs ≤ 1000000) (k n0 n1 n2 n3 n4 n5 n6 n7 : Int) (key s : ByteArray) (hk0 : 0 ≤ k) (hk1 : k ≤ 255) (hin : ∀ n ∈ [n0, n1, n2, n3, n4, n5, n6, n7], In64 n) (hkey : key.size ≤ 50) (hs : s.size ≤ 50) (hkj : k % 9 = 3) (w : World) (hW : WS w g fs) :
    Calls Try.prog 24 #[.pointer (some ⟨g, 0, none⟩), .agg #[.int .u8 k, .int .i64 n0, .int .i64 n1, .int .i64 n2, .int .i64 n3, .int .i64 n4, .int .i64 n5, .int .i64 n6, .int .i64 n7, .string key, .string s]] w (PartPost w g fs) := by
  have _u1 := hk1
  have _u2 := hkey
  have _u3 := hs
  have i0 := hin n0 (by simp)
  have i1 := hin n1 (by simp)
  have i2 := hin n2 (by simp)
  have i3 := hin n3 (by simp)
  have i4 := hin n4 (by simp)
  have i5 := hin n5 (by simp)
  have i6 := hin n6 (by simp)
  have i7 := hin n7 (by simp)
  have hglt := hW.lt
  have HB0 : Hid (Below w.heap.size w (((((((((w.alloc (.cells #[.int .u8 k, .int .i64 n0, .int .i64 n1, .int .i64 n2, .int .i64 n3, .int .i64 n4, .int .i64 n5, .int .i64 n6, .int .i64 n7, .string key, .string s] 47)).alloc (.cells #[.int .i64 n0, .string s, .int .i64 n1] 88)).alloc (.cells #[.string key, .int .i64 n0, .string s, .int .i64 n1] 91)).alloc (.cells #[.int .i64 n0, .int .i64 n1] 83)).alloc (.cells #[.int .i64 n0, .int .i64 n1, .int .i64 n2, .int .i64 n3, .int .i64 n4] 95)).alloc (.cells #[.int .i64 n0, .int .i64 n0, .int .i64 n1, .int .i64 n2, .int .i64 n3, .int .i64 n4, .int .i64 n5, .int .i64 n6, .int .i64 n7, .int .i64 n1] 85)).alloc (.cells #[.string key, .int .i64 n0, .string s, .int .i64 n1] 91)).alloc (.cells #[.int .i64 n0, .int .i64 n1, .int .i64 n0, .int .i64 n1] 83)).alloc (.cells #[.int .i64 n0, .int .i64 n1, .int .i64 n2, .int .i64 n3, .int .i64 n4, .int .i64 n5, .string key, .string s, .string key, .int .i64 n6, .int .i64 n7, .bool (decide (0 < n0)), .slice (some ⟨w.heap.size + 6, 0, none⟩) 1 1, .slice (some ⟨w.heap.size + 7, 0, none⟩) 2 2] 54))) := Lib.hid (by
    (repeat' (first | exact Below.refl _ _ | refine Below.alloc ?_ (by simp <;> omega) _)))
  have HW0 : Hid (WQ (((((((((w.alloc (.cells #[.int .u8 k, .int .i64 n0, .int .i64 n1, .int .i64 n2, .int .i64 n3, .int .i64 n4, .int .i64 n5, .int .i64 n6, .int .i64 n7, .string key, .string s] 47)).alloc (.cells #[.int .i64 n0, .string s, .int .i64 n1] 88)).alloc (.cells #[.string key, .int .i64 n0, .string s, .int .i64 n1] 91)).alloc (.cells #[.int .i64 n0, .int .i64 n1] 83)).alloc (.cells #[.int .i64 n0, .int .i64 n1, .int .i64 n2, .int .i64 n3, .int .i64 n4] 95)).alloc (.cells #[.int .i64 n0, .int .i64 n0, .int .i64 n1, .int .i64 n2, .int .i64 n3, .int .i64 n4, .int .i64 n5, .int .i64 n6, .int .i64 n7, .int .i64 n1] 85)).alloc (.cells #[.string key, .int .i64 n0, .string s, .int .i64 n1] 91)).alloc (.cells #[.int .i64 n0, .int .i64 n1, .int .i64 n0, .int .i64 n1] 83)).alloc (.cells #[.int .i64 n0, .int .i64 n1, .int .i64 n2, .int .i64 n3, .int .i64 n4, .int .i64 n5, .string key, .string s, .string key, .int .i64 n6, .int .i64 n7, .bool (decide (0 < n0)), .slice (some ⟨w.heap.size + 6, 0, none⟩) 1 1, .slice (some ⟨w.heap.size + 7, 0, none⟩) 2 2] 54)) (some ⟨g, 0, none⟩) fs) := Lib.hid (Or.inr ⟨g, rfl, hW.below HB0.out⟩)
  have Hblk : Hid ((((((((((w.alloc (.cells #[.int .u8 k, .int .i64 n0, .int .i64 n1, .int .i64 n2, .int .i64 n3, .int .i64 n4, .int .i64 n5, .int .i64 n6, .int .i64 n7, .string key, .string s] 47)).alloc (.cells #[.int .i64 n0, .string s, .int .i64 n1] 88)).alloc (.cells #[.string key, .int .i64 n0, .string s, .int .i64 n1] 91)).alloc (.cells #[.int .i64 n0, .int .i64 n1] 83)).alloc (.cells #[.int .i64 n0, .int .i64 n1, .int .i64 n2, .int .i64 n3, .int .i64 n4] 95)).alloc (.cells #[.int .i64 n0, .int .i64 n0, .int .i64 n1, .int .i64 n2, .int .i64 n3, .int .i64 n4, .int .i64 n5, .int .i64 n6, .int .i64 n7, .int .i64 n1] 85)).alloc (.cells #[.string key, .int .i64 n0, .string s, .int .i64 n1] 91)).alloc (.cells #[.int .i64 n0, .int .i64 n1, .int .i64 n0, .int .i64 n1] 83)).alloc (.cells #[.int .i64 n0, .int .i64 n1, .int .i64 n2, .int .i64 n3, .int .i64 n4, .int .i64 n5, .string key, .string s, .string key, .int .i64 n6, .int .i64 n7, .bool (decide (0 < n0)), .slice (some ⟨w.heap.size + 6, 0, none⟩) 1 1, .slice (some ⟨w.heap.size + 7, 0, none⟩) 2 2] 54)).heap[w.heap.size + 1]? = some (.cells #[.int .i64 n0, .string s, .int .i64 n1] 88 (0, 0))) := Lib.hid (nine1 _ _ _ _ _ _ _ _ _ _)
  have HF : Hid (0 < (valueF n0 s n1).length ∧ (valueF n0 s n1).length ≤ 100000) := Lib.hid (by
    have h1 := num_bounds n0 i0.1 i0.2
    have h2 := num_bounds n1 i1.1 i1.2
    have h3 := text_bound s (by omega)
    unfold valueF
    rw [List.length_append, List.length_append]; omega)
  have hkw : k.tmod 9 = 3 := by rw [Int.tmod_eq_emod_of_nonneg hk0]; exact hkj
  have Hin := Lib.hid hin
  clear hW hin _u1 _u2 _u3
  go_enter Try.func24, Try.ntmps24
  go_wp2_with fail
  refine (w_value (some ⟨g, 0, none⟩) fs n0 n1 s (by omega) i0 i1 htot _ HW0.out).mono ?_
  rintro e w1 ⟨rfl, hq, hg⟩
  have HW1 := Lib.hid (WS.gq hq)
  have HG : Hid (w.grownBy w1 (some g)) := Lib.hid (grown_trans (grown_below HB0.out _) hg)
  have hb1 := (hg.block (w.heap.size + 1) (Array.getElem?_eq_some_iff.1 Hblk.out).1 (fun e => by have := Option.some.inj e; simp at this; omega)).trans Hblk.out
  have c0 := cell_of_row w1 (w.heap.size + 1) 0 _ _ _ hb1
  have c1 := cell_of_row w1 (w.heap.size + 1) 1 _ _ _ hb1
  have c2 := cell_of_row w1 (w.heap.size + 1) 2 _ _ _ hb1
  clear hq hg hb1
  go_wp2_with fail
  refine (ref_value n0 s n1 i0 (by omega) i1 w1).mono ?_
  rintro e w2 ⟨rfl, hb⟩
  have HB2 := Lib.hid hb
  clear hb
  go_wp2_with fail
  go_ret
  exact ⟨valueF n0 s n1, HF.out.1, HF.out.2, rfl, HW1.out.below HB2.out, grown_trans HG.out (grown_below HB2.out _)⟩

set_option maxRecDepth 100000 in
set_option maxHeartbeats 4000000 in
theorem part_4 (g : Nat) (fs : List (List UInt8)) (htot : total fs ≤ 1000000) (k n0 n1 n2 n3 n4 n5 n6 n7 : Int) (key s : ByteArray) (hk0 : 0 ≤ k) (hk1 : k ≤ 255) (hin : ∀ n ∈ [n0, n1, n2, n3, n4, n5, n6, n7], In64 n) (hkey : key.size ≤ 50) (hs : s.size ≤ 50) (hkj : k % 9 = 4) (w : World) (hW : WS w g fs) :
    Calls Try.prog 24 #[.pointer (some ⟨g, 0, none⟩), .agg #[.int .u8 k, .int .i64 n0, .int .i64 n1, .int .i64 n2, .int .i64 n3, .int .i64 n4, .int .i64 n5, .int .i64 n6, .int .i64 n7, .string key, .string s]] w (PartPost w g fs) := by
  have _u1 := hk1
  have _u2 := hkey
  have _u3 := hs
  have i0 := hin n0 (by simp)
  have i1 := hin n1 (by simp)
  have i2 := hin n2 (by simp)
  have i3 := hin n3 (by simp)
  have i4 := hin n4 (by simp)
  have i5 := hin n5 (by simp)
  have i6 := hin n6 (by simp)
  have i7 := hin n7 (by simp)
  have hglt := hW.lt
  have HB0 : Hid (Below w.heap.size w (((((((((w.alloc (.cells #[.int .u8 k, .int .i64 n0, .int .i64 n1, .int .i64 n2, .int .i64 n3, .int .i64 n4, .int .i64 n5, .int .i64 n6, .int .i64 n7, .string key, .string s] 47)).alloc (.cells #[.int .i64 n0, .string s, .int .i64 n1] 88)).alloc (.cells #[.string key, .int .i64 n0, .string s, .int .i64 n1] 91)).alloc (.cells #[.int .i64 n0, .int .i64 n1] 83)).alloc (.cells #[.int .i64 n0, .int .i64 n1, .int .i64 n2, .int .i64 n3, .int .i64 n4] 95)).alloc (.cells #[.int .i64 n0, .int .i64 n0, .int .i64 n1, .int .i64 n2, .int .i64 n3, .int .i64 n4, .int .i64 n5, .int .i64 n6, .int .i64 n7, .int .i64 n1] 85)).alloc (.cells #[.string key, .int .i64 n0, .string s, .int .i64 n1] 91)).alloc (.cells #[.int .i64 n0, .int .i64 n1, .int .i64 n0, .int .i64 n1] 83)).alloc (.cells #[.int .i64 n0, .int .i64 n1, .int .i64 n2, .int .i64 n3, .int .i64 n4, .int .i64 n5, .string key, .string s, .string key, .int .i64 n6, .int .i64 n7, .bool (decide (0 < n0)), .slice (some ⟨w.heap.size + 6, 0, none⟩) 1 1, .slice (some ⟨w.heap.size + 7, 0, none⟩) 2 2] 54))) := Lib.hid (by
    (repeat' (first | exact Below.refl _ _ | refine Below.alloc ?_ (by simp <;> omega) _)))
  have HW0 : Hid (WQ (((((((((w.alloc (.cells #[.int .u8 k, .int .i64 n0, .int .i64 n1, .int .i64 n2, .int .i64 n3, .int .i64 n4, .int .i64 n5, .int .i64 n6, .int .i64 n7, .string key, .string s] 47)).alloc (.cells #[.int .i64 n0, .string s, .int .i64 n1] 88)).alloc (.cells #[.string key, .int .i64 n0, .string s, .int .i64 n1] 91)).alloc (.cells #[.int .i64 n0, .int .i64 n1] 83)).alloc (.cells #[.int .i64 n0, .int .i64 n1, .int .i64 n2, .int .i64 n3, .int .i64 n4] 95)).alloc (.cells #[.int .i64 n0, .int .i64 n0, .int .i64 n1, .int .i64 n2, .int .i64 n3, .int .i64 n4, .int .i64 n5, .int .i64 n6, .int .i64 n7, .int .i64 n1] 85)).alloc (.cells #[.string key, .int .i64 n0, .string s, .int .i64 n1] 91)).alloc (.cells #[.int .i64 n0, .int .i64 n1, .int .i64 n0, .int .i64 n1] 83)).alloc (.cells #[.int .i64 n0, .int .i64 n1, .int .i64 n2, .int .i64 n3, .int .i64 n4, .int .i64 n5, .string key, .string s, .string key, .int .i64 n6, .int .i64 n7, .bool (decide (0 < n0)), .slice (some ⟨w.heap.size + 6, 0, none⟩) 1 1, .slice (some ⟨w.heap.size + 7, 0, none⟩) 2 2] 54)) (some ⟨g, 0, none⟩) fs) := Lib.hid (Or.inr ⟨g, rfl, hW.below HB0.out⟩)
  have Hblk : Hid ((((((((((w.alloc (.cells #[.int .u8 k, .int .i64 n0, .int .i64 n1, .int .i64 n2, .int .i64 n3, .int .i64 n4, .int .i64 n5, .int .i64 n6, .int .i64 n7, .string key, .string s] 47)).alloc (.cells #[.int .i64 n0, .string s, .int .i64 n1] 88)).alloc (.cells #[.string key, .int .i64 n0, .string s, .int .i64 n1] 91)).alloc (.cells #[.int .i64 n0, .int .i64 n1] 83)).alloc (.cells #[.int .i64 n0, .int .i64 n1, .int .i64 n2, .int .i64 n3, .int .i64 n4] 95)).alloc (.cells #[.int .i64 n0, .int .i64 n0, .int .i64 n1, .int .i64 n2, .int .i64 n3, .int .i64 n4, .int .i64 n5, .int .i64 n6, .int .i64 n7, .int .i64 n1] 85)).alloc (.cells #[.string key, .int .i64 n0, .string s, .int .i64 n1] 91)).alloc (.cells #[.int .i64 n0, .int .i64 n1, .int .i64 n0, .int .i64 n1] 83)).alloc (.cells #[.int .i64 n0, .int .i64 n1, .int .i64 n2, .int .i64 n3, .int .i64 n4, .int .i64 n5, .string key, .string s, .string key, .int .i64 n6, .int .i64 n7, .bool (decide (0 < n0)), .slice (some ⟨w.heap.size + 6, 0, none⟩) 1 1, .slice (some ⟨w.heap.size + 7, 0, none⟩) 2 2] 54)).heap[w.heap.size + 2]? = some (.cells #[.string key, .int .i64 n0, .string s, .int .i64 n1] 91 (0, 0))) := Lib.hid (nine2 _ _ _ _ _ _ _ _ _ _)
  have HF : Hid (0 < (attrF key n0 s n1).length ∧ (attrF key n0 s n1).length ≤ 100000) := Lib.hid (by
    have h1 := num_bounds n0 i0.1 i0.2
    have h2 := num_bounds n1 i1.1 i1.2
    have h3 := text_bound s (by omega)
    have h4 := text_bound key (by omega)
    unfold attrF valueF
    rw [List.length_append, List.length_append, List.length_append]; omega)
  have hkw : k.tmod 9 = 4 := by rw [Int.tmod_eq_emod_of_nonneg hk0]; exact hkj
  have Hin := Lib.hid hin
  clear hW hin _u1 _u2 _u3
  go_enter Try.func24, Try.ntmps24
  go_wp2_with fail
  refine (w_attrq (some ⟨g, 0, none⟩) fs ⟨key, n0, s, n1⟩ ⟨by show key.size ≤ _; omega, by show s.size ≤ _; omega, i0, i1⟩ htot _ HW0.out).mono ?_
  rintro e w1 ⟨rfl, hq, hg⟩
  have HW1 := Lib.hid (WS.gq hq)
  have HG : Hid (w.grownBy w1 (some g)) := Lib.hid (grown_trans (grown_below HB0.out _) hg)
  have hb1 := (hg.block (w.heap.size + 2) (Array.getElem?_eq_some_iff.1 Hblk.out).1 (fun e => by have := Option.some.inj e; simp at this; omega)).trans Hblk.out
  have c0 := cell_of_row w1 (w.heap.size + 2) 0 _ _ _ hb1
  have c1 := cell_of_row w1 (w.heap.size + 2) 1 _ _ _ hb1
  have c2 := cell_of_row w1 (w.heap.size + 2) 2 _ _ _ hb1
  have c3 := cell_of_row w1 (w.heap.size + 2) 3 _ _ _ hb1
  clear hq hg hb1
  go_wp2_with fail
  refine (ref_attr key n0 s n1 (by omega) i0 (by omega) i1 w1).mono ?_
  rintro e w2 ⟨rfl, hb⟩
  have HB2 := Lib.hid hb
  clear hb
  go_wp2_with fail
  go_ret
  exact ⟨attrF key n0 s n1, HF.out.1, HF.out.2, rfl, HW1.out.below HB2.out, grown_trans HG.out (grown_below HB2.out _)⟩

set_option maxRecDepth 100000 in
set_option maxHeartbeats 4000000 in
theorem part_5 (g : Nat) (fs : List (List UInt8)) (htot : total fs ≤ 1000000) (k n0 n1 n2 n3 n4 n5 n6 n7 : Int) (key s : ByteArray) (hk0 : 0 ≤ k) (hk1 : k ≤ 255) (hin : ∀ n ∈ [n0, n1, n2, n3, n4, n5, n6, n7], In64 n) (hkey : key.size ≤ 50) (hs : s.size ≤ 50) (hkj : k % 9 = 5) (w : World) (hW : WS w g fs) :
    Calls Try.prog 24 #[.pointer (some ⟨g, 0, none⟩), .agg #[.int .u8 k, .int .i64 n0, .int .i64 n1, .int .i64 n2, .int .i64 n3, .int .i64 n4, .int .i64 n5, .int .i64 n6, .int .i64 n7, .string key, .string s]] w (PartPost w g fs) := by
  have _u1 := hk1
  have _u2 := hkey
  have _u3 := hs
  have i0 := hin n0 (by simp)
  have i1 := hin n1 (by simp)
  have i2 := hin n2 (by simp)
  have i3 := hin n3 (by simp)
  have i4 := hin n4 (by simp)
  have i5 := hin n5 (by simp)
  have i6 := hin n6 (by simp)
  have i7 := hin n7 (by simp)
  have hglt := hW.lt
  have HB0 : Hid (Below w.heap.size w (((((((((w.alloc (.cells #[.int .u8 k, .int .i64 n0, .int .i64 n1, .int .i64 n2, .int .i64 n3, .int .i64 n4, .int .i64 n5, .int .i64 n6, .int .i64 n7, .string key, .string s] 47)).alloc (.cells #[.int .i64 n0, .string s, .int .i64 n1] 88)).alloc (.cells #[.string key, .int .i64 n0, .string s, .int .i64 n1] 91)).alloc (.cells #[.int .i64 n0, .int .i64 n1] 83)).alloc (.cells #[.int .i64 n0, .int .i64 n1, .int .i64 n2, .int .i64 n3, .int .i64 n4] 95)).alloc (.cells #[.int .i64 n0, .int .i64 n0, .int .i64 n1, .int .i64 n2, .int .i64 n3, .int .i64 n4, .int .i64 n5, .int .i64 n6, .int .i64 n7, .int .i64 n1] 85)).alloc (.cells #[.string key, .int .i64 n0, .string s, .int .i64 n1] 91)).alloc (.cells #[.int .i64 n0, .int .i64 n1, .int .i64 n0, .int .i64 n1] 83)).alloc (.cells #[.int .i64 n0, .int .i64 n1, .int .i64 n2, .int .i64 n3, .int .i64 n4, .int .i64 n5, .string key, .string s, .string key, .int .i64 n6, .int .i64 n7, .bool (decide (0 < n0)), .slice (some ⟨w.heap.size + 6, 0, none⟩) 1 1, .slice (some ⟨w.heap.size + 7, 0, none⟩) 2 2] 54))) := Lib.hid (by
    (repeat' (first | exact Below.refl _ _ | refine Below.alloc ?_ (by simp <;> omega) _)))
  have HW0 : Hid (WQ (((((((((w.alloc (.cells #[.int .u8 k, .int .i64 n0, .int .i64 n1, .int .i64 n2, .int .i64 n3, .int .i64 n4, .int .i64 n5, .int .i64 n6, .int .i64 n7, .string key, .string s] 47)).alloc (.cells #[.int .i64 n0, .string s, .int .i64 n1] 88)).alloc (.cells #[.string key, .int .i64 n0, .string s, .int .i64 n1] 91)).alloc (.cells #[.int .i64 n0, .int .i64 n1] 83)).alloc (.cells #[.int .i64 n0, .int .i64 n1, .int .i64 n2, .int .i64 n3, .int .i64 n4] 95)).alloc (.cells #[.int .i64 n0, .int .i64 n0, .int .i64 n1, .int .i64 n2, .int .i64 n3, .int .i64 n4, .int .i64 n5, .int .i64 n6, .int .i64 n7, .int .i64 n1] 85)).alloc (.cells #[.string key, .int .i64 n0, .string s, .int .i64 n1] 91)).alloc (.cells #[.int .i64 n0, .int .i64 n1, .int .i64 n0, .int .i64 n1] 83)).alloc (.cells #[.int .i64 n0, .int .i64 n1, .int .i64 n2, .int .i64 n3, .int .i64 n4, .int .i64 n5, .string key, .string s, .string key, .int .i64 n6, .int .i64 n7, .bool (decide (0 < n0)), .slice (some ⟨w.heap.size + 6, 0, none⟩) 1 1, .slice (some ⟨w.heap.size + 7, 0, none⟩) 2 2] 54)) (some ⟨g, 0, none⟩) fs) := Lib.hid (Or.inr ⟨g, rfl, hW.below HB0.out⟩)
  have Hblk : Hid ((((((((((w.alloc (.cells #[.int .u8 k, .int .i64 n0, .int .i64 n1, .int .i64 n2, .int .i64 n3, .int .i64 n4, .int .i64 n5, .int .i64 n6, .int .i64 n7, .string key, .string s] 47)).alloc (.cells #[.int .i64 n0, .string s, .int .i64 n1] 88)).alloc (.cells #[.string key, .int .i64 n0, .string s, .int .i64 n1] 91)).alloc (.cells #[.int .i64 n0, .int .i64 n1] 83)).alloc (.cells #[.int .i64 n0, .int .i64 n1, .int .i64 n2, .int .i64 n3, .int .i64 n4] 95)).alloc (.cells #[.int .i64 n0, .int .i64 n0, .int .i64 n1, .int .i64 n2, .int .i64 n3, .int .i64 n4, .int .i64 n5, .int .i64 n6, .int .i64 n7, .int .i64 n1] 85)).alloc (.cells #[.string key, .int .i64 n0, .string s, .int .i64 n1] 91)).alloc (.cells #[.int .i64 n0, .int .i64 n1, .int .i64 n0, .int .i64 n1] 83)).alloc (.cells #[.int .i64 n0, .int .i64 n1, .int .i64 n2, .int .i64 n3, .int .i64 n4, .int .i64 n5, .string key, .string s, .string key, .int .i64 n6, .int .i64 n7, .bool (decide (0 < n0)), .slice (some ⟨w.heap.size + 6, 0, none⟩) 1 1, .slice (some ⟨w.heap.size + 7, 0, none⟩) 2 2] 54)).heap[w.heap.size + 3]? = some (.cells #[.int .i64 n0, .int .i64 n1] 83 (0, 0))) := Lib.hid (nine3 _ _ _ _ _ _ _ _ _ _)
  have HF : Hid (0 < (nums [n0, n1]).length ∧ (nums [n0, n1]).length ≤ 100000) := Lib.hid (by
    have h1 := nums_len [n0, n1] (by intro n hn; apply hin; simp at hn ⊢; omega)
    simp only [List.length_cons, List.length_nil] at h1
    exact ⟨nums_pos _ (by simp), by omega⟩)
  have hkw : k.tmod 9 = 5 := by rw [Int.tmod_eq_emod_of_nonneg hk0]; exact hkj
  have Hin := Lib.hid hin
  clear hW hin _u1 _u2 _u3
  go_enter Try.func24, Try.ntmps24
  go_wp2_with fail
  refine (w_ref (some ⟨g, 0, none⟩) fs n0 n1 (by intro n hn; apply Hin.out; simp at hn ⊢; omega) htot _ HW0.out).mono ?_
  rintro e w1 ⟨rfl, hq, hg⟩
  have HW1 := Lib.hid (WS.gq hq)
  have HG : Hid (w.grownBy w1 (some g)) := Lib.hid (grown_trans (grown_below HB0.out _) hg)
  have hb1 := (hg.block (w.heap.size + 3) (Array.getElem?_eq_some_iff.1 Hblk.out).1 (fun e => by have := Option.some.inj e; simp at this; omega)).trans Hblk.out
  have c0 := cell_of_row w1 (w.heap.size + 3) 0 _ _ _ hb1
  have c1 := cell_of_row w1 (w.heap.size + 3) 1 _ _ _ hb1
  clear hq hg hb1
  go_wp2_with fail
  refine (ref_ref n0 n1 i0 i1 w1).mono ?_
  rintro e w2 ⟨rfl, hb⟩
  have HB2 := Lib.hid hb
  clear hb
  go_wp2_with fail
  go_ret
  exact ⟨nums [n0, n1], HF.out.1, HF.out.2, rfl, HW1.out.below HB2.out, grown_trans HG.out (grown_below HB2.out _)⟩

set_option maxRecDepth 100000 in
set_option maxHeartbeats 4000000 in
theorem part_6 (g : Nat) (fs : List (List UInt8)) (htot : total fs ≤ 1000000) (k n0 n1 n2 n3 n4 n5 n6 n7 : Int) (key s : ByteArray) (hk0 : 0 ≤ k) (hk1 : k ≤ 255) (hin : ∀ n ∈ [n0, n1, n2, n3, n4, n5, n6, n7], In64 n) (hkey : key.size ≤ 50) (hs : s.size ≤ 50) (hkj : k % 9 = 6) (w : World) (hW : WS w g fs) :
    Calls Try.prog 24 #[.pointer (some ⟨g, 0, none⟩), .agg #[.int .u8 k, .int .i64 n0, .int .i64 n1, .int .i64 n2, .int .i64 n3, .int .i64 n4, .int .i64 n5, .int .i64 n6, .int .i64 n7, .string key, .string s]] w (PartPost w g fs) := by
  have _u1 := hk1
  have _u2 := hkey
  have _u3 := hs
  have i0 := hin n0 (by simp)
  have i1 := hin n1 (by simp)
  have i2 := hin n2 (by simp)
  have i3 := hin n3 (by simp)
  have i4 := hin n4 (by simp)
  have i5 := hin n5 (by simp)
  have i6 := hin n6 (by simp)
  have i7 := hin n7 (by simp)
  have hglt := hW.lt
  have HB0 : Hid (Below w.heap.size w (((((((((w.alloc (.cells #[.int .u8 k, .int .i64 n0, .int .i64 n1, .int .i64 n2, .int .i64 n3, .int .i64 n4, .int .i64 n5, .int .i64 n6, .int .i64 n7, .string key, .string s] 47)).alloc (.cells #[.int .i64 n0, .string s, .int .i64 n1] 88)).alloc (.cells #[.string key, .int .i64 n0, .string s, .int .i64 n1] 91)).alloc (.cells #[.int .i64 n0, .int .i64 n1] 83)).alloc (.cells #[.int .i64 n0, .int .i64 n1, .int .i64 n2, .int .i64 n3, .int .i64 n4] 95)).alloc (.cells #[.int .i64 n0, .int .i64 n0, .int .i64 n1, .int .i64 n2, .int .i64 n3, .int .i64 n4, .int .i64 n5, .int .i64 n6, .int .i64 n7, .int .i64 n1] 85)).alloc (.cells #[.string key, .int .i64 n0, .string s, .int .i64 n1] 91)).alloc (.cells #[.int .i64 n0, .int .i64 n1, .int .i64 n0, .int .i64 n1] 83)).alloc (.cells #[.int .i64 n0, .int .i64 n1, .int .i64 n2, .int .i64 n3, .int .i64 n4, .int .i64 n5, .string key, .string s, .string key, .int .i64 n6, .int .i64 n7, .bool (decide (0 < n0)), .slice (some ⟨w.heap.size + 6, 0, none⟩) 1 1, .slice (some ⟨w.heap.size + 7, 0, none⟩) 2 2] 54))) := Lib.hid (by
    (repeat' (first | exact Below.refl _ _ | refine Below.alloc ?_ (by simp <;> omega) _)))
  have HW0 : Hid (WQ (((((((((w.alloc (.cells #[.int .u8 k, .int .i64 n0, .int .i64 n1, .int .i64 n2, .int .i64 n3, .int .i64 n4, .int .i64 n5, .int .i64 n6, .int .i64 n7, .string key, .string s] 47)).alloc (.cells #[.int .i64 n0, .string s, .int .i64 n1] 88)).alloc (.cells #[.string key, .int .i64 n0, .string s, .int .i64 n1] 91)).alloc (.cells #[.int .i64 n0, .int .i64 n1] 83)).alloc (.cells #[.int .i64 n0, .int .i64 n1, .int .i64 n2, .int .i64 n3, .int .i64 n4] 95)).alloc (.cells #[.int .i64 n0, .int .i64 n0, .int .i64 n1, .int .i64 n2, .int .i64 n3, .int .i64 n4, .int .i64 n5, .int .i64 n6, .int .i64 n7, .int .i64 n1] 85)).alloc (.cells #[.string key, .int .i64 n0, .string s, .int .i64 n1] 91)).alloc (.cells #[.int .i64 n0, .int .i64 n1, .int .i64 n0, .int .i64 n1] 83)).alloc (.cells #[.int .i64 n0, .int .i64 n1, .int .i64 n2, .int .i64 n3, .int .i64 n4, .int .i64 n5, .string key, .string s, .string key, .int .i64 n6, .int .i64 n7, .bool (decide (0 < n0)), .slice (some ⟨w.heap.size + 6, 0, none⟩) 1 1, .slice (some ⟨w.heap.size + 7, 0, none⟩) 2 2] 54)) (some ⟨g, 0, none⟩) fs) := Lib.hid (Or.inr ⟨g, rfl, hW.below HB0.out⟩)
  have Hblk : Hid ((((((((((w.alloc (.cells #[.int .u8 k, .int .i64 n0, .int .i64 n1, .int .i64 n2, .int .i64 n3, .int .i64 n4, .int .i64 n5, .int .i64 n6, .int .i64 n7, .string key, .string s] 47)).alloc (.cells #[.int .i64 n0, .string s, .int .i64 n1] 88)).alloc (.cells #[.string key, .int .i64 n0, .string s, .int .i64 n1] 91)).alloc (.cells #[.int .i64 n0, .int .i64 n1] 83)).alloc (.cells #[.int .i64 n0, .int .i64 n1, .int .i64 n2, .int .i64 n3, .int .i64 n4] 95)).alloc (.cells #[.int .i64 n0, .int .i64 n0, .int .i64 n1, .int .i64 n2, .int .i64 n3, .int .i64 n4, .int .i64 n5, .int .i64 n6, .int .i64 n7, .int .i64 n1] 85)).alloc (.cells #[.string key, .int .i64 n0, .string s, .int .i64 n1] 91)).alloc (.cells #[.int .i64 n0, .int .i64 n1, .int .i64 n0, .int .i64 n1] 83)).alloc (.cells #[.int .i64 n0, .int .i64 n1, .int .i64 n2, .int .i64 n3, .int .i64 n4, .int .i64 n5, .string key, .string s, .string key, .int .i64 n6, .int .i64 n7, .bool (decide (0 < n0)), .slice (some ⟨w.heap.size + 6, 0, none⟩) 1 1, .slice (some ⟨w.heap.size + 7, 0, none⟩) 2 2] 54)).heap[w.heap.size + 4]? = some (.cells #[.int .i64 n0, .int .i64 n1, .int .i64 n2, .int .i64 n3, .int .i64 n4] 95 (0, 0))) := Lib.hid (nine4 _ _ _ _ _ _ _ _ _ _)
  have HF : Hid (0 < (nums [n0, n1, n2, n3, n4]).length ∧ (nums [n0, n1, n2, n3, n4]).length ≤ 100000) := Lib.hid (by
    have h1 := nums_len [n0, n1, n2, n3, n4] (by intro n hn; apply hin; simp at hn ⊢; omega)
    simp only [List.length_cons, List.length_nil] at h1
    exact ⟨nums_pos _ (by simp), by omega⟩)
  have hkw : k.tmod 9 = 6 := by rw [Int.tmod_eq_emod_of_nonneg hk0]; exact hkj
  have Hin := Lib.hid hin
  clear hW hin _u1 _u2 _u3
  go_enter Try.func24, Try.ntmps24
  go_wp2_with fail
  refine (w_exchange (some ⟨g, 0, none⟩) fs n0 n1 n2 n3 n4 (by intro n hn; apply Hin.out; simp at hn ⊢; omega) htot _ HW0.out).mono ?_
  rintro e w1 ⟨rfl, hq, hg⟩
  have HW1 := Lib.hid (WS.gq hq)
  have HG : Hid (w.grownBy w1 (some g)) := Lib.hid (grown_trans (grown_below HB0.out _) hg)
  have hb1 := (hg.block (w.heap.size + 4) (Array.getElem?_eq_some_iff.1 Hblk.out).1 (fun e => by have := Option.some.inj e; simp at this; omega)).trans Hblk.out
  have c0 := cell_of_row w1 (w.heap.size + 4) 0 _ _ _ hb1
  have c1 := cell_of_row w1 (w.heap.size + 4) 1 _ _ _ hb1
  have c2 := cell_of_row w1 (w.heap.size + 4) 2 _ _ _ hb1
  have c3 := cell_of_row w1 (w.heap.size + 4) 3 _ _ _ hb1
  have c4 := cell_of_row w1 (w.heap.size + 4) 4 _ _ _ hb1
  clear hq hg hb1
  go_wp2_with fail
  refine (ref_exchange n0 n1 n2 n3 n4 i0 i1 i2 i3 i4 w1).mono ?_
  rintro e w2 ⟨rfl, hb⟩
  have HB2 := Lib.hid hb
  clear hb
  go_wp2_with fail
  go_ret
  exact ⟨nums [n0, n1, n2, n3, n4], HF.out.1, HF.out.2, rfl, HW1.out.below HB2.out, grown_trans HG.out (grown_below HB2.out _)⟩

set_option maxRecDepth 100000 in
set_option maxHeartbeats 4000000 in
theorem part_7 (g : Nat) (fs : List (List UInt8)) (htot : total fs ≤ 1000000) (k n0 n1 n2 n3 n4 n5 n6 n7 : Int) (key s : ByteArray) (hk0 : 0 ≤ k) (hk1 : k ≤ 255) (hin : ∀ n ∈ [n0, n1, n2, n3, n4, n5, n6, n7], In64 n) (hkey : key.size ≤ 50) (hs : s.size ≤ 50) (hkj : k % 9 = 7) (w : World) (hW : WS w g fs) :
    Calls Try.prog 24 #[.pointer (some ⟨g, 0, none⟩), .agg #[.int .u8 k, .int .i64 n0, .int .i64 n1, .int .i64 n2, .int .i64 n3, .int .i64 n4, .int .i64 n5, .int .i64 n6, .int .i64 n7, .string key, .string s]] w (PartPost w g fs) := by
  have _u1 := hk1
  have _u2 := hkey
  have _u3 := hs
  have i0 := hin n0 (by simp)
  have i1 := hin n1 (by simp)
  have i2 := hin n2 (by simp)
  have i3 := hin n3 (by simp)
  have i4 := hin n4 (by simp)
  have i5 := hin n5 (by simp)
  have i6 := hin n6 (by simp)
  have i7 := hin n7 (by simp)
  have hglt := hW.lt
  have HB0 : Hid (Below w.heap.size w (((((((((w.alloc (.cells #[.int .u8 k, .int .i64 n0, .int .i64 n1, .int .i64 n2, .int .i64 n3, .int .i64 n4, .int .i64 n5, .int .i64 n6, .int .i64 n7, .string key, .string s] 47)).alloc (.cells #[.int .i64 n0, .string s, .int .i64 n1] 88)).alloc (.cells #[.string key, .int .i64 n0, .string s, .int .i64 n1] 91)).alloc (.cells #[.int .i64 n0, .int .i64 n1] 83)).alloc (.cells #[.int .i64 n0, .int .i64 n1, .int .i64 n2, .int .i64 n3, .int .i64 n4] 95)).alloc (.cells #[.int .i64 n0, .int .i64 n0, .int .i64 n1, .int .i64 n2, .int .i64 n3, .int .i64 n4, .int .i64 n5, .int .i64 n6, .int .i64 n7, .int .i64 n1] 85)).alloc (.cells #[.string key, .int .i64 n0, .string s, .int .i64 n1] 91)).alloc (.cells #[.int .i64 n0, .int .i64 n1, .int .i64 n0, .int .i64 n1] 83)).alloc (.cells #[.int .i64 n0, .int .i64 n1, .int .i64 n2, .int .i64 n3, .int .i64 n4, .int .i64 n5, .string key, .string s, .string key, .int .i64 n6, .int .i64 n7, .bool (decide (0 < n0)), .slice (some ⟨w.heap.size + 6, 0, none⟩) 1 1, .slice (some ⟨w.heap.size + 7, 0, none⟩) 2 2] 54))) := Lib.hid (by
    (repeat' (first | exact Below.refl _ _ | refine Below.alloc ?_ (by simp <;> omega) _)))
  have HW0 : Hid (WQ (((((((((w.alloc (.cells #[.int .u8 k, .int .i64 n0, .int .i64 n1, .int .i64 n2, .int .i64 n3, .int .i64 n4, .int .i64 n5, .int .i64 n6, .int .i64 n7, .string key, .string s] 47)).alloc (.cells #[.int .i64 n0, .string s, .int .i64 n1] 88)).alloc (.cells #[.string key, .int .i64 n0, .string s, .int .i64 n1] 91)).alloc (.cells #[.int .i64 n0, .int .i64 n1] 83)).alloc (.cells #[.int .i64 n0, .int .i64 n1, .int .i64 n2, .int .i64 n3, .int .i64 n4] 95)).alloc (.cells #[.int .i64 n0, .int .i64 n0, .int .i64 n1, .int .i64 n2, .int .i64 n3, .int .i64 n4, .int .i64 n5, .int .i64 n6, .int .i64 n7, .int .i64 n1] 85)).alloc (.cells #[.string key, .int .i64 n0, .string s, .int .i64 n1] 91)).alloc (.cells #[.int .i64 n0, .int .i64 n1, .int .i64 n0, .int .i64 n1] 83)).alloc (.cells #[.int .i64 n0, .int .i64 n1, .int .i64 n2, .int .i64 n3, .int .i64 n4, .int .i64 n5, .string key, .string s, .string key, .int .i64 n6, .int .i64 n7, .bool (decide (0 < n0)), .slice (some ⟨w.heap.size + 6, 0, none⟩) 1 1, .slice (some ⟨w.heap.size + 7, 0, none⟩) 2 2] 54)) (some ⟨g, 0, none⟩) fs) := Lib.hid (Or.inr ⟨g, rfl, hW.below HB0.out⟩)
  have Hblk : Hid ((((((((((w.alloc (.cells #[.int .u8 k, .int .i64 n0, .int .i64 n1, .int .i64 n2, .int .i64 n3, .int .i64 n4, .int .i64 n5, .int .i64 n6, .int .i64 n7, .string key, .string s] 47)).alloc (.cells #[.int .i64 n0, .string s, .int .i64 n1] 88)).alloc (.cells #[.string key, .int .i64 n0, .string s, .int .i64 n1] 91)).alloc (.cells #[.int .i64 n0, .int .i64 n1] 83)).alloc (.cells #[.int .i64 n0, .int .i64 n1, .int .i64 n2, .int .i64 n3, .int .i64 n4] 95)).alloc (.cells #[.int .i64 n0, .int .i64 n0, .int .i64 n1, .int .i64 n2, .int .i64 n3, .int .i64 n4, .int .i64 n5, .int .i64 n6, .int .i64 n7, .int .i64 n1] 85)).alloc (.cells #[.string key, .int .i64 n0, .string s, .int .i64 n1] 91)).alloc (.cells #[.int .i64 n0, .int .i64 n1, .int .i64 n0, .int .i64 n1] 83)).alloc (.cells #[.int .i64 n0, .int .i64 n1, .int .i64 n2, .int .i64 n3, .int .i64 n4, .int .i64 n5, .string key, .string s, .string key, .int .i64 n6, .int .i64 n7, .bool (decide (0 < n0)), .slice (some ⟨w.heap.size + 6, 0, none⟩) 1 1, .slice (some ⟨w.heap.size + 7, 0, none⟩) 2 2] 54)).heap[w.heap.size + 5]? = some (.cells #[.int .i64 n0, .int .i64 n0, .int .i64 n1, .int .i64 n2, .int .i64 n3, .int .i64 n4, .int .i64 n5, .int .i64 n6, .int .i64 n7, .int .i64 n1] 85 (0, 0))) := Lib.hid (nine5 _ _ _ _ _ _ _ _ _ _)
  have HF : Hid (0 < (msgF n0 n0 n1 n2 n3 n4 n5 n6 n7 n1).length ∧ (msgF n0 n0 n1 n2 n3 n4 n5 n6 n7 n1).length ≤ 100000) := Lib.hid (by
    have e : msgF n0 n0 n1 n2 n3 n4 n5 n6 n7 n1 = nums [n0, n0, n1, n2, n3, n4, n5, n6, n7, n1] := by simp [msgF, nums]
    have h1 := nums_len [n0, n0, n1, n2, n3, n4, n5, n6, n7, n1] (by intro n hn; apply hin; simp at hn ⊢; omega)
    simp only [List.length_cons, List.length_nil] at h1
    rw [e]
    exact ⟨nums_pos _ (by simp), by omega⟩)
  have hkw : k.tmod 9 = 7 := by rw [Int.tmod_eq_emod_of_nonneg hk0]; exact hkj
  have Hin := Lib.hid hin
  clear hW hin _u1 _u2 _u3
  go_enter Try.func24, Try.ntmps24
  go_wp2_with fail
  refine (w_message (some ⟨g, 0, none⟩) fs n0 n0 n1 n2 n3 n4 n5 n6 n7 n1 (by intro n hn; apply Hin.out; simp at hn ⊢; omega) htot _ HW0.out).mono ?_
  rintro e w1 ⟨rfl, hq, hg⟩
  have HW1 := Lib.hid (WS.gq hq)
  have HG : Hid (w.grownBy w1 (some g)) := Lib.hid (grown_trans (grown_below HB0.out _) hg)
  have hb1 := (hg.block (w.heap.size + 5) (Array.getElem?_eq_some_iff.1 Hblk.out).1 (fun e => by have := Option.some.inj e; simp at this; omega)).trans Hblk.out
  have c0 := cell_of_row w1 (w.heap.size + 5) 0 _ _ _ hb1
  have c1 := cell_of_row w1 (w.heap.size + 5) 1 _ _ _ hb1
  have c2 := cell_of_row w1 (w.heap.size + 5) 2 _ _ _ hb1
  have c3 := cell_of_row w1 (w.heap.size + 5) 3 _ _ _ hb1
  have c4 := cell_of_row w1 (w.heap.size + 5) 4 _ _ _ hb1
  have c5 := cell_of_row w1 (w.heap.size + 5) 5 _ _ _ hb1
  have c6 := cell_of_row w1 (w.heap.size + 5) 6 _ _ _ hb1
  have c7 := cell_of_row w1 (w.heap.size + 5) 7 _ _ _ hb1
  have c8 := cell_of_row w1 (w.heap.size + 5) 8 _ _ _ hb1
  have c9 := cell_of_row w1 (w.heap.size + 5) 9 _ _ _ hb1
  clear hq hg hb1
  go_wp2_with fail
  refine (ref_message n0 n0 n1 n2 n3 n4 n5 n6 n7 n1 i0 i0 i1 i2 i3 i4 i5 i6 i7 i1 w1).mono ?_
  rintro e w2 ⟨rfl, hb⟩
  have HB2 := Lib.hid hb
  clear hb
  go_wp2_with fail
  go_ret
  exact ⟨msgF n0 n0 n1 n2 n3 n4 n5 n6 n7 n1, HF.out.1, HF.out.2, rfl, HW1.out.below HB2.out, grown_trans HG.out (grown_below HB2.out _)⟩

end Go.Proofs.Ytnblechnalnghaa
