/- The law's part: a span; any part (written by wip/bin/gen_pt.py). -/
import Derived.Test.YtnblechnalnghaaPt
namespace Go.Proofs.Ytnblechnalnghaa
open Go.ChangeShapes Go.WideShapes Go.ChangeAt Go.RowKit En

theorem rs_blk {w : World} {g B : Nat} {cs : List Value} {t : TypeId} (h : w.heap[g]? = some (.cells cs.toArray t (0, 0))) (hB : g < B) : Rs w B (some ⟨g, 0, none⟩) cs := fun j hj =>
  ⟨g, 0, rfl, hB, by rw [Nat.zero_add, cell_of_row w g j _ _ _ h]; simp [hj]⟩

set_option maxRecDepth 100000 in
set_option maxHeartbeats 4000000 in
theorem part_8 (g : Nat) (fs : List (List UInt8)) (htot : total fs ≤ 1000000) (k n0 n1 n2 n3 n4 n5 n6 n7 : Int) (key s : ByteArray) (hk0 : 0 ≤ k) (hin : ∀ n ∈ [n0, n1, n2, n3, n4, n5, n6, n7], In64 n) (hkey : key.size ≤ 50) (hs : s.size ≤ 50) (hkj : k % 9 = 8) (w : World) (hW : WS w g fs) :
    Calls Try.prog 24 #[.pointer (some ⟨g, 0, none⟩), .agg #[.int .u8 k, .int .i64 n0, .int .i64 n1, .int .i64 n2, .int .i64 n3, .int .i64 n4, .int .i64 n5, .int .i64 n6, .int .i64 n7, .string key, .string s]] w (PartPost w g fs) := by
  have i0 := hin n0 (by simp)
  have i1 := hin n1 (by simp)
  have ok : Sp.Ok ⟨n0, n1, n2, n3, n4, n5, key, s, key, n6, n7, decide (0 < n0), [⟨key, n0, s, n1⟩], [(n0, n1), (n0, n1)]⟩ := by
    refine ⟨?_, by show key.size ≤ _; omega, by show s.size ≤ _; omega, by show key.size ≤ _; omega, ?_, ?_, ?_, by simp, by simp, ?_, ?_⟩
    · intro n hn; apply hin; simp at hn ⊢; omega
    · intro n hn; apply hin; simp at hn ⊢; omega
    · intro a ha; simp at ha; subst ha; exact ⟨by show key.size ≤ _; omega, by show s.size ≤ _; omega, i0, i1⟩
    · intro a ha; simp at ha; subst ha; exact ⟨i0, i1⟩
    · have := At.form_len (a := ⟨key, n0, s, n1⟩) ⟨by show key.size ≤ _; omega, by show s.size ≤ _; omega, i0, i1⟩
      show (atForms [⟨key, n0, s, n1⟩]).length ≤ _
      simp only [atForms, List.flatMap_cons, List.flatMap_nil, List.append_nil]; omega
    · have := nums_len [n0, n1] (by intro n hn; apply hin; simp at hn ⊢; omega)
      show (rfForms [(n0, n1), (n0, n1)]).length ≤ _
      simp only [rfForms, rfForm, List.flatMap_cons, List.flatMap_nil, List.append_nil, List.length_append]
      simp at this; omega
  have hfl : 0 < (Sp.form ⟨n0, n1, n2, n3, n4, n5, key, s, key, n6, n7, decide (0 < n0), [⟨key, n0, s, n1⟩], [(n0, n1), (n0, n1)]⟩).length ∧ (Sp.form ⟨n0, n1, n2, n3, n4, n5, key, s, key, n6, n7, decide (0 < n0), [⟨key, n0, s, n1⟩], [(n0, n1), (n0, n1)]⟩).length ≤ 100000 := by
    have h1 := nums_len [n0, n1, n2, n3, n4, n5] (by intro n hn; apply hin; simp at hn ⊢; omega)
    have h1p := nums_pos [n0, n1, n2, n3, n4, n5] (by simp)
    have h2 := nums_len [n6, n7] (by intro n hn; apply hin; simp at hn ⊢; omega)
    have h3 := text_bound key (by omega)
    have h4 := text_bound s (by omega)
    have h5 := boolF_bound (decide (0 < n0))
    have h6 := At.form_len (a := ⟨key, n0, s, n1⟩) ⟨by show key.size ≤ _; omega, by show s.size ≤ _; omega, i0, i1⟩
    have h7 := nums_len [n0, n1] (by intro n hn; apply hin; simp at hn ⊢; omega)
    have h8 := num_bounds 1 (by omega) (by omega)
    have h9 := num_bounds 2 (by omega) (by omega)
    unfold Sp.form
    simp only [List.length_append, List.length_cons, List.length_nil, atForms, rfForms, rfForm, List.flatMap_cons, List.flatMap_nil] at h1 h2 h7 ⊢
    have e1 : ((0 + 1 : Nat) : Int) = 1 := rfl
    have e2 : ((0 + 1 + 1 : Nat) : Int) = 2 := rfl
    rw [e1, e2]
    omega
  have hglt := hW.lt
  have HB0 : Hid (Below w.heap.size w (((((((((w.alloc (.cells #[.int .u8 k, .int .i64 n0, .int .i64 n1, .int .i64 n2, .int .i64 n3, .int .i64 n4, .int .i64 n5, .int .i64 n6, .int .i64 n7, .string key, .string s] 47)).alloc (.cells #[.int .i64 n0, .string s, .int .i64 n1] 88)).alloc (.cells #[.string key, .int .i64 n0, .string s, .int .i64 n1] 91)).alloc (.cells #[.int .i64 n0, .int .i64 n1] 83)).alloc (.cells #[.int .i64 n0, .int .i64 n1, .int .i64 n2, .int .i64 n3, .int .i64 n4] 95)).alloc (.cells #[.int .i64 n0, .int .i64 n0, .int .i64 n1, .int .i64 n2, .int .i64 n3, .int .i64 n4, .int .i64 n5, .int .i64 n6, .int .i64 n7, .int .i64 n1] 85)).alloc (.cells #[.string key, .int .i64 n0, .string s, .int .i64 n1] 91)).alloc (.cells #[.int .i64 n0, .int .i64 n1, .int .i64 n0, .int .i64 n1] 83)).alloc (.cells #[.int .i64 n0, .int .i64 n1, .int .i64 n2, .int .i64 n3, .int .i64 n4, .int .i64 n5, .string key, .string s, .string key, .int .i64 n6, .int .i64 n7, .bool (decide (0 < n0)), .slice (some ⟨w.heap.size + 6, 0, none⟩) 1 1, .slice (some ⟨w.heap.size + 7, 0, none⟩) 2 2] 54))) := Lib.hid (by
    (repeat' (first | exact Below.refl _ _ | refine Below.alloc ?_ (by simp <;> omega) _)))
  have HW0 : Hid (WQ (((((((((w.alloc (.cells #[.int .u8 k, .int .i64 n0, .int .i64 n1, .int .i64 n2, .int .i64 n3, .int .i64 n4, .int .i64 n5, .int .i64 n6, .int .i64 n7, .string key, .string s] 47)).alloc (.cells #[.int .i64 n0, .string s, .int .i64 n1] 88)).alloc (.cells #[.string key, .int .i64 n0, .string s, .int .i64 n1] 91)).alloc (.cells #[.int .i64 n0, .int .i64 n1] 83)).alloc (.cells #[.int .i64 n0, .int .i64 n1, .int .i64 n2, .int .i64 n3, .int .i64 n4] 95)).alloc (.cells #[.int .i64 n0, .int .i64 n0, .int .i64 n1, .int .i64 n2, .int .i64 n3, .int .i64 n4, .int .i64 n5, .int .i64 n6, .int .i64 n7, .int .i64 n1] 85)).alloc (.cells #[.string key, .int .i64 n0, .string s, .int .i64 n1] 91)).alloc (.cells #[.int .i64 n0, .int .i64 n1, .int .i64 n0, .int .i64 n1] 83)).alloc (.cells #[.int .i64 n0, .int .i64 n1, .int .i64 n2, .int .i64 n3, .int .i64 n4, .int .i64 n5, .string key, .string s, .string key, .int .i64 n6, .int .i64 n7, .bool (decide (0 < n0)), .slice (some ⟨w.heap.size + 6, 0, none⟩) 1 1, .slice (some ⟨w.heap.size + 7, 0, none⟩) 2 2] 54)) (some ⟨g, 0, none⟩) fs) := Lib.hid (Or.inr ⟨g, rfl, hW.below HB0.out⟩)
  have H8 : Hid ((((((((((w.alloc (.cells #[.int .u8 k, .int .i64 n0, .int .i64 n1, .int .i64 n2, .int .i64 n3, .int .i64 n4, .int .i64 n5, .int .i64 n6, .int .i64 n7, .string key, .string s] 47)).alloc (.cells #[.int .i64 n0, .string s, .int .i64 n1] 88)).alloc (.cells #[.string key, .int .i64 n0, .string s, .int .i64 n1] 91)).alloc (.cells #[.int .i64 n0, .int .i64 n1] 83)).alloc (.cells #[.int .i64 n0, .int .i64 n1, .int .i64 n2, .int .i64 n3, .int .i64 n4] 95)).alloc (.cells #[.int .i64 n0, .int .i64 n0, .int .i64 n1, .int .i64 n2, .int .i64 n3, .int .i64 n4, .int .i64 n5, .int .i64 n6, .int .i64 n7, .int .i64 n1] 85)).alloc (.cells #[.string key, .int .i64 n0, .string s, .int .i64 n1] 91)).alloc (.cells #[.int .i64 n0, .int .i64 n1, .int .i64 n0, .int .i64 n1] 83)).alloc (.cells #[.int .i64 n0, .int .i64 n1, .int .i64 n2, .int .i64 n3, .int .i64 n4, .int .i64 n5, .string key, .string s, .string key, .int .i64 n6, .int .i64 n7, .bool (decide (0 < n0)), .slice (some ⟨w.heap.size + 6, 0, none⟩) 1 1, .slice (some ⟨w.heap.size + 7, 0, none⟩) 2 2] 54)).heap[w.heap.size + 8]? = some (.cells #[.int .i64 n0, .int .i64 n1, .int .i64 n2, .int .i64 n3, .int .i64 n4, .int .i64 n5, .string key, .string s, .string key, .int .i64 n6, .int .i64 n7, .bool (decide (0 < n0)), .slice (some ⟨w.heap.size + 6, 0, none⟩) 1 1, .slice (some ⟨w.heap.size + 7, 0, none⟩) 2 2] 54 (0, 0))) := Lib.hid (nine8 _ _ _ _ _ _ _ _ _ _)
  have H6 : Hid ((((((((((w.alloc (.cells #[.int .u8 k, .int .i64 n0, .int .i64 n1, .int .i64 n2, .int .i64 n3, .int .i64 n4, .int .i64 n5, .int .i64 n6, .int .i64 n7, .string key, .string s] 47)).alloc (.cells #[.int .i64 n0, .string s, .int .i64 n1] 88)).alloc (.cells #[.string key, .int .i64 n0, .string s, .int .i64 n1] 91)).alloc (.cells #[.int .i64 n0, .int .i64 n1] 83)).alloc (.cells #[.int .i64 n0, .int .i64 n1, .int .i64 n2, .int .i64 n3, .int .i64 n4] 95)).alloc (.cells #[.int .i64 n0, .int .i64 n0, .int .i64 n1, .int .i64 n2, .int .i64 n3, .int .i64 n4, .int .i64 n5, .int .i64 n6, .int .i64 n7, .int .i64 n1] 85)).alloc (.cells #[.string key, .int .i64 n0, .string s, .int .i64 n1] 91)).alloc (.cells #[.int .i64 n0, .int .i64 n1, .int .i64 n0, .int .i64 n1] 83)).alloc (.cells #[.int .i64 n0, .int .i64 n1, .int .i64 n2, .int .i64 n3, .int .i64 n4, .int .i64 n5, .string key, .string s, .string key, .int .i64 n6, .int .i64 n7, .bool (decide (0 < n0)), .slice (some ⟨w.heap.size + 6, 0, none⟩) 1 1, .slice (some ⟨w.heap.size + 7, 0, none⟩) 2 2] 54)).heap[w.heap.size + 6]? = some (.cells #[.string key, .int .i64 n0, .string s, .int .i64 n1] 91 (0, 0))) := Lib.hid (nine6 _ _ _ _ _ _ _ _ _ _)
  have H7 : Hid ((((((((((w.alloc (.cells #[.int .u8 k, .int .i64 n0, .int .i64 n1, .int .i64 n2, .int .i64 n3, .int .i64 n4, .int .i64 n5, .int .i64 n6, .int .i64 n7, .string key, .string s] 47)).alloc (.cells #[.int .i64 n0, .string s, .int .i64 n1] 88)).alloc (.cells #[.string key, .int .i64 n0, .string s, .int .i64 n1] 91)).alloc (.cells #[.int .i64 n0, .int .i64 n1] 83)).alloc (.cells #[.int .i64 n0, .int .i64 n1, .int .i64 n2, .int .i64 n3, .int .i64 n4] 95)).alloc (.cells #[.int .i64 n0, .int .i64 n0, .int .i64 n1, .int .i64 n2, .int .i64 n3, .int .i64 n4, .int .i64 n5, .int .i64 n6, .int .i64 n7, .int .i64 n1] 85)).alloc (.cells #[.string key, .int .i64 n0, .string s, .int .i64 n1] 91)).alloc (.cells #[.int .i64 n0, .int .i64 n1, .int .i64 n0, .int .i64 n1] 83)).alloc (.cells #[.int .i64 n0, .int .i64 n1, .int .i64 n2, .int .i64 n3, .int .i64 n4, .int .i64 n5, .string key, .string s, .string key, .int .i64 n6, .int .i64 n7, .bool (decide (0 < n0)), .slice (some ⟨w.heap.size + 6, 0, none⟩) 1 1, .slice (some ⟨w.heap.size + 7, 0, none⟩) 2 2] 54)).heap[w.heap.size + 7]? = some (.cells #[.int .i64 n0, .int .i64 n1, .int .i64 n0, .int .i64 n1] 83 (0, 0))) := Lib.hid (nine7 _ _ _ _ _ _ _ _ _ _)
  have hlt8 : w.heap.size + 8 < ((((((((((w.alloc (.cells #[.int .u8 k, .int .i64 n0, .int .i64 n1, .int .i64 n2, .int .i64 n3, .int .i64 n4, .int .i64 n5, .int .i64 n6, .int .i64 n7, .string key, .string s] 47)).alloc (.cells #[.int .i64 n0, .string s, .int .i64 n1] 88)).alloc (.cells #[.string key, .int .i64 n0, .string s, .int .i64 n1] 91)).alloc (.cells #[.int .i64 n0, .int .i64 n1] 83)).alloc (.cells #[.int .i64 n0, .int .i64 n1, .int .i64 n2, .int .i64 n3, .int .i64 n4] 95)).alloc (.cells #[.int .i64 n0, .int .i64 n0, .int .i64 n1, .int .i64 n2, .int .i64 n3, .int .i64 n4, .int .i64 n5, .int .i64 n6, .int .i64 n7, .int .i64 n1] 85)).alloc (.cells #[.string key, .int .i64 n0, .string s, .int .i64 n1] 91)).alloc (.cells #[.int .i64 n0, .int .i64 n1, .int .i64 n0, .int .i64 n1] 83)).alloc (.cells #[.int .i64 n0, .int .i64 n1, .int .i64 n2, .int .i64 n3, .int .i64 n4, .int .i64 n5, .string key, .string s, .string key, .int .i64 n6, .int .i64 n7, .bool (decide (0 < n0)), .slice (some ⟨w.heap.size + 6, 0, none⟩) 1 1, .slice (some ⟨w.heap.size + 7, 0, none⟩) 2 2] 54))).heap.size := (Array.getElem?_eq_some_iff.1 H8.out).1
  have hHas : Sp.Has (((((((((w.alloc (.cells #[.int .u8 k, .int .i64 n0, .int .i64 n1, .int .i64 n2, .int .i64 n3, .int .i64 n4, .int .i64 n5, .int .i64 n6, .int .i64 n7, .string key, .string s] 47)).alloc (.cells #[.int .i64 n0, .string s, .int .i64 n1] 88)).alloc (.cells #[.string key, .int .i64 n0, .string s, .int .i64 n1] 91)).alloc (.cells #[.int .i64 n0, .int .i64 n1] 83)).alloc (.cells #[.int .i64 n0, .int .i64 n1, .int .i64 n2, .int .i64 n3, .int .i64 n4] 95)).alloc (.cells #[.int .i64 n0, .int .i64 n0, .int .i64 n1, .int .i64 n2, .int .i64 n3, .int .i64 n4, .int .i64 n5, .int .i64 n6, .int .i64 n7, .int .i64 n1] 85)).alloc (.cells #[.string key, .int .i64 n0, .string s, .int .i64 n1] 91)).alloc (.cells #[.int .i64 n0, .int .i64 n1, .int .i64 n0, .int .i64 n1] 83)).alloc (.cells #[.int .i64 n0, .int .i64 n1, .int .i64 n2, .int .i64 n3, .int .i64 n4, .int .i64 n5, .string key, .string s, .string key, .int .i64 n6, .int .i64 n7, .bool (decide (0 < n0)), .slice (some ⟨w.heap.size + 6, 0, none⟩) 1 1, .slice (some ⟨w.heap.size + 7, 0, none⟩) 2 2] 54)) ((((((((((w.alloc (.cells #[.int .u8 k, .int .i64 n0, .int .i64 n1, .int .i64 n2, .int .i64 n3, .int .i64 n4, .int .i64 n5, .int .i64 n6, .int .i64 n7, .string key, .string s] 47)).alloc (.cells #[.int .i64 n0, .string s, .int .i64 n1] 88)).alloc (.cells #[.string key, .int .i64 n0, .string s, .int .i64 n1] 91)).alloc (.cells #[.int .i64 n0, .int .i64 n1] 83)).alloc (.cells #[.int .i64 n0, .int .i64 n1, .int .i64 n2, .int .i64 n3, .int .i64 n4] 95)).alloc (.cells #[.int .i64 n0, .int .i64 n0, .int .i64 n1, .int .i64 n2, .int .i64 n3, .int .i64 n4, .int .i64 n5, .int .i64 n6, .int .i64 n7, .int .i64 n1] 85)).alloc (.cells #[.string key, .int .i64 n0, .string s, .int .i64 n1] 91)).alloc (.cells #[.int .i64 n0, .int .i64 n1, .int .i64 n0, .int .i64 n1] 83)).alloc (.cells #[.int .i64 n0, .int .i64 n1, .int .i64 n2, .int .i64 n3, .int .i64 n4, .int .i64 n5, .string key, .string s, .string key, .int .i64 n6, .int .i64 n7, .bool (decide (0 < n0)), .slice (some ⟨w.heap.size + 6, 0, none⟩) 1 1, .slice (some ⟨w.heap.size + 7, 0, none⟩) 2 2] 54))).heap.size ⟨n0, n1, n2, n3, n4, n5, key, s, key, n6, n7, decide (0 < n0), [⟨key, n0, s, n1⟩], [(n0, n1), (n0, n1)]⟩ (.slice (some ⟨w.heap.size + 6, 0, none⟩) 1 1) (.slice (some ⟨w.heap.size + 7, 0, none⟩) 2 2) :=
    ⟨_, _, _, _, rfl, rfl, rs_blk (cs := [.string key, .int .i64 n0, .string s, .int .i64 n1]) H6.out (by omega), rs_blk (cs := [.int .i64 n0, .int .i64 n1, .int .i64 n0, .int .i64 n1]) H7.out (by omega)⟩
  have hws := w_span (some ⟨g, 0, none⟩) fs ⟨n0, n1, n2, n3, n4, n5, key, s, key, n6, n7, decide (0 < n0), [⟨key, n0, s, n1⟩], [(n0, n1), (n0, n1)]⟩ ok (by omega) (.slice (some ⟨w.heap.size + 6, 0, none⟩) 1 1) (.slice (some ⟨w.heap.size + 7, 0, none⟩) 2 2) htot _ HW0.out hHas
  obtain ⟨F, hF⟩ : ∃ F, F = Sp.form ⟨n0, n1, n2, n3, n4, n5, key, s, key, n6, n7, decide (0 < n0), [⟨key, n0, s, n1⟩], [(n0, n1), (n0, n1)]⟩ := ⟨_, rfl⟩
  rw [← hF] at hws hfl
  have hrs : Hid (∀ W, Sp.Has W W.heap.size ⟨n0, n1, n2, n3, n4, n5, key, s, key, n6, n7, decide (0 < n0), [⟨key, n0, s, n1⟩], [(n0, n1), (n0, n1)]⟩ (.slice (some ⟨w.heap.size + 6, 0, none⟩) 1 1) (.slice (some ⟨w.heap.size + 7, 0, none⟩) 2 2) → Calls Try.prog 28 #[.agg #[.int .i64 n0, .int .i64 n1, .int .i64 n2, .int .i64 n3, .int .i64 n4, .int .i64 n5, .string key, .string s, .string key, .int .i64 n6, .int .i64 n7, .bool (decide (0 < n0)), .slice (some ⟨w.heap.size + 6, 0, none⟩) 1 1, .slice (some ⟨w.heap.size + 7, 0, none⟩) 2 2]] W fun e w' => e = .returned (.string (bytesOf F)) ∧ Below W.heap.size W w') := Lib.hid (fun W h => by
    have := ref_span ⟨n0, n1, n2, n3, n4, n5, key, s, key, n6, n7, decide (0 < n0), [⟨key, n0, s, n1⟩], [(n0, n1), (n0, n1)]⟩ ok (.slice (some ⟨w.heap.size + 6, 0, none⟩) 1 1) (.slice (some ⟨w.heap.size + 7, 0, none⟩) 2 2) W h
    rw [← hF] at this
    exact this)
  have HFl := Lib.hid hfl
  have hkw : k.tmod 9 = 8 := by rw [Int.tmod_eq_emod_of_nonneg hk0]; exact hkj
  clear hW hin ok hHas hF hfl hlt8
  go_enter Try.func24, Try.ntmps24
  go_wp2_with fail
  refine hws.mono ?_
  rintro e w1 ⟨rfl, hq, hg⟩
  have HW1 := Lib.hid (WS.gq hq)
  have HG : Hid (w.grownBy w1 (some g)) := Lib.hid (grown_trans (grown_below HB0.out _) hg)
  have keep : ∀ (i : Nat) (o : Obj), w.heap.size ≤ i → (((((((((w.alloc (.cells #[.int .u8 k, .int .i64 n0, .int .i64 n1, .int .i64 n2, .int .i64 n3, .int .i64 n4, .int .i64 n5, .int .i64 n6, .int .i64 n7, .string key, .string s] 47)).alloc (.cells #[.int .i64 n0, .string s, .int .i64 n1] 88)).alloc (.cells #[.string key, .int .i64 n0, .string s, .int .i64 n1] 91)).alloc (.cells #[.int .i64 n0, .int .i64 n1] 83)).alloc (.cells #[.int .i64 n0, .int .i64 n1, .int .i64 n2, .int .i64 n3, .int .i64 n4] 95)).alloc (.cells #[.int .i64 n0, .int .i64 n0, .int .i64 n1, .int .i64 n2, .int .i64 n3, .int .i64 n4, .int .i64 n5, .int .i64 n6, .int .i64 n7, .int .i64 n1] 85)).alloc (.cells #[.string key, .int .i64 n0, .string s, .int .i64 n1] 91)).alloc (.cells #[.int .i64 n0, .int .i64 n1, .int .i64 n0, .int .i64 n1] 83)).alloc (.cells #[.int .i64 n0, .int .i64 n1, .int .i64 n2, .int .i64 n3, .int .i64 n4, .int .i64 n5, .string key, .string s, .string key, .int .i64 n6, .int .i64 n7, .bool (decide (0 < n0)), .slice (some ⟨w.heap.size + 6, 0, none⟩) 1 1, .slice (some ⟨w.heap.size + 7, 0, none⟩) 2 2] 54)).heap[i]? = some o → w1.heap[i]? = some o := fun i o hi h =>
    (hg.block i (Array.getElem?_eq_some_iff.1 h).1 (fun e => by have := Option.some.inj e; simp at this; omega)).trans h
  have hb1 := keep _ _ (by omega) H8.out
  have hlt1 : w.heap.size + 8 < w1.heap.size := (Array.getElem?_eq_some_iff.1 hb1).1
  have HH1 : Hid (Sp.Has w1 w1.heap.size ⟨n0, n1, n2, n3, n4, n5, key, s, key, n6, n7, decide (0 < n0), [⟨key, n0, s, n1⟩], [(n0, n1), (n0, n1)]⟩ (.slice (some ⟨w.heap.size + 6, 0, none⟩) 1 1) (.slice (some ⟨w.heap.size + 7, 0, none⟩) 2 2)) := Lib.hid ⟨_, _, _, _, rfl, rfl, rs_blk (cs := [.string key, .int .i64 n0, .string s, .int .i64 n1]) (keep _ _ (by omega) H6.out) (by omega), rs_blk (cs := [.int .i64 n0, .int .i64 n1, .int .i64 n0, .int .i64 n1]) (keep _ _ (by omega) H7.out) (by omega)⟩
  have c0 := cell_of_row w1 (w.heap.size + 8) 0 _ _ _ hb1
  have c1 := cell_of_row w1 (w.heap.size + 8) 1 _ _ _ hb1
  have c2 := cell_of_row w1 (w.heap.size + 8) 2 _ _ _ hb1
  have c3 := cell_of_row w1 (w.heap.size + 8) 3 _ _ _ hb1
  have c4 := cell_of_row w1 (w.heap.size + 8) 4 _ _ _ hb1
  have c5 := cell_of_row w1 (w.heap.size + 8) 5 _ _ _ hb1
  have c6 := cell_of_row w1 (w.heap.size + 8) 6 _ _ _ hb1
  have c7 := cell_of_row w1 (w.heap.size + 8) 7 _ _ _ hb1
  have c8 := cell_of_row w1 (w.heap.size + 8) 8 _ _ _ hb1
  have c9 := cell_of_row w1 (w.heap.size + 8) 9 _ _ _ hb1
  have c10 := cell_of_row w1 (w.heap.size + 8) 10 _ _ _ hb1
  have c11 := cell_of_row w1 (w.heap.size + 8) 11 _ _ _ hb1
  have c12 := cell_of_row w1 (w.heap.size + 8) 12 _ _ _ hb1
  have c13 := cell_of_row w1 (w.heap.size + 8) 13 _ _ _ hb1
  clear hq hg hb1 keep hws
  go_wp2_with fail
  refine (hrs.out w1 HH1.out).mono ?_
  rintro e w2 ⟨rfl, hb⟩
  have HB2 := Lib.hid hb
  clear hb
  go_wp2_with fail
  go_ret
  exact ⟨F, HFl.out.1, HFl.out.2, rfl, HW1.out.below HB2.out, grown_trans HG.out (grown_below HB2.out _)⟩
theorem part_any (g : Nat) (fs : List (List UInt8)) (htot : total fs ≤ 1000000) (a : Pt) (ha : a.Ok) (hkey : a.key.size ≤ 50) (hs : a.s.size ≤ 50) (w : World) (hW : WS w g fs) :
    Calls Try.prog 24 #[.pointer (some ⟨g, 0, none⟩), .agg a.cells.toArray] w (PartPost w g fs) := by
  obtain ⟨k, n0, n1, n2, n3, n4, n5, n6, n7, key, s⟩ := a
  obtain ⟨h0, h1, hin⟩ := ha
  dsimp only at h0 h1 hin hkey hs
  have hc : k % 9 = 0 ∨ k % 9 = 1 ∨ k % 9 = 2 ∨ k % 9 = 3 ∨ k % 9 = 4 ∨ k % 9 = 5 ∨ k % 9 = 6 ∨ k % 9 = 7 ∨ k % 9 = 8 := by omega
  rcases hc with h | h | h | h | h | h | h | h | h
  · exact part_0 g fs htot k n0 n1 n2 n3 n4 n5 n6 n7 key s h0 h1 hin hkey hs h w hW
  · exact part_1 g fs htot k n0 n1 n2 n3 n4 n5 n6 n7 key s h0 h1 hin hkey hs h w hW
  · exact part_2 g fs htot k n0 n1 n2 n3 n4 n5 n6 n7 key s h0 h1 hin hkey hs h w hW
  · exact part_3 g fs htot k n0 n1 n2 n3 n4 n5 n6 n7 key s h0 h1 hin hkey hs h w hW
  · exact part_4 g fs htot k n0 n1 n2 n3 n4 n5 n6 n7 key s h0 h1 hin hkey hs h w hW
  · exact part_5 g fs htot k n0 n1 n2 n3 n4 n5 n6 n7 key s h0 h1 hin hkey hs h w hW
  · exact part_6 g fs htot k n0 n1 n2 n3 n4 n5 n6 n7 key s h0 h1 hin hkey hs h w hW
  · exact part_7 g fs htot k n0 n1 n2 n3 n4 n5 n6 n7 key s h0 h1 hin hkey hs h w hW
  · exact part_8 g fs htot k n0 n1 n2 n3 n4 n5 n6 n7 key s h0 hin hkey hs h w hW
end Go.Proofs.Ytnblechnalnghaa
