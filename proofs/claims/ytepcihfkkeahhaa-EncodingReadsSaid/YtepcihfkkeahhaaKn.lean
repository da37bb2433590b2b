/- The examples of the document. -/
import Derived.Test.YtepcihfkkeahhaaRf
import Derived.KernelRfl
namespace Go.Proofs.Ytepcihfkkeahhaa
open Go.ChangeShapes Go.WideShapes Go.ChangeAt Go.RowKit En

theorem Parts.kept {w w' : World} {r : Nat} {cr : Array Value} {v : Value} {fs : List (List UInt8)} (h : Parts w v fs) (hr : w.heap[r]? = some (Obj.cells cr 105 (0, 0))) (hg : w.grownBy w' (some r)) : Parts w' v fs :=
  h.same fun p cs hc => hg.block p (Array.getElem?_eq_some_iff.1 hc).1 (fun e => by
    have e' : p = r := by simpa using e
    rw [e', hr] at hc
    simp at hc)
theorem WS.kept {w w' : World} {g r : Nat} {cr : Array Value} {fs : List (List UInt8)} (h : WS w g fs) (hr : w.heap[r]? = some (Obj.cells cr 105 (0, 0))) (hg : w.grownBy w' (some r)) : WS w' g fs := by
  obtain ⟨l, hl, hp⟩ := h
  refine ⟨l, (hg.block g (Array.getElem?_eq_some_iff.1 hl).1 (fun e => ?_)).trans hl, hp.kept hr hg⟩
  have e' : g = r := by simpa using e
  rw [e', hr] at hl
  simp at hl
def exS : ByteArray := ⟨#[129, 7, 128, 129, 0]⟩
theorem ex_ref : rdR exS 0 0 = ((7, 0), 3, 0) := by decide
theorem ex_num : rdN exS 3 0 = (0, 3, 3) := by decide
theorem ex_bytes : whole [attrF ⟨#[97]⟩ 3 ⟨#[]⟩ 1, num (-300), num 300] = [130, 1, 44, 126, 254, 211, 129, 1, 97, 129, 3, 128, 129, 1] := by decide
theorem ex_tot : total [num 300] ≤ 1000000 ∧ total [num (-300), num 300] ≤ 1000000 ∧ total [attrF ⟨#[97]⟩ 3 ⟨#[]⟩ 1, num (-300), num 300] ≤ 1000000 := by decide
theorem ex_pos : ∀ f ∈ [attrF ⟨#[97]⟩ 3 ⟨#[]⟩ 1, num (-300), num 300], 0 < f.length := by decide

set_option maxRecDepth 100000 in
set_option maxHeartbeats 1000000 in
theorem known_any (w : World) : Calls Try.prog 15 #[] w fun e w' => e = .returned (.bool true) ∧ Below w.heap.size w w' := by
  obtain ⟨F, hF⟩ : ∃ F, F = [attrF ⟨#[97]⟩ 3 ⟨#[]⟩ 1, num (-300), num 300] := ⟨_, rfl⟩
  have Htot : Hid (total F ≤ 1000000) := Lib.hid (by rw [hF]; exact ex_tot.2.2)
  have Hpos : Hid (∀ f ∈ F, 0 < f.length) := Lib.hid (by rw [hF]; exact ex_pos)
  have HwF : Hid (whole F = [130, 1, 44, 126, 254, 211, 129, 1, 97, 129, 3, 128, 129, 1]) := Lib.hid (by rw [hF]; exact ex_bytes)
  have HF := Lib.hid hF
  clear hF
  go_enter Try.func15, Try.ntmps15
  go_wp2_with fail
  have hW0 : WS (w.alloc (.cells #[.pointer none, .int .i64 0] 24)) w.heap.size [] := ⟨.pointer none, Deep.blk_alloc_new w _, rfl⟩
  refine (w_number w.heap.size [] 300 (by omega) (by omega) (by decide) _ hW0).mono ?_
  rintro e w1 ⟨rfl, hW1, g1⟩
  have HB1 : Hid (Below w.heap.size w w1) := Lib.hid (below_grown ((Below.refl w.heap.size w).alloc (Nat.le_refl _) _) g1 (Nat.le_refl _) (Nat.le_refl _))
  have HW1 := Lib.hid hW1
  clear hW0 hW1 g1
  go_wp2_with fail
  refine (w_number w.heap.size [num 300] (-300) (by omega) (by omega) ex_tot.1 _ HW1.out).mono ?_
  rintro e w2 ⟨rfl, hW2, g2⟩
  have HB2 : Hid (Below w.heap.size w w2) := Lib.hid (below_grown HB1.out g2 (Nat.le_refl _) (Nat.le_refl _))
  have HW2 := Lib.hid hW2
  clear hW2 g2
  go_wp2_with fail
  refine (w_attr w.heap.size [num (-300), num 300] ⟨#[97]⟩ (by decide) 3 1 ⟨#[]⟩ (by decide) (by omega) (by omega) (by omega) (by omega) ex_tot.2.1 _ HW2.out).mono ?_
  rintro e w3 ⟨rfl, hW3, g3⟩
  rw [← HF.out] at hW3
  have HB3 : Hid (Below w.heap.size w w3) := Lib.hid (below_grown HB2.out g3 (Nat.le_refl _) (Nat.le_refl _))
  have HW3 := Lib.hid hW3
  clear hW3 g3
  go_wp2_with fail
  refine (new_reader exS w3).mono ?_
  rintro e w4 ⟨rfl, hR4, hB4⟩
  have HB4 : Hid (Below w.heap.size w w4) := Lib.hid (Below.trans HB3.out (hB4.mono HB3.out.size))
  have HW4 := Lib.hid (HW3.out.below hB4)
  have HR4 := Lib.hid hR4
  have hb3 := HB3.out.size
  have hb4 := hB4.size
  clear hR4 hB4
  go_wp2_with fail
  refine (read_ref w3.heap.size exS 0 0 (by decide) w4 HR4.out).mono ?_
  rw [ex_ref]
  rintro e w5 ⟨rfl, hR5, g5⟩
  have HW5 := Lib.hid (HW4.out.kept HR4.out.1 g5)
  have HB5 : Hid (Below w.heap.size w w5) := Lib.hid (below_grown HB4.out g5 (by omega) (Nat.le_refl _))
  have HR5 := Lib.hid hR5
  have hlt5 := hR5.lt
  clear hR5 g5
  go_wp2_with fail
  have hA5 : Below w5.heap.size w5 (w5.alloc (.cells #[.int .i64 7, .int .i64 0] 83)) := (Below.refl _ _).alloc (Nat.le_refl _) _
  have HR6 := Lib.hid (HR5.out.below hA5)
  have HW6 := Lib.hid (HW5.out.below hA5)
  have HB6 : Hid (Below w.heap.size w (w5.alloc (.cells #[.int .i64 7, .int .i64 0] 83))) := Lib.hid (HB5.out.alloc HB5.out.size _)
  have hb5 := HB5.out.size
  clear hA5
  refine (read_number w3.heap.size exS 3 0 (by decide) _ HR6.out).mono ?_
  rw [ex_num]
  rintro e w7 ⟨rfl, hR7, g7⟩
  have HW7 := Lib.hid (HW6.out.kept HR6.out.1 g7)
  have HB7 : Hid (Below w.heap.size w w7) := Lib.hid (below_grown HB6.out g7 (by omega) (Nat.le_refl _))
  have HR7 := Lib.hid hR7
  have hf7 := (g7.block w5.heap.size (by simp) (by simp; omega)).trans (Deep.blk_alloc_new w5 (.cells #[.int .i64 7, .int .i64 0] 83))
  have hlt7 : w5.heap.size < w7.heap.size := (Array.getElem?_eq_some_iff.1 hf7).1
  have Hf7 := Lib.hid hf7
  clear hR7 g7 hf7
  go_wp2_with fail
  refine (w_bytes w.heap.size F Hpos.out Htot.out w7 HW7.out).mono ?_
  rw [HwF.out]
  rintro e w8 ⟨rfl, hB8⟩
  have HB8 : Hid (Below w.heap.size w w8) := Lib.hid (Below.trans HB7.out (hB8.mono HB7.out.size))
  have HR8 := Lib.hid (HR7.out.below hB8)
  have hf8 := (hB8.block w5.heap.size hlt7).trans Hf7.out
  have c0 := cell_of_row w8 w5.heap.size 0 _ _ _ hf8
  have c1 := cell_of_row w8 w5.heap.size 1 _ _ _ hf8
  clear hf8 hB8
  go_wp2_with fail
  refine (r_err w3.heap.size exS 3 3 w8 HR8.out).mono ?_
  rintro e w9 ⟨rfl, rfl⟩
  go_wp2_with fail
  refine (r_left w3.heap.size exS 3 3 (by decide) _ HR8.out).mono ?_
  rw [show exS.size - 3 = 2 from rfl]
  rintro e w10 ⟨rfl, rfl⟩
  go_wp2_with fail
  go_ret
  exact ⟨rfl, Below.drew HB8.out⟩
end Go.Proofs.Ytepcihfkkeahhaa
