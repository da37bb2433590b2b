/- decode, DecodeSpan; short. -/
import Derived.Test.YtepcihfkkeahhaaSd
namespace Go.Proofs.Ytepcihfkkeahhaa
open Go.ChangeShapes Go.WideShapes Go.ChangeAt Go.RowKit En

/-- What DecodeSpan returns where the string is a form. -/
def DecPost (w : World) (x : Sp) (e : Ending) (w' : World) : Prop :=
  (∃ va vl, e = .returned (.tuple #[.agg (x.cells va vl), .int .i64 0]) ∧ x.HasQ w' w.heap.size none va vl) ∧ Below w.heap.size w w'
theorem Rq.none_ {w : World} {lo : Nat} {q A : Option Addr} {cs : List Value} (h : Rq w lo q A cs) : Rq w lo none A cs := fun j hj => by
  obtain ⟨b, off, e, h1, h2, _, h3, h4⟩ := h j hj
  exact ⟨b, off, e, h1, h2, by simp, h3, h4⟩
theorem end_full (s : ByteArray) : endE s (s.size, 0) = 0 := by unfold endE; simp
theorem below_gq {w wa w' : World} {r : Nat} (h : Below w.heap.size w wa) (g : Gq wa w' (some ⟨r, 0, none⟩)) (hr : w.heap.size ≤ r) : Below w.heap.size w w' :=
  below_grown h g hr (Nat.le_refl _)
theorem Sp.HasQ.set {w : World} {lo : Nat} {q : Option Addr} {s : Sp} {va vl v : Value} {b o : Nat} (h : s.HasQ w lo q va vl) (hb : b < lo) : s.HasQ (w.setCell ⟨b, o, none⟩ v) lo q va vl := by
  obtain ⟨A, c, A2, c2, e1, e2, h1, h2⟩ := h
  exact ⟨A, c, A2, c2, e1, e2, h1.set hb, h2.set hb⟩
theorem below_set {B : Nat} {a w : World} {b o : Nat} {v : Value} (h : Below B a w) (hb : B ≤ b) : Below B a (w.setCell ⟨b, o, none⟩ v) :=
  ⟨h.os, h.tape, h.output, by have := h.size; simp [World.setCell]; omega, fun i hi => by rw [Deep.blk_setCell_other _ _ _ _ (show i ≠ b by omega)]; exact h.block i hi⟩
set_option maxRecDepth 100000 in
set_option maxHeartbeats 2000000 in
theorem decode_span (s : ByteArray) (hs : s.size ≤ 1000000) (x : Sp) (hx : rdspan s (0, 0) = (x, (s.size, 0))) (w : World) :
    Calls Try.prog 76 #[.string s, .func (.func 77) #[] #[]] w (DecPost w x) := by
  have hnr := new_reader s (w.alloc (.cells (spZ.cells (.slice none 0 0) (.slice none 0 0)) 54))
  have Hz : Hid ((w.alloc (.cells (spZ.cells (.slice none 0 0) (.slice none 0 0)) 54)).heap[w.heap.size]? = some (.cells (spZ.cells (.slice none 0 0) (.slice none 0 0)) 54 (0, 0))) := Lib.hid (Deep.blk_alloc_new w _)
  have HA : Hid (Below w.heap.size w (w.alloc (.cells (spZ.cells (.slice none 0 0) (.slice none 0 0)) 54))) := Lib.hid ((Below.refl _ _).alloc (Nat.le_refl _) _)
  have hcl := fun W h => span_closure (w.heap.size + 1) s (0, 0) hs W h
  rw [hx] at hcl
  obtain ⟨t, i, p, rv, c, k, sv, ve, op, st', en, er, al, ls⟩ := x
  have Hnr := Lib.hid hnr
  have Hcl := Lib.hid hcl
  clear hnr hcl hx
  unfold spZ Sp.cells at Hz HA Hnr
  unfold Sp.cells at Hcl
  dsimp only at Hcl Hz HA Hnr
  go_enter Try.func76, Try.ntmps76
  go_wp2_with fail
  refine Hnr.out.mono ?_
  rintro e w1 ⟨rfl, hR1, hb1⟩
  have hsz0 : (w.alloc (.cells #[.int .i64 0, .int .i64 0, .int .i64 0, .int .i64 0, .int .i64 0, .int .i64 0, .string ⟨#[]⟩, .string ⟨#[]⟩, .string ⟨#[]⟩, .int .i64 0, .int .i64 0, .bool false, .slice none 0 0, .slice none 0 0] 54)).heap.size = w.heap.size + 1 := by simp
  rw [hsz0] at hR1
  have HR1 := Lib.hid hR1
  have HB1 := Lib.hid (HA.out.trans (hb1.mono (by simp)))
  have Hz1 := Lib.hid ((hb1.block w.heap.size (by simp)).trans Hz.out)
  have hlt1 := hR1.lt
  clear hR1 hb1 hsz0
  go_wp2_with fail
  refine (Hcl.out w1 (Or.inr ⟨_, rfl, HR1.out⟩)).mono ?_
  rintro e w2 ⟨⟨va, vl, rfl, hq⟩, hRP, hG⟩
  obtain ⟨A1, c1, A2, c2, rfl, rfl, q1, q2⟩ := hq
  have HQ1 := Lib.hid q1
  have HQ2 := Lib.hid q2
  have HRP := Lib.hid hRP
  have HG := Lib.hid hG
  have HB2 := Lib.hid (below_gq HB1.out hG (Nat.le_succ _))
  have Hz2 := Lib.hid ((hG.block w.heap.size (by omega) (fun e => by simp at e)).trans Hz1.out)
  clear q1 q2 hRP hG
  go_wp2_with fail
  have hwf : Below w2.heap.size w2 (w2.alloc (.cells #[.int .i64 t, .int .i64 i, .int .i64 p, .int .i64 rv, .int .i64 c, .int .i64 k, .string sv, .string ve, .string op, .int .i64 st', .int .i64 en, .bool er, .slice A1 al.length c1, .slice A2 ls.length c2] 54)) := (Below.refl _ _).alloc (Nat.le_refl _) _
  have hen := end_q (some ⟨w.heap.size + 1, 0, none⟩) s (s.size, 0) hs _ (HRP.out.below hwf)
  rw [end_full] at hen
  refine hen.mono ?_
  rintro e w3 ⟨rfl, hb3⟩
  have HBf := Lib.hid (hwf.trans (hb3.mono (by simp)))
  have hl3 : w2.heap.size < w3.heap.size := by have := hb3.size; simp at this; omega
  have hb := (hb3.block w2.heap.size (by simp)).trans (Deep.blk_alloc_new w2 _)
  have hz := (HBf.out.block w.heap.size (Array.getElem?_eq_some_iff.1 Hz2.out).1).trans Hz2.out
  have Hz3 := Lib.hid hz
  have HB3 := Lib.hid (HB2.out.trans (HBf.out.mono HB2.out.size))
  have HQ13 := Lib.hid (Rq.low (lo' := w.heap.size + 1) (HQ1.out.gq (Gq.of_below HBf.out (some ⟨w.heap.size + 1, 0, none⟩))) (by omega))
  have HQ23 := Lib.hid (Rq.low (lo' := w.heap.size + 1) (HQ2.out.gq (Gq.of_below HBf.out (some ⟨w.heap.size + 1, 0, none⟩))) (by omega))
  have hw1lt : w.heap.size < w1.heap.size := by omega
  have d0 := cell_of_row w3 w2.heap.size 0 _ _ _ hb
  have z0 := cell_of_row w3 w.heap.size 0 _ _ _ hz
  have y0 := frozen_of_row w3 w.heap.size 0 _ _ hz
  have d1 := cell_of_row w3 w2.heap.size 1 _ _ _ hb
  have z1 := cell_of_row w3 w.heap.size 1 _ _ _ hz
  have y1 := frozen_of_row w3 w.heap.size 1 _ _ hz
  have d2 := cell_of_row w3 w2.heap.size 2 _ _ _ hb
  have z2 := cell_of_row w3 w.heap.size 2 _ _ _ hz
  have y2 := frozen_of_row w3 w.heap.size 2 _ _ hz
  have d3 := cell_of_row w3 w2.heap.size 3 _ _ _ hb
  have z3 := cell_of_row w3 w.heap.size 3 _ _ _ hz
  have y3 := frozen_of_row w3 w.heap.size 3 _ _ hz
  have d4 := cell_of_row w3 w2.heap.size 4 _ _ _ hb
  have z4 := cell_of_row w3 w.heap.size 4 _ _ _ hz
  have y4 := frozen_of_row w3 w.heap.size 4 _ _ hz
  have d5 := cell_of_row w3 w2.heap.size 5 _ _ _ hb
  have z5 := cell_of_row w3 w.heap.size 5 _ _ _ hz
  have y5 := frozen_of_row w3 w.heap.size 5 _ _ hz
  have d6 := cell_of_row w3 w2.heap.size 6 _ _ _ hb
  have z6 := cell_of_row w3 w.heap.size 6 _ _ _ hz
  have y6 := frozen_of_row w3 w.heap.size 6 _ _ hz
  have d7 := cell_of_row w3 w2.heap.size 7 _ _ _ hb
  have z7 := cell_of_row w3 w.heap.size 7 _ _ _ hz
  have y7 := frozen_of_row w3 w.heap.size 7 _ _ hz
  have d8 := cell_of_row w3 w2.heap.size 8 _ _ _ hb
  have z8 := cell_of_row w3 w.heap.size 8 _ _ _ hz
  have y8 := frozen_of_row w3 w.heap.size 8 _ _ hz
  have d9 := cell_of_row w3 w2.heap.size 9 _ _ _ hb
  have z9 := cell_of_row w3 w.heap.size 9 _ _ _ hz
  have y9 := frozen_of_row w3 w.heap.size 9 _ _ hz
  have d10 := cell_of_row w3 w2.heap.size 10 _ _ _ hb
  have z10 := cell_of_row w3 w.heap.size 10 _ _ _ hz
  have y10 := frozen_of_row w3 w.heap.size 10 _ _ hz
  have d11 := cell_of_row w3 w2.heap.size 11 _ _ _ hb
  have z11 := cell_of_row w3 w.heap.size 11 _ _ _ hz
  have y11 := frozen_of_row w3 w.heap.size 11 _ _ hz
  have d12 := cell_of_row w3 w2.heap.size 12 _ _ _ hb
  have z12 := cell_of_row w3 w.heap.size 12 _ _ _ hz
  have y12 := frozen_of_row w3 w.heap.size 12 _ _ hz
  have d13 := cell_of_row w3 w2.heap.size 13 _ _ _ hb
  have z13 := cell_of_row w3 w.heap.size 13 _ _ _ hz
  have y13 := frozen_of_row w3 w.heap.size 13 _ _ hz
  clear hb hz hwf hen hb3
  go_wp2_with fail
  refine bodyPost_ret (v := .tuple #[.agg #[.int .i64 t, .int .i64 i, .int .i64 p, .int .i64 rv, .int .i64 c, .int .i64 k, .string sv, .string ve, .string op, .int .i64 st', .int .i64 en, .bool er, .slice A1 al.length c1, .slice A2 ls.length c2], .int .i64 0]) ?_ rfl ⟨⟨.slice A1 al.length c1, .slice A2 ls.length c2, rfl, ?_⟩, ?_⟩
  · rw [results_cell_tmp rfl]
    simp only [Array.getD_eq_getD_getElem?, List.getElem?_toArray, List.getElem?_cons_succ, List.getElem?_cons_zero, Option.getD_some, asAddr, Sem.run_pure, Result.andThen_ok]
    rw [run_loadVar_row _ w.heap.size 54 54 #[.int .i64 t, .int .i64 i, .int .i64 p, .int .i64 rv, .int .i64 c, .int .i64 k, .string sv, .string ve, .string op, .int .i64 st', .int .i64 en, .bool er, .slice A1 al.length c1, .slice A2 ls.length c2] (0, 0) _ (blk14 _ _ _ _ _ _ _ _ _ _ _ _ _ _ _ _ _ _ _ _ _ _ _ _ _ _ _ _ Hz3.out) Try.underlying54 rfl (by kernel_rfl)]
    rfl
  · refine ⟨A1, c1, A2, c2, rfl, rfl, ?_, ?_⟩
    · exact Rq.none_ (Rq.low (lo' := w.heap.size) (Rq.set (Rq.set (Rq.set (Rq.set (Rq.set (Rq.set (Rq.set (Rq.set (Rq.set (Rq.set (Rq.set (Rq.set (Rq.set (Rq.set HQ13.out (Nat.lt_succ_self _)) (Nat.lt_succ_self _)) (Nat.lt_succ_self _)) (Nat.lt_succ_self _)) (Nat.lt_succ_self _)) (Nat.lt_succ_self _)) (Nat.lt_succ_self _)) (Nat.lt_succ_self _)) (Nat.lt_succ_self _)) (Nat.lt_succ_self _)) (Nat.lt_succ_self _)) (Nat.lt_succ_self _)) (Nat.lt_succ_self _)) (Nat.lt_succ_self _)) (Nat.le_succ _))
    · exact Rq.none_ (Rq.low (lo' := w.heap.size) (Rq.set (Rq.set (Rq.set (Rq.set (Rq.set (Rq.set (Rq.set (Rq.set (Rq.set (Rq.set (Rq.set (Rq.set (Rq.set (Rq.set HQ23.out (Nat.lt_succ_self _)) (Nat.lt_succ_self _)) (Nat.lt_succ_self _)) (Nat.lt_succ_self _)) (Nat.lt_succ_self _)) (Nat.lt_succ_self _)) (Nat.lt_succ_self _)) (Nat.lt_succ_self _)) (Nat.lt_succ_self _)) (Nat.lt_succ_self _)) (Nat.lt_succ_self _)) (Nat.lt_succ_self _)) (Nat.lt_succ_self _)) (Nat.lt_succ_self _)) (Nat.le_succ _))
  · exact (below_set (below_set (below_set (below_set (below_set (below_set (below_set (below_set (below_set (below_set (below_set (below_set (below_set (below_set HB3.out (Nat.le_refl _)) (Nat.le_refl _)) (Nat.le_refl _)) (Nat.le_refl _)) (Nat.le_refl _)) (Nat.le_refl _)) (Nat.le_refl _)) (Nat.le_refl _)) (Nat.le_refl _)) (Nat.le_refl _)) (Nat.le_refl _)) (Nat.le_refl _)) (Nat.le_refl _)) (Nat.le_refl _))
end Go.Proofs.Ytepcihfkkeahhaa
