/- DecodeSpan; short. -/
import Derived.Test.YtepcihfkkeahhaaSe
namespace Go.Proofs.Ytepcihfkkeahhaa
open Go.ChangeShapes Go.WideShapes Go.ChangeAt Go.RowKit En

/-- What DecodeSpan returns where the string is a form; the lists lie in blocks of the call's own. -/
def DecPost2 (w : World) (x : Sp) (e : Ending) (w' : World) : Prop :=
  (∃ va vl, e = .returned (.tuple #[.agg (x.cells va vl), .int .i64 0]) ∧ x.HasQ w' w.heap.size none va vl) ∧ Below w.heap.size w w'
set_option maxRecDepth 100000 in
set_option maxHeartbeats 2000000 in
theorem decodeSpan_any (s : ByteArray) (hs : s.size ≤ 1000000) (x : Sp) (hx : rdspan s (0, 0) = (x, (s.size, 0))) (w : World) :
    Calls Try.prog 27 #[.string s] w (DecPost2 w x) := by
  have hc := decode_span s hs x hx (w.alloc (.cells (spZ.cells (.slice none 0 0) (.slice none 0 0)) 54))
  have Hz : Hid ((w.alloc (.cells (spZ.cells (.slice none 0 0) (.slice none 0 0)) 54)).heap[w.heap.size]? = some (.cells (spZ.cells (.slice none 0 0) (.slice none 0 0)) 54 (0, 0))) := Lib.hid (Deep.blk_alloc_new w _)
  have HA : Hid (Below w.heap.size w (w.alloc (.cells (spZ.cells (.slice none 0 0) (.slice none 0 0)) 54))) := Lib.hid ((Below.refl _ _).alloc (Nat.le_refl _) _)
  obtain ⟨t, i, p, rv, c, k, sv, ve, op, st', en, er, al, ls⟩ := x
  have Hc := Lib.hid hc
  clear hc hx
  unfold spZ Sp.cells at Hz HA
  unfold DecPost at Hc
  unfold spZ Sp.cells at Hc
  dsimp only at Hc Hz HA
  go_enter Try.func27, Try.ntmps27
  go_wp2_with fail
  refine Hc.out.mono ?_
  rintro e w1 ⟨⟨va, vl, rfl, hq⟩, hb⟩
  obtain ⟨A1, c1, A2, c2, rfl, rfl, q1, q2⟩ := hq
  have hz := (hb.block w.heap.size (by simp)).trans Hz.out
  have Hz1 := Lib.hid hz
  have HB := Lib.hid (HA.out.trans (hb.mono (by simp)))
  rw [show (w.alloc (.cells #[.int .i64 0, .int .i64 0, .int .i64 0, .int .i64 0, .int .i64 0, .int .i64 0, .string ⟨#[]⟩, .string ⟨#[]⟩, .string ⟨#[]⟩, .int .i64 0, .int .i64 0, .bool false, .slice none 0 0, .slice none 0 0] 54)).heap.size = w.heap.size + 1 by simp] at q1 q2
  have HQ1 := Lib.hid q1
  have HQ2 := Lib.hid q2
  have z0 := cell_of_row w1 w.heap.size 0 _ _ _ hz
  have y0 := frozen_of_row w1 w.heap.size 0 _ _ hz
  have z1 := cell_of_row w1 w.heap.size 1 _ _ _ hz
  have y1 := frozen_of_row w1 w.heap.size 1 _ _ hz
  have z2 := cell_of_row w1 w.heap.size 2 _ _ _ hz
  have y2 := frozen_of_row w1 w.heap.size 2 _ _ hz
  have z3 := cell_of_row w1 w.heap.size 3 _ _ _ hz
  have y3 := frozen_of_row w1 w.heap.size 3 _ _ hz
  have z4 := cell_of_row w1 w.heap.size 4 _ _ _ hz
  have y4 := frozen_of_row w1 w.heap.size 4 _ _ hz
  have z5 := cell_of_row w1 w.heap.size 5 _ _ _ hz
  have y5 := frozen_of_row w1 w.heap.size 5 _ _ hz
  have z6 := cell_of_row w1 w.heap.size 6 _ _ _ hz
  have y6 := frozen_of_row w1 w.heap.size 6 _ _ hz
  have z7 := cell_of_row w1 w.heap.size 7 _ _ _ hz
  have y7 := frozen_of_row w1 w.heap.size 7 _ _ hz
  have z8 := cell_of_row w1 w.heap.size 8 _ _ _ hz
  have y8 := frozen_of_row w1 w.heap.size 8 _ _ hz
  have z9 := cell_of_row w1 w.heap.size 9 _ _ _ hz
  have y9 := frozen_of_row w1 w.heap.size 9 _ _ hz
  have z10 := cell_of_row w1 w.heap.size 10 _ _ _ hz
  have y10 := frozen_of_row w1 w.heap.size 10 _ _ hz
  have z11 := cell_of_row w1 w.heap.size 11 _ _ _ hz
  have y11 := frozen_of_row w1 w.heap.size 11 _ _ hz
  have z12 := cell_of_row w1 w.heap.size 12 _ _ _ hz
  have y12 := frozen_of_row w1 w.heap.size 12 _ _ hz
  have z13 := cell_of_row w1 w.heap.size 13 _ _ _ hz
  have y13 := frozen_of_row w1 w.heap.size 13 _ _ hz
  clear hz hb q1 q2
  dsimp only at HQ1 HQ2
  go_wp2_with fail
  refine bodyPost_ret (v := .tuple #[.agg #[.int .i64 t, .int .i64 i, .int .i64 p, .int .i64 rv, .int .i64 c, .int .i64 k, .string sv, .string ve, .string op, .int .i64 st', .int .i64 en, .bool er, .slice A1 al.length c1, .slice A2 ls.length c2], .int .i64 0]) ?_ rfl ⟨⟨.slice A1 al.length c1, .slice A2 ls.length c2, rfl, ?_⟩, ?_⟩
  · rw [results_cell_tmp rfl]
    simp only [Array.getD_eq_getD_getElem?, List.getElem?_toArray, List.getElem?_cons_succ, List.getElem?_cons_zero, Option.getD_some, asAddr, Sem.run_pure, Result.andThen_ok]
    rw [run_loadVar_row _ w.heap.size 54 54 #[.int .i64 t, .int .i64 i, .int .i64 p, .int .i64 rv, .int .i64 c, .int .i64 k, .string sv, .string ve, .string op, .int .i64 st', .int .i64 en, .bool er, .slice A1 al.length c1, .slice A2 ls.length c2] (0, 0) _ (blk14 _ _ _ _ _ _ _ _ _ _ _ _ _ _ _ _ _ _ _ _ _ _ _ _ _ _ _ _ Hz1.out) Try.underlying54 rfl (by kernel_rfl)]
    rfl
  · refine ⟨A1, c1, A2, c2, rfl, rfl, ?_, ?_⟩
    · exact Rq.low (lo' := w.heap.size) (Rq.set (Rq.set (Rq.set (Rq.set (Rq.set (Rq.set (Rq.set (Rq.set (Rq.set (Rq.set (Rq.set (Rq.set (Rq.set (Rq.set HQ1.out (Nat.lt_succ_self _)) (Nat.lt_succ_self _)) (Nat.lt_succ_self _)) (Nat.lt_succ_self _)) (Nat.lt_succ_self _)) (Nat.lt_succ_self _)) (Nat.lt_succ_self _)) (Nat.lt_succ_self _)) (Nat.lt_succ_self _)) (Nat.lt_succ_self _)) (Nat.lt_succ_self _)) (Nat.lt_succ_self _)) (Nat.lt_succ_self _)) (Nat.lt_succ_self _)) (Nat.le_succ _)
    · exact Rq.low (lo' := w.heap.size) (Rq.set (Rq.set (Rq.set (Rq.set (Rq.set (Rq.set (Rq.set (Rq.set (Rq.set (Rq.set (Rq.set (Rq.set (Rq.set (Rq.set HQ2.out (Nat.lt_succ_self _)) (Nat.lt_succ_self _)) (Nat.lt_succ_self _)) (Nat.lt_succ_self _)) (Nat.lt_succ_self _)) (Nat.lt_succ_self _)) (Nat.lt_succ_self _)) (Nat.lt_succ_self _)) (Nat.lt_succ_self _)) (Nat.lt_succ_self _)) (Nat.lt_succ_self _)) (Nat.lt_succ_self _)) (Nat.lt_succ_self _)) (Nat.lt_succ_self _)) (Nat.le_succ _)
  · exact (below_set (below_set (below_set (below_set (below_set (below_set (below_set (below_set (below_set (below_set (below_set (below_set (below_set (below_set HB.out (Nat.le_refl _)) (Nat.le_refl _)) (Nat.le_refl _)) (Nat.le_refl _)) (Nat.le_refl _)) (Nat.le_refl _)) (Nat.le_refl _)) (Nat.le_refl _)) (Nat.le_refl _)) (Nat.le_refl _)) (Nat.le_refl _)) (Nat.le_refl _)) (Nat.le_refl _)) (Nat.le_refl _))
end Go.Proofs.Ytepcihfkkeahhaa
