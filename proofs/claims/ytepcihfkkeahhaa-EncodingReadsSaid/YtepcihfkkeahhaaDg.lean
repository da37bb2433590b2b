/- DecodeSpan where the string is no form (written by wip/bin/gen_dg.py); the reference's End. -/
import Derived.Test.YtepcihfkkeahhaaSn
import Derived.Test.YtepcihfkkeahhaaRr
namespace Go.Proofs.Ytepcihfkkeahhaa
open Go.ChangeShapes Go.WideShapes Go.ChangeAt Go.RowKit En

/-- What DecodeSpan returns. -/
def DecSPost (w : World) (x : Sp) (E : Int) (e : Ending) (w' : World) : Prop :=
  (∃ va vl, e = .returned (.tuple #[.agg (x.cells va vl), .int .i64 E]) ∧ x.HasQ w' w.heap.size none va vl) ∧ Below w.heap.size w w'
theorem blk14_al {w : World} {g : Nat} {t : TypeId} {o : Obj} (a0 a1 a2 a3 a4 a5 a6 a7 a8 a9 a10 a11 a12 a13 b0 b1 b2 b3 b4 b5 b6 b7 b8 b9 b10 b11 b12 b13 : Value) (h : w.heap[g]? = some (.cells #[a0, a1, a2, a3, a4, a5, a6, a7, a8, a9, a10, a11, a12, a13] t (0, 0))) :
    (((((((((((((((w.setCell ⟨g, 0, none⟩ b0).setCell ⟨g, 1, none⟩ b1).setCell ⟨g, 2, none⟩ b2).setCell ⟨g, 3, none⟩ b3).setCell ⟨g, 4, none⟩ b4).setCell ⟨g, 5, none⟩ b5).setCell ⟨g, 6, none⟩ b6).setCell ⟨g, 7, none⟩ b7).setCell ⟨g, 8, none⟩ b8).setCell ⟨g, 9, none⟩ b9).setCell ⟨g, 10, none⟩ b10).setCell ⟨g, 11, none⟩ b11).setCell ⟨g, 12, none⟩ b12).setCell ⟨g, 13, none⟩ b13).alloc o).heap[g]? = some (.cells #[b0, b1, b2, b3, b4, b5, b6, b7, b8, b9, b10, b11, b12, b13] t (0, 0)) := by
  have h1 := blk14 a0 a1 a2 a3 a4 a5 a6 a7 a8 a9 a10 a11 a12 a13 b0 b1 b2 b3 b4 b5 b6 b7 b8 b9 b10 b11 b12 b13 h
  exact (Deep.blk_alloc_lt _ _ _ (Array.getElem?_eq_some_iff.1 h1).1).trans h1
theorem below_row {a w : World} {B g : Nat} {c : Array Value} (h : Below B a w) (hg : B ≤ g) : Below B a (w.setRow g c) :=
  ⟨h.os, h.tape, h.output, by rw [setRow_size]; exact h.size, fun k hk => (setRow_other _ _ _ _ (by omega)).trans (h.block k hk)⟩
theorem spZ_q (w : World) (lo : Nat) (q : Option Addr) : spZ.HasQ w lo q (.slice none 0 0) (.slice none 0 0) := ⟨none, 0, none, 0, rfl, rfl, Rq.nil, Rq.nil⟩
set_option maxRecDepth 100000 in
set_option maxHeartbeats 4000000 in
theorem decode_span_err (s : ByteArray) (hs : s.size ≤ 1000000) (he : endE s (rdspan s (0, 0)).2 ≠ 0) (w : World) :
    Calls Try.prog 76 #[.string s, .func (.func 77) #[] #[]] w (DecSPost w spZ (endE s (rdspan s (0, 0)).2)) := by
  have hnr := new_reader s (w.alloc (.cells #[.int .i64 0, .int .i64 0, .int .i64 0, .int .i64 0, .int .i64 0, .int .i64 0, .string ⟨#[]⟩, .string ⟨#[]⟩, .string ⟨#[]⟩, .int .i64 0, .int .i64 0, .bool false, .slice none 0 0, .slice none 0 0] 54))
  have Hz : Hid ((w.alloc (.cells #[.int .i64 0, .int .i64 0, .int .i64 0, .int .i64 0, .int .i64 0, .int .i64 0, .string ⟨#[]⟩, .string ⟨#[]⟩, .string ⟨#[]⟩, .int .i64 0, .int .i64 0, .bool false, .slice none 0 0, .slice none 0 0] 54)).heap[w.heap.size]? = some (.cells #[.int .i64 0, .int .i64 0, .int .i64 0, .int .i64 0, .int .i64 0, .int .i64 0, .string ⟨#[]⟩, .string ⟨#[]⟩, .string ⟨#[]⟩, .int .i64 0, .int .i64 0, .bool false, .slice none 0 0, .slice none 0 0] 54 (0, 0))) := Lib.hid (Deep.blk_alloc_new w _)
  have HA : Hid (Below w.heap.size w (w.alloc (.cells #[.int .i64 0, .int .i64 0, .int .i64 0, .int .i64 0, .int .i64 0, .int .i64 0, .string ⟨#[]⟩, .string ⟨#[]⟩, .string ⟨#[]⟩, .int .i64 0, .int .i64 0, .bool false, .slice none 0 0, .slice none 0 0] 54))) := Lib.hid ((Below.refl _ _).alloc (Nat.le_refl _) _)
  have hcl := fun W h => span_closure (w.heap.size + 1) s (0, 0) hs W h
  obtain ⟨R, hR⟩ : ∃ R, R = rdspan s (0, 0) := ⟨_, rfl⟩
  rw [← hR] at he ⊢
  simp only [← hR] at hcl
  obtain ⟨⟨t, i, p, rv, c, k, sv, ve, op, stt, en, er, al, ls⟩, s2⟩ := R
  have Hnr := Lib.hid hnr
  unfold Sp.cells at hcl
  dsimp only at hcl he ⊢
  have Hcl := Lib.hid hcl
  clear hnr hcl hR
  obtain ⟨E, hE⟩ : ∃ E, E = endE s s2 := ⟨_, rfl⟩
  rw [← hE] at he ⊢
  have HEe := Lib.hid hE
  clear hE
  have hne : (E != (0 : Int)) = true := by simpa using he
  unfold DecSPost spZ Sp.cells
  dsimp only
  go_enter Try.func76, Try.ntmps76
  go_wp2_with fail
  refine Hnr.out.mono ?_
  rintro e w1 ⟨rfl, hR1, hb1⟩
  have hsz0 : (w.alloc (.cells #[.int .i64 0, .int .i64 0, .int .i64 0, .int .i64 0, .int .i64 0, .int .i64 0, .string ⟨#[]⟩, .string ⟨#[]⟩, .string ⟨#[]⟩, .int .i64 0, .int .i64 0, .bool false, .slice none 0 0, .slice none 0 0] 54)).heap.size = w.heap.size + 1 := by simp
  rw [hsz0] at hR1
  have HR1 := Lib.hid hR1
  have HB1 := Lib.hid (HA.out.trans (hb1.mono (by simp)))
  have Hz1 := Lib.hid ((hb1.block w.heap.size (by simp)).trans Hz.out)
  have hlt1 := hR1.lt
  clear hR1 hb1 hsz0
  go_wp2_with fail
  refine (Hcl.out w1 (Or.inr ⟨_, rfl, HR1.out⟩)).mono ?_
  rintro e w2 ⟨⟨va, vl, rfl, hq⟩, hRP, hG⟩
  obtain ⟨A1, c1, A2, c2, rfl, rfl, q1, q2⟩ := hq
  dsimp only
  have HRP := Lib.hid hRP
  have HG := Lib.hid hG
  have HB2 := Lib.hid (below_gq HB1.out hG (Nat.le_succ _))
  have Hz2 := Lib.hid ((hG.block w.heap.size (by omega) (fun e => by simp at e)).trans Hz1.out)
  clear q1 q2 hRP hG
  go_wp2_with fail
  have hwf : Below w2.heap.size w2 (w2.alloc (.cells #[.int .i64 t, .int .i64 i, .int .i64 p, .int .i64 rv, .int .i64 c, .int .i64 k, .string sv, .string ve, .string op, .int .i64 stt, .int .i64 en, .bool er, .slice A1 al.length c1, .slice A2 ls.length c2] 54)) := (Below.refl _ _).alloc (Nat.le_refl _) _
  have hen := end_q (some ⟨w.heap.size + 1, 0, none⟩) s s2 hs _ (HRP.out.below hwf)
  rw [← HEe.out] at hen
  refine hen.mono ?_
  rintro e w3 ⟨rfl, hb3⟩
  have HBf := Lib.hid (hwf.trans (hb3.mono (by simp)))
  have hl3 : w2.heap.size < w3.heap.size := by have := hb3.size; simp at this; omega
  have hlw2 : w.heap.size < w2.heap.size := (Array.getElem?_eq_some_iff.1 Hz2.out).1
  have hz := (HBf.out.block w.heap.size hlw2).trans Hz2.out
  have Hz3 := Lib.hid hz
  have HB3 := Lib.hid (HB2.out.trans (HBf.out.mono HB2.out.size))
  have hlw3 : w.heap.size < w3.heap.size := by omega
  obtain ⟨ZS, hZS⟩ : ∃ c : Array Value, c = #[.int .i64 0, .int .i64 0, .int .i64 0, .int .i64 0, .int .i64 0, .int .i64 0, .string ⟨#[]⟩, .string ⟨#[]⟩, .string ⟨#[]⟩, .int .i64 0, .int .i64 0, .bool false, .slice none 0 0, .slice none 0 0] := ⟨_, rfl⟩
  have Hn : Hid ((w3.alloc (.cells #[.int .i64 0, .int .i64 0, .int .i64 0, .int .i64 0, .int .i64 0, .int .i64 0, .string ⟨#[]⟩, .string ⟨#[]⟩, .string ⟨#[]⟩, .int .i64 0, .int .i64 0, .bool false, .slice none 0 0, .slice none 0 0] 54)).heap[w3.heap.size]? = some (.cells ZS 54 (0, 0))) := Lib.hid (by rw [hZS]; exact Deep.blk_alloc_new w3 _)
  have Hr : Hid ((w3.alloc (.cells #[.int .i64 0, .int .i64 0, .int .i64 0, .int .i64 0, .int .i64 0, .int .i64 0, .string ⟨#[]⟩, .string ⟨#[]⟩, .string ⟨#[]⟩, .int .i64 0, .int .i64 0, .bool false, .slice none 0 0, .slice none 0 0] 54)).heap[w.heap.size]? = some (.cells ZS 54 (0, 0))) := Lib.hid (by rw [hZS]; exact (Deep.blk_alloc_lt _ _ _ hlw3).trans Hz3.out)
  have Hsz : Hid ((Try.prog.info? 54).map (·.size) = some ZS.size) := Lib.hid (by rw [hZS]; kernel_rfl)
  have Hone : Hid (ZS.all (·.oneCell') = true) := Lib.hid (by rw [hZS]; simp [Value.oneCell'])
  have HZS := Lib.hid hZS
  clear hz hwf hen hb3 hZS
  go_wp2_with (first
    | (with_reducible refine wpList_load_row rfl _ _ rfl w3.heap.size rfl 54 ZS (0, 0) _ Hn.out Try.underlying54 rfl Hsz.out ?_)
    | (with_reducible refine wpList_store_row rfl _ _ _ rfl w.heap.size ZS rfl rfl 54 ZS Hr.out Hsz.out rfl Hone.out ?_))
  refine bodyPost_ret (v := .tuple #[.agg #[.int .i64 0, .int .i64 0, .int .i64 0, .int .i64 0, .int .i64 0, .int .i64 0, .string ⟨#[]⟩, .string ⟨#[]⟩, .string ⟨#[]⟩, .int .i64 0, .int .i64 0, .bool false, .slice none 0 0, .slice none 0 0], .int .i64 E]) ?_ rfl ⟨⟨.slice none 0 0, .slice none 0 0, rfl, ?_⟩, ?_⟩
  · rw [results_cell_tmp rfl]
    simp only [Array.getD_eq_getD_getElem?, List.getElem?_toArray, List.getElem?_cons_succ, List.getElem?_cons_zero, Option.getD_some, asAddr, Sem.run_pure, Result.andThen_ok]
    rw [run_loadVar_row _ w.heap.size 54 54 ZS (0, 0) _ (setRow_heap _ _ _ _ _ _ Hr.out) Try.underlying54 rfl Hsz.out, HZS.out]
    rfl
  · exact spZ_q _ _ _
  · exact below_row (below_al HB3.out) (Nat.le_refl _)
set_option maxRecDepth 100000 in
set_option maxHeartbeats 4000000 in
theorem decodeSpan_err (s : ByteArray) (hs : s.size ≤ 1000000) (he : endE s (rdspan s (0, 0)).2 ≠ 0) (w : World) :
    Calls Try.prog 27 #[.string s] w (DecSPost w spZ (endE s (rdspan s (0, 0)).2)) := by
  have hc := decode_span_err s hs he (w.alloc (.cells #[.int .i64 0, .int .i64 0, .int .i64 0, .int .i64 0, .int .i64 0, .int .i64 0, .string ⟨#[]⟩, .string ⟨#[]⟩, .string ⟨#[]⟩, .int .i64 0, .int .i64 0, .bool false, .slice none 0 0, .slice none 0 0] 54))
  have Hz : Hid ((w.alloc (.cells #[.int .i64 0, .int .i64 0, .int .i64 0, .int .i64 0, .int .i64 0, .int .i64 0, .string ⟨#[]⟩, .string ⟨#[]⟩, .string ⟨#[]⟩, .int .i64 0, .int .i64 0, .bool false, .slice none 0 0, .slice none 0 0] 54)).heap[w.heap.size]? = some (.cells #[.int .i64 0, .int .i64 0, .int .i64 0, .int .i64 0, .int .i64 0, .int .i64 0, .string ⟨#[]⟩, .string ⟨#[]⟩, .string ⟨#[]⟩, .int .i64 0, .int .i64 0, .bool false, .slice none 0 0, .slice none 0 0] 54 (0, 0))) := Lib.hid (Deep.blk_alloc_new w _)
  have HA : Hid (Below w.heap.size w (w.alloc (.cells #[.int .i64 0, .int .i64 0, .int .i64 0, .int .i64 0, .int .i64 0, .int .i64 0, .string ⟨#[]⟩, .string ⟨#[]⟩, .string ⟨#[]⟩, .int .i64 0, .int .i64 0, .bool false, .slice none 0 0, .slice none 0 0] 54))) := Lib.hid ((Below.refl _ _).alloc (Nat.le_refl _) _)
  obtain ⟨E, hE⟩ : ∃ E, E = endE s (rdspan s (0, 0)).2 := ⟨_, rfl⟩
  rw [← hE] at hc ⊢
  have Hc := Lib.hid hc
  clear hc hE he
  unfold DecSPost spZ Sp.cells at Hc ⊢
  dsimp only at Hc ⊢
  go_enter Try.func27, Try.ntmps27
  go_wp2_with fail
  refine Hc.out.mono ?_
  rintro e w1 ⟨⟨va, vl, rfl, hq⟩, hb⟩
  obtain ⟨A1, c1, A2, c2, rfl, rfl, q1, q2⟩ := hq
  have hz := (hb.block w.heap.size (by simp)).trans Hz.out
  have Hz3 := Lib.hid hz
  have HB := Lib.hid (HA.out.trans (hb.mono (by simp)))
  have HQ1 := Lib.hid (Rq.low (lo' := w.heap.size + 1) q1 (by simp))
  have HQ2 := Lib.hid (Rq.low (lo' := w.heap.size + 1) q2 (by simp))
  have z0 := cell_of_row w1 w.heap.size 0 _ _ _ hz
  have y0 := frozen_of_row w1 w.heap.size 0 _ _ hz
  have z1 := cell_of_row w1 w.heap.size 1 _ _ _ hz
  have y1 := frozen_of_row w1 w.heap.size 1 _ _ hz
  have z2 := cell_of_row w1 w.heap.size 2 _ _ _ hz
  have y2 := frozen_of_row w1 w.heap.size 2 _ _ hz
  have z3 := cell_of_row w1 w.heap.size 3 _ _ _ hz
  have y3 := frozen_of_row w1 w.heap.size 3 _ _ hz
  have z4 := cell_of_row w1 w.heap.size 4 _ _ _ hz
  have y4 := frozen_of_row w1 w.heap.size 4 _ _ hz
  have z5 := cell_of_row w1 w.heap.size 5 _ _ _ hz
  have y5 := frozen_of_row w1 w.heap.size 5 _ _ hz
  have z6 := cell_of_row w1 w.heap.size 6 _ _ _ hz
  have y6 := frozen_of_row w1 w.heap.size 6 _ _ hz
  have z7 := cell_of_row w1 w.heap.size 7 _ _ _ hz
  have y7 := frozen_of_row w1 w.heap.size 7 _ _ hz
  have z8 := cell_of_row w1 w.heap.size 8 _ _ _ hz
  have y8 := frozen_of_row w1 w.heap.size 8 _ _ hz
  have z9 := cell_of_row w1 w.heap.size 9 _ _ _ hz
  have y9 := frozen_of_row w1 w.heap.size 9 _ _ hz
  have z10 := cell_of_row w1 w.heap.size 10 _ _ _ hz
  have y10 := frozen_of_row w1 w.heap.size 10 _ _ hz
  have z11 := cell_of_row w1 w.heap.size 11 _ _ _ hz
  have y11 := frozen_of_row w1 w.heap.size 11 _ _ hz
  have z12 := cell_of_row w1 w.heap.size 12 _ _ _ hz
  have y12 := frozen_of_row w1 w.heap.size 12 _ _ hz
  have z13 := cell_of_row w1 w.heap.size 13 _ _ _ hz
  have y13 := frozen_of_row w1 w.heap.size 13 _ _ hz
  clear hz hb q1 q2
  dsimp only at HQ1 HQ2 ⊢
  go_wp2_with fail
  refine bodyPost_ret (v := .tuple #[.agg #[.int .i64 0, .int .i64 0, .int .i64 0, .int .i64 0, .int .i64 0, .int .i64 0, .string ⟨#[]⟩, .string ⟨#[]⟩, .string ⟨#[]⟩, .int .i64 0, .int .i64 0, .bool false, .slice A1 0 c1, .slice A2 0 c2], .int .i64 E]) ?_ rfl ⟨⟨.slice A1 0 c1, .slice A2 0 c2, rfl, ?_⟩, ?_⟩
  · rw [results_cell_tmp rfl]
    simp only [Array.getD_eq_getD_getElem?, List.getElem?_toArray, List.getElem?_cons_succ, List.getElem?_cons_zero, Option.getD_some, asAddr, Sem.run_pure, Result.andThen_ok]
    rw [run_loadVar_row _ w.heap.size 54 54 #[.int .i64 0, .int .i64 0, .int .i64 0, .int .i64 0, .int .i64 0, .int .i64 0, .string ⟨#[]⟩, .string ⟨#[]⟩, .string ⟨#[]⟩, .int .i64 0, .int .i64 0, .bool false, .slice A1 0 c1, .slice A2 0 c2] (0, 0) _ (blk14 _ _ _ _ _ _ _ _ _ _ _ _ _ _ _ _ _ _ _ _ _ _ _ _ _ _ _ _ Hz3.out) Try.underlying54 rfl (by kernel_rfl)]
    rfl
  · exact ⟨A1, c1, A2, c2, rfl, rfl, Rq.nil, Rq.nil⟩
  · exact (below_set (below_set (below_set (below_set (below_set (below_set (below_set (below_set (below_set (below_set (below_set (below_set (below_set (below_set HB.out (Nat.le_refl _)) (Nat.le_refl _)) (Nat.le_refl _)) (Nat.le_refl _)) (Nat.le_refl _)) (Nat.le_refl _)) (Nat.le_refl _)) (Nat.le_refl _)) (Nat.le_refl _)) (Nat.le_refl _)) (Nat.le_refl _)) (Nat.le_refl _)) (Nat.le_refl _)) (Nat.le_refl _))
theorem span_full {s : ByteArray} (h : endE s (rdspan s (0, 0)).2 = 0) : rdspan s (0, 0) = ((rdspan s (0, 0)).1, (s.size, 0)) ∧ bytesOf (rdspan s (0, 0)).1.form = s ∧ (rdspan s (0, 0)).1.Read := by
  obtain ⟨h1, h2⟩ := end_ok h
  obtain ⟨_, h3, h4, h5⟩ := snd_span s (0, 0) h1
  dsimp only at h3 h4
  rw [Nat.zero_add] at h4
  have h6 := h3.le
  have h7 : (rdspan s (0, 0)).2 = (s.size, 0) := Prod.ext (by omega) h1
  exact ⟨Prod.ext rfl h7, h3.all (by omega), h5⟩
theorem decodeSpan_gen (s : ByteArray) (hs : s.size ≤ 1000000) (w : World) :
    Calls Try.prog 27 #[.string s] w (DecSPost w (if endE s (rdspan s (0, 0)).2 = 0 then (rdspan s (0, 0)).1 else spZ) (endE s (rdspan s (0, 0)).2)) := by
  by_cases he : endE s (rdspan s (0, 0)).2 = 0
  · rw [if_pos he, he]
    exact decodeSpan_any s hs _ (span_full he).1 w
  · rw [if_neg he]
    exact decodeSpan_err s hs he w
theorem rr_end (b : Nat) (s : ByteArray) (st : St) (_hs : s.size ≤ 1000000) (w : World) (h : RR w b s st) :
    Calls Try.prog 23 #[.pointer (qb b)] w fun e w' => e = .returned (.int .i64 (endE s st)) ∧ Below w.heap.size w w' := by
  obtain ⟨p, e⟩ := st
  have c0 := cell_of_row w b 0 _ _ _ h.1
  have c1 := cell_of_row w b 1 _ _ _ h.1
  have c2 := cell_of_row w b 2 _ _ _ h.1
  have hp : p ≤ s.size := h.2
  dsimp only at c0 c1 c2
  clear h
  unfold endE
  dsimp only
  by_cases he : e = 0
  · subst he
    rw [if_pos rfl]
    by_cases hl : p < s.size
    · rw [if_pos hl]
      have hl' : (p : Int) < (s.size : Int) := by omega
      go_enter Try.func23, Try.ntmps23
      go_wp2_with fail
      go_region
      go_wp2_with fail
      go_ret
      exact ⟨rfl, Below.drew (Below.refl _ _)⟩
    · rw [if_neg hl]
      have hl' : ¬ (p : Int) < (s.size : Int) := by omega
      go_enter Try.func23, Try.ntmps23
      go_wp2_with fail
      go_region
      go_wp2_with fail
      go_ret
      exact ⟨rfl, Below.drew (Below.refl _ _)⟩
  · rw [if_neg he]
    have he' : (e == (0 : Int)) = false := by simpa using he
    go_enter Try.func23, Try.ntmps23
    go_wp2_with fail
    go_region
    go_wp2_with fail
    go_ret
    exact ⟨rfl, Below.drew (Below.refl _ _)⟩
end Go.Proofs.Ytepcihfkkeahhaa
