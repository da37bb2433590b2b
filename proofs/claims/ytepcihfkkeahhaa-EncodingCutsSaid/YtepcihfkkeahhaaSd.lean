/- EncodeSpan, DecodeSpan. -/
import Derived.Test.YtepcihfkkeahhaaPw
import Derived.Test.YtepcihfkkeahhaaNl
import Derived.Laws.ResultCell
import Derived.Laws.Rows
namespace Go.Proofs.Ytepcihfkkeahhaa
open Go.ChangeShapes Go.WideShapes Go.ChangeAt Go.RowKit En

/-- A block of fourteen cells, all of them stored anew. -/
theorem blk14 {w : World} {g : Nat} {t : TypeId} (a0 a1 a2 a3 a4 a5 a6 a7 a8 a9 a10 a11 a12 a13 b0 b1 b2 b3 b4 b5 b6 b7 b8 b9 b10 b11 b12 b13 : Value) (h : w.heap[g]? = some (.cells #[a0, a1, a2, a3, a4, a5, a6, a7, a8, a9, a10, a11, a12, a13] t (0, 0))) :
    ((((((((((((((w.setCell ⟨g, 0, none⟩ b0).setCell ⟨g, 1, none⟩ b1).setCell ⟨g, 2, none⟩ b2).setCell ⟨g, 3, none⟩ b3).setCell ⟨g, 4, none⟩ b4).setCell ⟨g, 5, none⟩ b5).setCell ⟨g, 6, none⟩ b6).setCell ⟨g, 7, none⟩ b7).setCell ⟨g, 8, none⟩ b8).setCell ⟨g, 9, none⟩ b9).setCell ⟨g, 10, none⟩ b10).setCell ⟨g, 11, none⟩ b11).setCell ⟨g, 12, none⟩ b12).setCell ⟨g, 13, none⟩ b13).heap[g]? = some (.cells #[b0, b1, b2, b3, b4, b5, b6, b7, b8, b9, b10, b11, b12, b13] t (0, 0)) := by
  have h1 := (blk_set (off := 13) b13 (blk_set (off := 12) b12 (blk_set (off := 11) b11 (blk_set (off := 10) b10 (blk_set (off := 9) b9 (blk_set (off := 8) b8 (blk_set (off := 7) b7 (blk_set (off := 6) b6 (blk_set (off := 5) b5 (blk_set (off := 4) b4 (blk_set (off := 3) b3 (blk_set (off := 2) b2 (blk_set (off := 1) b1 (blk_set (off := 0) b0 h))))))))))))))
  simp only [List.setIfInBounds_toArray, List.set_cons_succ, List.set_cons_zero] at h1
  exact h1
theorem conv_own {w : World} {base : Nat} {v : Value} {F : List UInt8} (hown : w.ownsRow base 5 1 v F.length (F.map u8v)) (hF : 0 < F.length) :
    (convert 76 9 v).run Try.prog w = .ok (.string (bytesOf F)) w := by
  obtain ⟨b, c, cur, rfl, _, hblk, hcur, hcell⟩ := own_form hown hF
  exact run_convert_bytes_back w 76 9 5 ⟨b, 0, none⟩ c F Try.underlying76 Try.underlying5 Try.underlying9 (fun j hj => by
    rw [add_flat, Nat.zero_add, cell_of_row w b j cur _ _ hblk, hcell j hj]
    simp [u8v, hj])
theorem form_pos (s : Sp) : 0 < s.form.length := by
  have := num_ge1 s.t
  unfold Sp.form nums
  rw [List.flatMap_cons, List.append_assoc, List.length_append]; omega
set_option maxRecDepth 100000 in
theorem encode_span (s : Sp) (hs : s.Ok) (hlim : s.form.length ≤ 300000) (va vl : Value) (w : World) (hR : s.Has w w.heap.size va vl) :
    Calls Try.prog 26 #[.agg (s.cells va vl)] w fun e w' => e = .returned (.string (bytesOf s.form)) ∧ Below w.heap.size w w' := by
  have HA : Hid (Below w.heap.size w (w.alloc (.cells (s.cells va vl) 54))) := Lib.hid ((Below.refl _ _).alloc (Nat.le_refl _) _)
  have hc := append_span w.heap.size (.slice none 0 0) 0 [] (by omega) s hs va vl (w.alloc (.cells (s.cells va vl) 54)) (by simp) (by omega) ⟨rfl, Or.inl ⟨rfl, rfl⟩⟩ (hR.below HA.out)
  have hpos := form_pos s
  obtain ⟨F, hF⟩ : ∃ F, F = s.form := ⟨_, rfl⟩
  rw [← hF] at hc hpos ⊢
  have Hc := Lib.hid hc
  have Hpos := Lib.hid hpos
  clear hc hF hpos hR hlim
  go_enter Try.func26, Try.ntmps26
  unfold Sp.cells at Hc HA ⊢
  go_wp2_with fail
  refine Hc.out.mono ?_
  rintro e w1 ⟨⟨v, hown, rfl⟩, hB, _⟩
  rw [Nat.zero_add, List.nil_append] at hown
  have hcv := conv_own hown Hpos.out
  have HB := Lib.hid (HA.out.trans hB)
  clear hown hB
  go_wp2_with fail
  go_ret
  exact ⟨rfl, HB.out⟩
set_option maxRecDepth 100000 in
set_option maxHeartbeats 2000000 in
/-- The Span that a Reader reads, by the closure. -/
theorem span_closure (r : Nat) (s : ByteArray) (st : St) (hs : s.size ≤ 1000000) (w : World) (h : RP w (some ⟨r, 0, none⟩) s st) :
    Calls Try.prog 77 #[.pointer (some ⟨r, 0, none⟩)] w fun e w' => (∃ va vl, e = .returned (.agg ((rdspan s st).1.cells va vl)) ∧ (rdspan s st).1.HasQ w' w.heap.size (some ⟨r, 0, none⟩) va vl) ∧ RP w' (some ⟨r, 0, none⟩) s (rdspan s st).2 ∧ Gq w w' (some ⟨r, 0, none⟩) := by
  have hlt := h.lt
  have Hlt := Lib.hid hlt
  have HA := Lib.hid (h.below ((Below.refl w.heap.size w).alloc (Nat.le_refl _) (.cells (spZ.cells (.slice none 0 0) (.slice none 0 0)) 54)))
  have hc := span_q (some ⟨r, 0, none⟩) s st hs (w.alloc (.cells (spZ.cells (.slice none 0 0) (.slice none 0 0)) 54)) HA.out
  obtain ⟨R, hR⟩ : ∃ R, R = rdspan s st := ⟨_, rfl⟩
  rw [← hR] at hc ⊢
  obtain ⟨⟨t, i, p, rv, c, k, sv, ve, op, st', en, er, al, ls⟩, s2⟩ := R
  have Hc := Lib.hid hc
  clear hc hR h hlt
  unfold spZ Sp.cells at HA Hc
  dsimp only at Hc
  unfold Sp.cells
  dsimp only
  go_enter Try.func77, Try.ntmps77
  go_wp2_with fail
  refine Hc.out.mono ?_
  rintro e w1 ⟨⟨va, vl, rfl, hq⟩, hRP, hG⟩
  obtain ⟨A1, c1, A2, c2, rfl, rfl, q1, q2⟩ := hq
  have hblk := gq_block hG Hlt.out
  have HQ1 := Lib.hid (Rq.low (lo' := w.heap.size + 1) q1 (by simp))
  have HQ2 := Lib.hid (Rq.low (lo' := w.heap.size + 1) q2 (by simp))
  have HRP := Lib.hid hRP
  have HG := Lib.hid hG
  have Hblk := Lib.hid hblk
  dsimp only
  have z0 := cell_of_row w1 w.heap.size 0 _ _ _ hblk
  have y0 := frozen_of_row w1 w.heap.size 0 _ _ hblk
  have z1 := cell_of_row w1 w.heap.size 1 _ _ _ hblk
  have y1 := frozen_of_row w1 w.heap.size 1 _ _ hblk
  have z2 := cell_of_row w1 w.heap.size 2 _ _ _ hblk
  have y2 := frozen_of_row w1 w.heap.size 2 _ _ hblk
  have z3 := cell_of_row w1 w.heap.size 3 _ _ _ hblk
  have y3 := frozen_of_row w1 w.heap.size 3 _ _ hblk
  have z4 := cell_of_row w1 w.heap.size 4 _ _ _ hblk
  have y4 := frozen_of_row w1 w.heap.size 4 _ _ hblk
  have z5 := cell_of_row w1 w.heap.size 5 _ _ _ hblk
  have y5 := frozen_of_row w1 w.heap.size 5 _ _ hblk
  have z6 := cell_of_row w1 w.heap.size 6 _ _ _ hblk
  have y6 := frozen_of_row w1 w.heap.size 6 _ _ hblk
  have z7 := cell_of_row w1 w.heap.size 7 _ _ _ hblk
  have y7 := frozen_of_row w1 w.heap.size 7 _ _ hblk
  have z8 := cell_of_row w1 w.heap.size 8 _ _ _ hblk
  have y8 := frozen_of_row w1 w.heap.size 8 _ _ hblk
  have z9 := cell_of_row w1 w.heap.size 9 _ _ _ hblk
  have y9 := frozen_of_row w1 w.heap.size 9 _ _ hblk
  have z10 := cell_of_row w1 w.heap.size 10 _ _ _ hblk
  have y10 := frozen_of_row w1 w.heap.size 10 _ _ hblk
  have z11 := cell_of_row w1 w.heap.size 11 _ _ _ hblk
  have y11 := frozen_of_row w1 w.heap.size 11 _ _ hblk
  have z12 := cell_of_row w1 w.heap.size 12 _ _ _ hblk
  have y12 := frozen_of_row w1 w.heap.size 12 _ _ hblk
  have z13 := cell_of_row w1 w.heap.size 13 _ _ _ hblk
  have y13 := frozen_of_row w1 w.heap.size 13 _ _ hblk
  clear hblk hRP hG q1 q2
  go_wp2_with fail
  refine bodyPost_ret (v := .agg #[.int .i64 t, .int .i64 i, .int .i64 p, .int .i64 rv, .int .i64 c, .int .i64 k, .string sv, .string ve, .string op, .int .i64 st', .int .i64 en, .bool er, .slice A1 al.length c1, .slice A2 ls.length c2]) (results_cell_row rfl _ _ w.heap.size 54 #[.int .i64 t, .int .i64 i, .int .i64 p, .int .i64 rv, .int .i64 c, .int .i64 k, .string sv, .string ve, .string op, .int .i64 st', .int .i64 en, .bool er, .slice A1 al.length c1, .slice A2 ls.length c2] (0, 0) _ rfl (blk14 _ _ _ _ _ _ _ _ _ _ _ _ _ _ _ _ _ _ _ _ _ _ _ _ _ _ _ _ Hblk.out) Try.underlying54 rfl (by kernel_rfl)) rfl ⟨⟨.slice A1 al.length c1, .slice A2 ls.length c2, rfl, ⟨A1, c1, A2, c2, rfl, rfl, ?_, ?_⟩⟩, ?_, ?_⟩
  · refine Rq.low (lo := w.heap.size + 1) ?_ (Nat.le_succ _)
    exact (Rq.set (Rq.set (Rq.set (Rq.set (Rq.set (Rq.set (Rq.set (Rq.set (Rq.set (Rq.set (Rq.set (Rq.set (Rq.set (Rq.set HQ1.out (Nat.lt_succ_self _)) (Nat.lt_succ_self _)) (Nat.lt_succ_self _)) (Nat.lt_succ_self _)) (Nat.lt_succ_self _)) (Nat.lt_succ_self _)) (Nat.lt_succ_self _)) (Nat.lt_succ_self _)) (Nat.lt_succ_self _)) (Nat.lt_succ_self _)) (Nat.lt_succ_self _)) (Nat.lt_succ_self _)) (Nat.lt_succ_self _)) (Nat.lt_succ_self _))
  · refine Rq.low (lo := w.heap.size + 1) ?_ (Nat.le_succ _)
    exact (Rq.set (Rq.set (Rq.set (Rq.set (Rq.set (Rq.set (Rq.set (Rq.set (Rq.set (Rq.set (Rq.set (Rq.set (Rq.set (Rq.set HQ2.out (Nat.lt_succ_self _)) (Nat.lt_succ_self _)) (Nat.lt_succ_self _)) (Nat.lt_succ_self _)) (Nat.lt_succ_self _)) (Nat.lt_succ_self _)) (Nat.lt_succ_self _)) (Nat.lt_succ_self _)) (Nat.lt_succ_self _)) (Nat.lt_succ_self _)) (Nat.lt_succ_self _)) (Nat.lt_succ_self _)) (Nat.lt_succ_self _)) (Nat.lt_succ_self _))
  · exact (rp_set (rp_set (rp_set (rp_set (rp_set (rp_set (rp_set (rp_set (rp_set (rp_set (rp_set (rp_set (rp_set (rp_set HRP.out (fun g hg => Nat.ne_of_lt (Hlt.out g hg))) (fun g hg => Nat.ne_of_lt (Hlt.out g hg))) (fun g hg => Nat.ne_of_lt (Hlt.out g hg))) (fun g hg => Nat.ne_of_lt (Hlt.out g hg))) (fun g hg => Nat.ne_of_lt (Hlt.out g hg))) (fun g hg => Nat.ne_of_lt (Hlt.out g hg))) (fun g hg => Nat.ne_of_lt (Hlt.out g hg))) (fun g hg => Nat.ne_of_lt (Hlt.out g hg))) (fun g hg => Nat.ne_of_lt (Hlt.out g hg))) (fun g hg => Nat.ne_of_lt (Hlt.out g hg))) (fun g hg => Nat.ne_of_lt (Hlt.out g hg))) (fun g hg => Nat.ne_of_lt (Hlt.out g hg))) (fun g hg => Nat.ne_of_lt (Hlt.out g hg))) (fun g hg => Nat.ne_of_lt (Hlt.out g hg)))
  · exact (gq_set (gq_set (gq_set (gq_set (gq_set (gq_set (gq_set (gq_set (gq_set (gq_set (gq_set (gq_set (gq_set (gq_set (gq_alloc HG.out) (Nat.le_refl _)) (Nat.le_refl _)) (Nat.le_refl _)) (Nat.le_refl _)) (Nat.le_refl _)) (Nat.le_refl _)) (Nat.le_refl _)) (Nat.le_refl _)) (Nat.le_refl _)) (Nat.le_refl _)) (Nat.le_refl _)) (Nat.le_refl _)) (Nat.le_refl _)) (Nat.le_refl _))
end Go.Proofs.Ytepcihfkkeahhaa
