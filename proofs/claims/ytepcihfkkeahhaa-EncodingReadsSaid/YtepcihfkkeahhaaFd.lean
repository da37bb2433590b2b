/- DecodeFragment, DecodeTrace (written by wip/bin/gen_fd.py). -/
import Derived.Test.YtepcihfkkeahhaaFc
namespace Go.Proofs.Ytepcihfkkeahhaa
open Go.ChangeShapes Go.WideShapes Go.ChangeAt Go.RowKit En

theorem blk4 {w : World} {g : Nat} {t : TypeId} (a0 a1 a2 a3 b0 b1 b2 b3 : Value) (h : w.heap[g]? = some (.cells #[a0, a1, a2, a3] t (0, 0))) :
    ((((w.setCell ⟨g, 0, none⟩ b0).setCell ⟨g, 1, none⟩ b1).setCell ⟨g, 2, none⟩ b2).setCell ⟨g, 3, none⟩ b3).heap[g]? = some (.cells #[b0, b1, b2, b3] t (0, 0)) := by
  have h1 := (blk_set (off := 3) b3 (blk_set (off := 2) b2 (blk_set (off := 1) b1 (blk_set (off := 0) b0 h))))
  simp only [List.setIfInBounds_toArray, List.set_cons_succ, List.set_cons_zero] at h1
  exact h1
theorem blk3 {w : World} {g : Nat} {t : TypeId} (a0 a1 a2 b0 b1 b2 : Value) (h : w.heap[g]? = some (.cells #[a0, a1, a2] t (0, 0))) :
    (((w.setCell ⟨g, 0, none⟩ b0).setCell ⟨g, 1, none⟩ b1).setCell ⟨g, 2, none⟩ b2).heap[g]? = some (.cells #[b0, b1, b2] t (0, 0)) := by
  have h1 := (blk_set (off := 2) b2 (blk_set (off := 1) b1 (blk_set (off := 0) b0 h)))
  simp only [List.setIfInBounds_toArray, List.set_cons_succ, List.set_cons_zero] at h1
  exact h1
theorem below_al {a w : World} {o : Obj} (h : Below a.heap.size a w) : Below a.heap.size a (w.alloc o) := h.alloc h.size o
/-- What DecodeFragment reads, and DecodeTrace. -/
def rdfrag (s : ByteArray) (st : St) : (Int × Int × List Sp × List Ex) × St :=
  let x1 := rdG 0 scan s st
  let x2 := rdG 0 scan s x1.2
  let x3 := rdList (rdspan s) s x2.2
  let x4 := rdList (rdexch s) s x3.2
  ((x1.1, x2.1, x3.1, x4.1), x4.2)
def rdtrace (s : ByteArray) (st : St) : (Int × Int × List Sp) × St :=
  let x1 := rdG 0 scan s st
  let x2 := rdG 0 scan s x1.2
  let x3 := rdList (rdspan s) s x2.2
  ((x1.1, x2.1, x3.1), x3.2)
/-- What DecodeFragment returns. -/
def DecFPost (w : World) (R : Int × Int × List Sp × List Ex) (E : Int) (e : Ending) (w' : World) : Prop :=
  (∃ A c L A2 c2, L.map Prod.fst = R.2.2.1 ∧ e = .returned (.tuple #[.agg #[.int .i64 R.1, .int .i64 R.2.1, .slice A L.length c, .slice A2 R.2.2.2.length c2], .int .i64 E]) ∧ SvsQ w' w.heap.size none A L ∧ Rq w' w.heap.size none A2 (exCells R.2.2.2)) ∧ Below w.heap.size w w'
def DecTPost (w : World) (R : Int × Int × List Sp) (E : Int) (e : Ending) (w' : World) : Prop :=
  (∃ A c L, L.map Prod.fst = R.2.2 ∧ e = .returned (.tuple #[.agg #[.int .i64 R.1, .int .i64 R.2.1, .slice A L.length c], .int .i64 E]) ∧ SvsQ w' w.heap.size none A L) ∧ Below w.heap.size w w'
theorem svs_nil (w : World) (lo : Nat) (q : Option Addr) : SvsQ w lo q none [] := ⟨Rqs.nil, fun x hx => absurd hx (by simp)⟩

set_option maxRecDepth 100000 in
set_option maxHeartbeats 2000000 in
theorem frag_closure (r : Nat) (s : ByteArray) (st : St) (hs : s.size ≤ 1000000) (w : World) (h : RP w (some ⟨r, 0, none⟩) s st) :
    Calls Try.prog 82 #[.pointer (some ⟨r, 0, none⟩)] w fun e w' => (∃ A c L A2 c2, L.map Prod.fst = (rdfrag s st).1.2.2.1 ∧ e = .returned (.agg #[.int .i64 (rdfrag s st).1.1, .int .i64 (rdfrag s st).1.2.1, .slice A L.length c, .slice A2 (rdfrag s st).1.2.2.2.length c2]) ∧ SvsQ w' w.heap.size (some ⟨r, 0, none⟩) A L ∧ Rq w' w.heap.size (some ⟨r, 0, none⟩) A2 (exCells ((rdfrag s st).1.2.2.2))) ∧ RP w' (some ⟨r, 0, none⟩) s (rdfrag s st).2 ∧ Gq w w' (some ⟨r, 0, none⟩) := by
  have hlt := h.lt
  have Hlt := Lib.hid hlt
  obtain ⟨x1, hx1⟩ : ∃ x, x = rdG 0 scan s st := ⟨_, rfl⟩
  obtain ⟨x2, hx2⟩ : ∃ x, x = rdG 0 scan s x1.2 := ⟨_, rfl⟩
  obtain ⟨x3, hx3⟩ : ∃ x, x = rdList (rdspan s) s x2.2 := ⟨_, rfl⟩
  obtain ⟨x4, hx4⟩ : ∃ x, x = rdList (rdexch s) s x3.2 := ⟨_, rfl⟩
  have e0 : rdfrag s st = ((x1.1, x2.1, x3.1, x4.1), x4.2) := by rw [hx4, hx3, hx2, hx1]; rfl
  rw [e0]
  have HA := Lib.hid (h.below ((Below.refl w.heap.size w).alloc (Nat.le_refl _) (.cells #[.int .i64 0, .int .i64 0, .slice none 0 0, .slice none 0 0] 62)))
  have HG0 := Lib.hid (Gq.of_below ((Below.refl w.heap.size w).alloc (Nat.le_refl _) (.cells #[.int .i64 0, .int .i64 0, .slice none 0 0, .slice none 0 0] 62)) (some ⟨r, 0, none⟩))
  have Hx1 := Lib.hid hx1
  have Hx2 := Lib.hid hx2
  have Hx3 := Lib.hid hx3
  have Hx4 := Lib.hid hx4
  clear hx1 hx2 hx3 hx4 e0 h hlt
  dsimp only
  go_enter Try.func82, Try.ntmps82
  go_wp2_with fail
  have hc1 := number_q (some ⟨r, 0, none⟩) s st hs _ HA.out
  rw [← Hx1.out] at hc1
  refine hc1.mono ?_
  rintro e w1 ⟨rfl, h1, g1⟩
  have H1 := Lib.hid h1
  have hblk := gq_block g1 Hlt.out
  have Hblk1 := Lib.hid hblk
  have G1 := Lib.hid (gq_alloc g1)
  have hs1 : w.heap.size < w1.heap.size := (Array.getElem?_eq_some_iff.1 hblk).1
  clear h1 g1 hc1 hblk
  go_wp2_with fail
  have hc2 := number_q (some ⟨r, 0, none⟩) s x1.2 hs w1 H1.out
  rw [← Hx2.out] at hc2
  refine hc2.mono ?_
  rintro e w2 ⟨rfl, h2, g2⟩
  have H2 := Lib.hid h2
  have Hblk2 := Lib.hid ((g2.block w.heap.size hs1 (fun e => by have := Hlt.out _ (Eq.symm e); omega)).trans Hblk1.out)
  have G2 := Lib.hid (Gq.trans G1.out g2)
  have hs2 : w.heap.size < w2.heap.size := (Array.getElem?_eq_some_iff.1 Hblk2.out).1
  clear h2 g2 hc2
  go_wp2_with fail
  have hc3 := spans_q (some ⟨r, 0, none⟩) s x2.2 hs w2 H2.out
  rw [← Hx3.out] at hc3
  refine hc3.mono ?_
  rintro e w3 ⟨⟨A, c, L, hL, hS, rfl⟩, h3, g3⟩
  have H3 := Lib.hid h3
  have Hblk3 := Lib.hid ((g3.block w.heap.size hs2 (fun e => by have := Hlt.out _ (Eq.symm e); omega)).trans Hblk2.out)
  have G3 := Lib.hid (Gq.trans G2.out g3)
  have HL := Lib.hid hL
  have HS3 := Lib.hid (hS.low (lo' := w.heap.size + 1) (by omega))
  have hs3 : w.heap.size < w3.heap.size := (Array.getElem?_eq_some_iff.1 Hblk3.out).1
  clear h3 g3 hc3 hL hS
  go_wp2_with fail
  have hc4 := exchs_q (some ⟨r, 0, none⟩) s x3.2 hs w3 H3.out
  rw [← Hx4.out] at hc4
  refine hc4.mono ?_
  rintro e w4 ⟨⟨A2, c2, hE, rfl⟩, h4, g4⟩
  have H4 := Lib.hid h4
  have Hblk4 := Lib.hid ((g4.block w.heap.size hs3 (fun e => by have := Hlt.out _ (Eq.symm e); omega)).trans Hblk3.out)
  have G4 := Lib.hid (Gq.trans G3.out g4)
  have HS4 := Lib.hid (HS3.out.gq g4)
  have HE4 := Lib.hid (hE.low (lo' := w.heap.size + 1) (by omega))
  have hs4 : w.heap.size < w4.heap.size := (Array.getElem?_eq_some_iff.1 Hblk4.out).1
  clear h4 g4 hc4 hE
  have z0 := cell_of_row w4 w.heap.size 0 _ _ _ Hblk4.out
  have y0 := frozen_of_row w4 w.heap.size 0 _ _ Hblk4.out
  have z1 := cell_of_row w4 w.heap.size 1 _ _ _ Hblk4.out
  have y1 := frozen_of_row w4 w.heap.size 1 _ _ Hblk4.out
  have z2 := cell_of_row w4 w.heap.size 2 _ _ _ Hblk4.out
  have y2 := frozen_of_row w4 w.heap.size 2 _ _ Hblk4.out
  have z3 := cell_of_row w4 w.heap.size 3 _ _ _ Hblk4.out
  have y3 := frozen_of_row w4 w.heap.size 3 _ _ Hblk4.out
  go_wp2_with fail
  refine bodyPost_ret (v := .agg #[.int .i64 x1.1, .int .i64 x2.1, .slice A L.length c, .slice A2 x4.1.length c2]) (results_cell_row rfl _ _ w.heap.size 62 #[.int .i64 x1.1, .int .i64 x2.1, .slice A L.length c, .slice A2 x4.1.length c2] (0, 0) _ rfl (blk4 _ _ _ _ _ _ _ _ Hblk4.out) Try.underlying62 rfl (by kernel_rfl)) rfl ⟨⟨A, c, L, A2, c2, HL.out, rfl, ?_, ?_⟩, ?_, ?_⟩
  · exact SvsQ.low (lo := w.heap.size + 1) (SvsQ.set (SvsQ.set (SvsQ.set (SvsQ.set HS4.out (Nat.lt_succ_self _)) (Nat.lt_succ_self _)) (Nat.lt_succ_self _)) (Nat.lt_succ_self _)) (Nat.le_succ _)
  · exact Rq.low (lo := w.heap.size + 1) (Rq.set (Rq.set (Rq.set (Rq.set HE4.out (Nat.lt_succ_self _)) (Nat.lt_succ_self _)) (Nat.lt_succ_self _)) (Nat.lt_succ_self _)) (Nat.le_succ _)
  · exact (rp_set (rp_set (rp_set (rp_set H4.out (fun g hg => Nat.ne_of_lt (Hlt.out g hg))) (fun g hg => Nat.ne_of_lt (Hlt.out g hg))) (fun g hg => Nat.ne_of_lt (Hlt.out g hg))) (fun g hg => Nat.ne_of_lt (Hlt.out g hg)))
  · exact (gq_set (gq_set (gq_set (gq_set G4.out (Nat.le_refl _)) (Nat.le_refl _)) (Nat.le_refl _)) (Nat.le_refl _))

set_option maxRecDepth 100000 in
set_option maxHeartbeats 2000000 in
theorem decode_frag (s : ByteArray) (hs : s.size ≤ 1000000) (w : World) :
    Calls Try.prog 81 #[.string s, .func (.func 82) #[] #[]] w (DecFPost w (if endE s (rdfrag s (0, 0)).2 = 0 then (rdfrag s (0, 0)).1 else (0, 0, [], [])) (endE s (rdfrag s (0, 0)).2)) := by
  have hnr := new_reader s (w.alloc (.cells #[.int .i64 0, .int .i64 0, .slice none 0 0, .slice none 0 0] 62))
  have Hz : Hid ((w.alloc (.cells #[.int .i64 0, .int .i64 0, .slice none 0 0, .slice none 0 0] 62)).heap[w.heap.size]? = some (.cells #[.int .i64 0, .int .i64 0, .slice none 0 0, .slice none 0 0] 62 (0, 0))) := Lib.hid (Deep.blk_alloc_new w _)
  have HA : Hid (Below w.heap.size w (w.alloc (.cells #[.int .i64 0, .int .i64 0, .slice none 0 0, .slice none 0 0] 62))) := Lib.hid ((Below.refl _ _).alloc (Nat.le_refl _) _)
  have hcl := fun W h => frag_closure (w.heap.size + 1) s (0, 0) hs W h
  obtain ⟨R, hR⟩ : ∃ R, R = rdfrag s (0, 0) := ⟨_, rfl⟩
  rw [← hR]
  simp only [← hR] at hcl
  obtain ⟨⟨xa, xq, xl, M⟩, s2⟩ := R
  have Hnr := Lib.hid hnr
  have Hcl := Lib.hid hcl
  clear hnr hcl hR
  dsimp only at Hcl ⊢
  obtain ⟨E, hE⟩ : ∃ E, E = endE s s2 := ⟨_, rfl⟩
  rw [← hE]
  have HEe := Lib.hid hE
  clear hE
  by_cases hz0 : E = 0
  · subst hz0
    rw [if_pos rfl]
    unfold DecFPost
    dsimp only
    go_enter Try.func81, Try.ntmps81
    go_wp2_with fail
    refine Hnr.out.mono ?_
    rintro e w1 ⟨rfl, hR1, hb1⟩
    have hsz0 : (w.alloc (.cells #[.int .i64 0, .int .i64 0, .slice none 0 0, .slice none 0 0] 62)).heap.size = w.heap.size + 1 := by simp
    rw [hsz0] at hR1
    have HR1 := Lib.hid hR1
    have HB1 := Lib.hid (HA.out.trans (hb1.mono (by simp)))
    have Hz1 := Lib.hid ((hb1.block w.heap.size (by simp)).trans Hz.out)
    have hlt1 := hR1.lt
    clear hR1 hb1 hsz0
    go_wp2_with fail
    refine (Hcl.out w1 (Or.inr ⟨_, rfl, HR1.out⟩)).mono ?_
    rintro e w2 ⟨⟨A, c, L, A2, c2, hL, rfl, hS, hE⟩, hRP, hG⟩
    have HL := Lib.hid hL
    have HS := Lib.hid hS
    have HE := Lib.hid hE
    have HRP := Lib.hid hRP
    have HG := Lib.hid hG
    have HB2 := Lib.hid (below_gq HB1.out hG (Nat.le_succ _))
    have Hz2 := Lib.hid ((hG.block w.heap.size (by omega) (fun e => by simp at e)).trans Hz1.out)
    clear hL hS hRP hG hE
    go_wp2_with fail
    have hwf : Below w2.heap.size w2 (w2.alloc (.cells #[.int .i64 xa, .int .i64 xq, .slice A L.length c, .slice A2 M.length c2] 62)) := (Below.refl _ _).alloc (Nat.le_refl _) _
    have hen := end_q (some ⟨w.heap.size + 1, 0, none⟩) s s2 hs _ (HRP.out.below hwf)
    rw [← HEe.out] at hen
    refine hen.mono ?_
    rintro e w3 ⟨rfl, hb3⟩
    have HBf := Lib.hid (hwf.trans (hb3.mono (by simp)))
    have hl3 : w2.heap.size < w3.heap.size := by have := hb3.size; simp at this; omega
    have hlw2 : w.heap.size < w2.heap.size := (Array.getElem?_eq_some_iff.1 Hz2.out).1
    have hb := (hb3.block w2.heap.size (by simp)).trans (Deep.blk_alloc_new w2 _)
    have hz := (HBf.out.block w.heap.size hlw2).trans Hz2.out
    have Hz3 := Lib.hid hz
    have HB3 := Lib.hid (HB2.out.trans (HBf.out.mono HB2.out.size))
    have HS3 := Lib.hid (SvsQ.low (lo' := w.heap.size + 1) (HS.out.gq (Gq.of_below HBf.out (some ⟨w.heap.size + 1, 0, none⟩))) (by omega))
    have HE3 := Lib.hid (Rq.low (lo' := w.heap.size + 1) (HE.out.gq (Gq.of_below HBf.out (some ⟨w.heap.size + 1, 0, none⟩))) (by omega))
    have d0 := cell_of_row w3 w2.heap.size 0 _ _ _ hb
    have z0 := cell_of_row w3 w.heap.size 0 _ _ _ hz
    have y0 := frozen_of_row w3 w.heap.size 0 _ _ hz
    have d1 := cell_of_row w3 w2.heap.size 1 _ _ _ hb
    have z1 := cell_of_row w3 w.heap.size 1 _ _ _ hz
    have y1 := frozen_of_row w3 w.heap.size 1 _ _ hz
    have d2 := cell_of_row w3 w2.heap.size 2 _ _ _ hb
    have z2 := cell_of_row w3 w.heap.size 2 _ _ _ hz
    have y2 := frozen_of_row w3 w.heap.size 2 _ _ hz
    have d3 := cell_of_row w3 w2.heap.size 3 _ _ _ hb
    have z3 := cell_of_row w3 w.heap.size 3 _ _ _ hz
    have y3 := frozen_of_row w3 w.heap.size 3 _ _ hz
    clear hb hz hwf hen hb3
    go_wp2_with fail
    refine bodyPost_ret (v := .tuple #[.agg #[.int .i64 xa, .int .i64 xq, .slice A L.length c, .slice A2 M.length c2], .int .i64 0]) ?_ rfl ⟨⟨A, c, L, A2, c2, HL.out, rfl, ?_, ?_⟩, ?_⟩
    · rw [results_cell_tmp rfl]
      simp only [Array.getD_eq_getD_getElem?, List.getElem?_toArray, List.getElem?_cons_succ, List.getElem?_cons_zero, Option.getD_some, asAddr, Sem.run_pure, Result.andThen_ok]
      rw [run_loadVar_row _ w.heap.size 62 62 #[.int .i64 xa, .int .i64 xq, .slice A L.length c, .slice A2 M.length c2] (0, 0) _ (blk4 _ _ _ _ _ _ _ _ Hz3.out) Try.underlying62 rfl (by kernel_rfl)]
      rfl
    · exact SvsQ.none_ (SvsQ.low (lo := w.heap.size + 1) (SvsQ.set (SvsQ.set (SvsQ.set (SvsQ.set HS3.out (Nat.lt_succ_self _)) (Nat.lt_succ_self _)) (Nat.lt_succ_self _)) (Nat.lt_succ_self _)) (Nat.le_succ _))
    · exact Rq.none_ (Rq.low (lo := w.heap.size + 1) (Rq.set (Rq.set (Rq.set (Rq.set HE3.out (Nat.lt_succ_self _)) (Nat.lt_succ_self _)) (Nat.lt_succ_self _)) (Nat.lt_succ_self _)) (Nat.le_succ _))
    · exact (below_set (below_set (below_set (below_set HB3.out (Nat.le_refl _)) (Nat.le_refl _)) (Nat.le_refl _)) (Nat.le_refl _))
  · have hne : (E != (0 : Int)) = true := by simpa using hz0
    rw [if_neg hz0]
    unfold DecFPost
    dsimp only
    go_enter Try.func81, Try.ntmps81
    go_wp2_with fail
    refine Hnr.out.mono ?_
    rintro e w1 ⟨rfl, hR1, hb1⟩
    have hsz0 : (w.alloc (.cells #[.int .i64 0, .int .i64 0, .slice none 0 0, .slice none 0 0] 62)).heap.size = w.heap.size + 1 := by simp
    rw [hsz0] at hR1
    have HR1 := Lib.hid hR1
    have HB1 := Lib.hid (HA.out.trans (hb1.mono (by simp)))
    have Hz1 := Lib.hid ((hb1.block w.heap.size (by simp)).trans Hz.out)
    have hlt1 := hR1.lt
    clear hR1 hb1 hsz0
    go_wp2_with fail
    refine (Hcl.out w1 (Or.inr ⟨_, rfl, HR1.out⟩)).mono ?_
    rintro e w2 ⟨⟨A, c, L, A2, c2, hL, rfl, hS, hE⟩, hRP, hG⟩
    have HL := Lib.hid hL
    have HS := Lib.hid hS
    have HE := Lib.hid hE
    have HRP := Lib.hid hRP
    have HG := Lib.hid hG
    have HB2 := Lib.hid (below_gq HB1.out hG (Nat.le_succ _))
    have Hz2 := Lib.hid ((hG.block w.heap.size (by omega) (fun e => by simp at e)).trans Hz1.out)
    clear hL hS hRP hG hE
    go_wp2_with fail
    have hwf : Below w2.heap.size w2 (w2.alloc (.cells #[.int .i64 xa, .int .i64 xq, .slice A L.length c, .slice A2 M.length c2] 62)) := (Below.refl _ _).alloc (Nat.le_refl _) _
    have hen := end_q (some ⟨w.heap.size + 1, 0, none⟩) s s2 hs _ (HRP.out.below hwf)
    rw [← HEe.out] at hen
    refine hen.mono ?_
    rintro e w3 ⟨rfl, hb3⟩
    have HBf := Lib.hid (hwf.trans (hb3.mono (by simp)))
    have hl3 : w2.heap.size < w3.heap.size := by have := hb3.size; simp at this; omega
    have hlw2 : w.heap.size < w2.heap.size := (Array.getElem?_eq_some_iff.1 Hz2.out).1
    have hb := (hb3.block w2.heap.size (by simp)).trans (Deep.blk_alloc_new w2 _)
    have hz := (HBf.out.block w.heap.size hlw2).trans Hz2.out
    have Hz3 := Lib.hid hz
    have HB3 := Lib.hid (HB2.out.trans (HBf.out.mono HB2.out.size))
    have HS3 := Lib.hid (SvsQ.low (lo' := w.heap.size + 1) (HS.out.gq (Gq.of_below HBf.out (some ⟨w.heap.size + 1, 0, none⟩))) (by omega))
    have HE3 := Lib.hid (Rq.low (lo' := w.heap.size + 1) (HE.out.gq (Gq.of_below HBf.out (some ⟨w.heap.size + 1, 0, none⟩))) (by omega))
    have z0 := cell_of_row w3 w.heap.size 0 _ _ _ hz
    have y0 := frozen_of_row w3 w.heap.size 0 _ _ hz
    have z1 := cell_of_row w3 w.heap.size 1 _ _ _ hz
    have y1 := frozen_of_row w3 w.heap.size 1 _ _ hz
    have z2 := cell_of_row w3 w.heap.size 2 _ _ _ hz
    have y2 := frozen_of_row w3 w.heap.size 2 _ _ hz
    have z3 := cell_of_row w3 w.heap.size 3 _ _ _ hz
    have y3 := frozen_of_row w3 w.heap.size 3 _ _ hz
    have hlw3 : w.heap.size < w3.heap.size := by omega
    clear hb hz hwf hen hb3
    go_wp2_with fail
    refine bodyPost_ret (v := .tuple #[.agg #[.int .i64 0, .int .i64 0, .slice none 0 0, .slice none 0 0], .int .i64 E]) ?_ rfl ⟨⟨none, 0, [], none, 0, rfl, rfl, ?_, ?_⟩, ?_⟩
    · rw [results_cell_tmp rfl]
      simp only [Array.getD_eq_getD_getElem?, List.getElem?_toArray, List.getElem?_cons_succ, List.getElem?_cons_zero, Option.getD_some, asAddr, Sem.run_pure, Result.andThen_ok]
      rw [run_loadVar_row _ w.heap.size 62 62 #[.int .i64 0, .int .i64 0, .slice none 0 0, .slice none 0 0] (0, 0) _ ((Deep.blk_alloc_lt _ _ _ (Array.getElem?_eq_some_iff.1 (blk4 _ _ _ _ _ _ _ _ Hz3.out)).1).trans (blk4 _ _ _ _ _ _ _ _ Hz3.out)) Try.underlying62 rfl (by kernel_rfl)]
      rfl
    · exact svs_nil _ _ _
    · exact Rq.nil
    · exact below_al (below_set (below_set (below_set (below_set HB3.out (Nat.le_refl _)) (Nat.le_refl _)) (Nat.le_refl _)) (Nat.le_refl _))
set_option maxRecDepth 100000 in
set_option maxHeartbeats 2000000 in
theorem decodeFragment_any (s : ByteArray) (hs : s.size ≤ 1000000) (w : World) :
    Calls Try.prog 32 #[.string s] w (DecFPost w (if endE s (rdfrag s (0, 0)).2 = 0 then (rdfrag s (0, 0)).1 else (0, 0, [], [])) (endE s (rdfrag s (0, 0)).2)) := by
  have hc := decode_frag s hs (w.alloc (.cells #[.int .i64 0, .int .i64 0, .slice none 0 0, .slice none 0 0] 62))
  have Hz : Hid ((w.alloc (.cells #[.int .i64 0, .int .i64 0, .slice none 0 0, .slice none 0 0] 62)).heap[w.heap.size]? = some (.cells #[.int .i64 0, .int .i64 0, .slice none 0 0, .slice none 0 0] 62 (0, 0))) := Lib.hid (Deep.blk_alloc_new w _)
  have HA : Hid (Below w.heap.size w (w.alloc (.cells #[.int .i64 0, .int .i64 0, .slice none 0 0, .slice none 0 0] 62))) := Lib.hid ((Below.refl _ _).alloc (Nat.le_refl _) _)
  obtain ⟨R, hR⟩ : ∃ R, R = (if endE s (rdfrag s (0, 0)).2 = 0 then (rdfrag s (0, 0)).1 else (0, 0, [], [])) := ⟨_, rfl⟩
  rw [← hR] at hc ⊢
  obtain ⟨E, hE⟩ : ∃ E, E = endE s (rdfrag s (0, 0)).2 := ⟨_, rfl⟩
  rw [← hE] at hc ⊢
  have Hc := Lib.hid hc
  clear hc hR hE
  unfold DecFPost at Hc ⊢
  obtain ⟨xa, xq, xl, M⟩ := R
  dsimp only at Hc ⊢
  go_enter Try.func32, Try.ntmps32
  go_wp2_with fail
  refine Hc.out.mono ?_
  rintro e w1 ⟨⟨A, c, L, A2, c2, hL, rfl, hS, hE⟩, hb⟩
  have hz := (hb.block w.heap.size (by simp)).trans Hz.out
  have Hz1 := Lib.hid hz
  have HB := Lib.hid (HA.out.trans (hb.mono (by simp)))
  rw [show (w.alloc (.cells #[.int .i64 0, .int .i64 0, .slice none 0 0, .slice none 0 0] 62)).heap.size = w.heap.size + 1 by simp] at hS hE
  have HL := Lib.hid hL
  have HS := Lib.hid hS
  have HE := Lib.hid hE
  have z0 := cell_of_row w1 w.heap.size 0 _ _ _ hz
  have y0 := frozen_of_row w1 w.heap.size 0 _ _ hz
  have z1 := cell_of_row w1 w.heap.size 1 _ _ _ hz
  have y1 := frozen_of_row w1 w.heap.size 1 _ _ hz
  have z2 := cell_of_row w1 w.heap.size 2 _ _ _ hz
  have y2 := frozen_of_row w1 w.heap.size 2 _ _ hz
  have z3 := cell_of_row w1 w.heap.size 3 _ _ _ hz
  have y3 := frozen_of_row w1 w.heap.size 3 _ _ hz
  clear hz hb hL hS hE
  go_wp2_with fail
  refine bodyPost_ret (v := .tuple #[.agg #[.int .i64 xa, .int .i64 xq, .slice A L.length c, .slice A2 M.length c2], .int .i64 E]) ?_ rfl ⟨⟨A, c, L, A2, c2, HL.out, rfl, ?_, ?_⟩, ?_⟩
  · rw [results_cell_tmp rfl]
    simp only [Array.getD_eq_getD_getElem?, List.getElem?_toArray, List.getElem?_cons_succ, List.getElem?_cons_zero, Option.getD_some, asAddr, Sem.run_pure, Result.andThen_ok]
    rw [run_loadVar_row _ w.heap.size 62 62 #[.int .i64 xa, .int .i64 xq, .slice A L.length c, .slice A2 M.length c2] (0, 0) _ (blk4 _ _ _ _ _ _ _ _ Hz1.out) Try.underlying62 rfl (by kernel_rfl)]
    rfl
  · exact SvsQ.low (lo := w.heap.size + 1) (SvsQ.set (SvsQ.set (SvsQ.set (SvsQ.set HS.out (Nat.lt_succ_self _)) (Nat.lt_succ_self _)) (Nat.lt_succ_self _)) (Nat.lt_succ_self _)) (Nat.le_succ _)
  · exact Rq.low (lo := w.heap.size + 1) (Rq.set (Rq.set (Rq.set (Rq.set HE.out (Nat.lt_succ_self _)) (Nat.lt_succ_self _)) (Nat.lt_succ_self _)) (Nat.lt_succ_self _)) (Nat.le_succ _)
  · exact (below_set (below_set (below_set (below_set HB.out (Nat.le_refl _)) (Nat.le_refl _)) (Nat.le_refl _)) (Nat.le_refl _))

set_option maxRecDepth 100000 in
set_option maxHeartbeats 2000000 in
theorem trace_closure (r : Nat) (s : ByteArray) (st : St) (hs : s.size ≤ 1000000) (w : World) (h : RP w (some ⟨r, 0, none⟩) s st) :
    Calls Try.prog 86 #[.pointer (some ⟨r, 0, none⟩)] w fun e w' => (∃ A c L, L.map Prod.fst = (rdtrace s st).1.2.2 ∧ e = .returned (.agg #[.int .i64 (rdtrace s st).1.1, .int .i64 (rdtrace s st).1.2.1, .slice A L.length c]) ∧ SvsQ w' w.heap.size (some ⟨r, 0, none⟩) A L) ∧ RP w' (some ⟨r, 0, none⟩) s (rdtrace s st).2 ∧ Gq w w' (some ⟨r, 0, none⟩) := by
  have hlt := h.lt
  have Hlt := Lib.hid hlt
  obtain ⟨x1, hx1⟩ : ∃ x, x = rdG 0 scan s st := ⟨_, rfl⟩
  obtain ⟨x2, hx2⟩ : ∃ x, x = rdG 0 scan s x1.2 := ⟨_, rfl⟩
  obtain ⟨x3, hx3⟩ : ∃ x, x = rdList (rdspan s) s x2.2 := ⟨_, rfl⟩
  have e0 : rdtrace s st = ((x1.1, x2.1, x3.1), x3.2) := by rw [hx3, hx2, hx1]; rfl
  rw [e0]
  have HA := Lib.hid (h.below ((Below.refl w.heap.size w).alloc (Nat.le_refl _) (.cells #[.int .i64 0, .int .i64 0, .slice none 0 0] 65)))
  have HG0 := Lib.hid (Gq.of_below ((Below.refl w.heap.size w).alloc (Nat.le_refl _) (.cells #[.int .i64 0, .int .i64 0, .slice none 0 0] 65)) (some ⟨r, 0, none⟩))
  have Hx1 := Lib.hid hx1
  have Hx2 := Lib.hid hx2
  have Hx3 := Lib.hid hx3
  skip
  clear hx1 hx2 hx3 e0 h hlt
  dsimp only
  go_enter Try.func86, Try.ntmps86
  go_wp2_with fail
  have hc1 := number_q (some ⟨r, 0, none⟩) s st hs _ HA.out
  rw [← Hx1.out] at hc1
  refine hc1.mono ?_
  rintro e w1 ⟨rfl, h1, g1⟩
  have H1 := Lib.hid h1
  have hblk := gq_block g1 Hlt.out
  have Hblk1 := Lib.hid hblk
  have G1 := Lib.hid (gq_alloc g1)
  have hs1 : w.heap.size < w1.heap.size := (Array.getElem?_eq_some_iff.1 hblk).1
  clear h1 g1 hc1 hblk
  go_wp2_with fail
  have hc2 := number_q (some ⟨r, 0, none⟩) s x1.2 hs w1 H1.out
  rw [← Hx2.out] at hc2
  refine hc2.mono ?_
  rintro e w2 ⟨rfl, h2, g2⟩
  have H2 := Lib.hid h2
  have Hblk2 := Lib.hid ((g2.block w.heap.size hs1 (fun e => by have := Hlt.out _ (Eq.symm e); omega)).trans Hblk1.out)
  have G2 := Lib.hid (Gq.trans G1.out g2)
  have hs2 : w.heap.size < w2.heap.size := (Array.getElem?_eq_some_iff.1 Hblk2.out).1
  clear h2 g2 hc2
  go_wp2_with fail
  have hc3 := spans_q (some ⟨r, 0, none⟩) s x2.2 hs w2 H2.out
  rw [← Hx3.out] at hc3
  refine hc3.mono ?_
  rintro e w3 ⟨⟨A, c, L, hL, hS, rfl⟩, h3, g3⟩
  have H3 := Lib.hid h3
  have Hblk3 := Lib.hid ((g3.block w.heap.size hs2 (fun e => by have := Hlt.out _ (Eq.symm e); omega)).trans Hblk2.out)
  have G3 := Lib.hid (Gq.trans G2.out g3)
  have HL := Lib.hid hL
  have HS3 := Lib.hid (hS.low (lo' := w.heap.size + 1) (by omega))
  have hs3 : w.heap.size < w3.heap.size := (Array.getElem?_eq_some_iff.1 Hblk3.out).1
  clear h3 g3 hc3 hL hS
  have z0 := cell_of_row w3 w.heap.size 0 _ _ _ Hblk3.out
  have y0 := frozen_of_row w3 w.heap.size 0 _ _ Hblk3.out
  have z1 := cell_of_row w3 w.heap.size 1 _ _ _ Hblk3.out
  have y1 := frozen_of_row w3 w.heap.size 1 _ _ Hblk3.out
  have z2 := cell_of_row w3 w.heap.size 2 _ _ _ Hblk3.out
  have y2 := frozen_of_row w3 w.heap.size 2 _ _ Hblk3.out
  go_wp2_with fail
  refine bodyPost_ret (v := .agg #[.int .i64 x1.1, .int .i64 x2.1, .slice A L.length c]) (results_cell_row rfl _ _ w.heap.size 65 #[.int .i64 x1.1, .int .i64 x2.1, .slice A L.length c] (0, 0) _ rfl (blk3 _ _ _ _ _ _ Hblk3.out) Try.underlying65 rfl (by kernel_rfl)) rfl ⟨⟨A, c, L, HL.out, rfl, ?_⟩, ?_, ?_⟩
  · exact SvsQ.low (lo := w.heap.size + 1) (SvsQ.set (SvsQ.set (SvsQ.set HS3.out (Nat.lt_succ_self _)) (Nat.lt_succ_self _)) (Nat.lt_succ_self _)) (Nat.le_succ _)
  · exact (rp_set (rp_set (rp_set H3.out (fun g hg => Nat.ne_of_lt (Hlt.out g hg))) (fun g hg => Nat.ne_of_lt (Hlt.out g hg))) (fun g hg => Nat.ne_of_lt (Hlt.out g hg)))
  · exact (gq_set (gq_set (gq_set G3.out (Nat.le_refl _)) (Nat.le_refl _)) (Nat.le_refl _))

set_option maxRecDepth 100000 in
set_option maxHeartbeats 2000000 in
theorem decode_trace (s : ByteArray) (hs : s.size ≤ 1000000) (w : World) :
    Calls Try.prog 85 #[.string s, .func (.func 86) #[] #[]] w (DecTPost w (if endE s (rdtrace s (0, 0)).2 = 0 then (rdtrace s (0, 0)).1 else (0, 0, [])) (endE s (rdtrace s (0, 0)).2)) := by
  have hnr := new_reader s (w.alloc (.cells #[.int .i64 0, .int .i64 0, .slice none 0 0] 65))
  have Hz : Hid ((w.alloc (.cells #[.int .i64 0, .int .i64 0, .slice none 0 0] 65)).heap[w.heap.size]? = some (.cells #[.int .i64 0, .int .i64 0, .slice none 0 0] 65 (0, 0))) := Lib.hid (Deep.blk_alloc_new w _)
  have HA : Hid (Below w.heap.size w (w.alloc (.cells #[.int .i64 0, .int .i64 0, .slice none 0 0] 65))) := Lib.hid ((Below.refl _ _).alloc (Nat.le_refl _) _)
  have hcl := fun W h => trace_closure (w.heap.size + 1) s (0, 0) hs W h
  obtain ⟨R, hR⟩ : ∃ R, R = rdtrace s (0, 0) := ⟨_, rfl⟩
  rw [← hR]
  simp only [← hR] at hcl
  obtain ⟨⟨xa, xq, xl⟩, s2⟩ := R
  have Hnr := Lib.hid hnr
  have Hcl := Lib.hid hcl
  clear hnr hcl hR
  dsimp only at Hcl ⊢
  obtain ⟨E, hE⟩ : ∃ E, E = endE s s2 := ⟨_, rfl⟩
  rw [← hE]
  have HEe := Lib.hid hE
  clear hE
  by_cases hz0 : E = 0
  · subst hz0
    rw [if_pos rfl]
    unfold DecTPost
    dsimp only
    go_enter Try.func85, Try.ntmps85
    go_wp2_with fail
    refine Hnr.out.mono ?_
    rintro e w1 ⟨rfl, hR1, hb1⟩
    have hsz0 : (w.alloc (.cells #[.int .i64 0, .int .i64 0, .slice none 0 0] 65)).heap.size = w.heap.size + 1 := by simp
    rw [hsz0] at hR1
    have HR1 := Lib.hid hR1
    have HB1 := Lib.hid (HA.out.trans (hb1.mono (by simp)))
    have Hz1 := Lib.hid ((hb1.block w.heap.size (by simp)).trans Hz.out)
    have hlt1 := hR1.lt
    clear hR1 hb1 hsz0
    go_wp2_with fail
    refine (Hcl.out w1 (Or.inr ⟨_, rfl, HR1.out⟩)).mono ?_
    rintro e w2 ⟨⟨A, c, L, hL, rfl, hS⟩, hRP, hG⟩
    have HL := Lib.hid hL
    have HS := Lib.hid hS
    skip
    have HRP := Lib.hid hRP
    have HG := Lib.hid hG
    have HB2 := Lib.hid (below_gq HB1.out hG (Nat.le_succ _))
    have Hz2 := Lib.hid ((hG.block w.heap.size (by omega) (fun e => by simp at e)).trans Hz1.out)
    clear hL hS hRP hG 
    go_wp2_with fail
    have hwf : Below w2.heap.size w2 (w2.alloc (.cells #[.int .i64 xa, .int .i64 xq, .slice A L.length c] 65)) := (Below.refl _ _).alloc (Nat.le_refl _) _
    have hen := end_q (some ⟨w.heap.size + 1, 0, none⟩) s s2 hs _ (HRP.out.below hwf)
    rw [← HEe.out] at hen
    refine hen.mono ?_
    rintro e w3 ⟨rfl, hb3⟩
    have HBf := Lib.hid (hwf.trans (hb3.mono (by simp)))
    have hl3 : w2.heap.size < w3.heap.size := by have := hb3.size; simp at this; omega
    have hlw2 : w.heap.size < w2.heap.size := (Array.getElem?_eq_some_iff.1 Hz2.out).1
    have hb := (hb3.block w2.heap.size (by simp)).trans (Deep.blk_alloc_new w2 _)
    have hz := (HBf.out.block w.heap.size hlw2).trans Hz2.out
    have Hz3 := Lib.hid hz
    have HB3 := Lib.hid (HB2.out.trans (HBf.out.mono HB2.out.size))
    have HS3 := Lib.hid (SvsQ.low (lo' := w.heap.size + 1) (HS.out.gq (Gq.of_below HBf.out (some ⟨w.heap.size + 1, 0, none⟩))) (by omega))
    skip
    have d0 := cell_of_row w3 w2.heap.size 0 _ _ _ hb
    have z0 := cell_of_row w3 w.heap.size 0 _ _ _ hz
    have y0 := frozen_of_row w3 w.heap.size 0 _ _ hz
    have d1 := cell_of_row w3 w2.heap.size 1 _ _ _ hb
    have z1 := cell_of_row w3 w.heap.size 1 _ _ _ hz
    have y1 := frozen_of_row w3 w.heap.size 1 _ _ hz
    have d2 := cell_of_row w3 w2.heap.size 2 _ _ _ hb
    have z2 := cell_of_row w3 w.heap.size 2 _ _ _ hz
    have y2 := frozen_of_row w3 w.heap.size 2 _ _ hz
    clear hb hz hwf hen hb3
    go_wp2_with fail
    refine bodyPost_ret (v := .tuple #[.agg #[.int .i64 xa, .int .i64 xq, .slice A L.length c], .int .i64 0]) ?_ rfl ⟨⟨A, c, L, HL.out, rfl, ?_⟩, ?_⟩
    · rw [results_cell_tmp rfl]
      simp only [Array.getD_eq_getD_getElem?, List.getElem?_toArray, List.getElem?_cons_succ, List.getElem?_cons_zero, Option.getD_some, asAddr, Sem.run_pure, Result.andThen_ok]
      rw [run_loadVar_row _ w.heap.size 65 65 #[.int .i64 xa, .int .i64 xq, .slice A L.length c] (0, 0) _ (blk3 _ _ _ _ _ _ Hz3.out) Try.underlying65 rfl (by kernel_rfl)]
      rfl
    · exact SvsQ.none_ (SvsQ.low (lo := w.heap.size + 1) (SvsQ.set (SvsQ.set (SvsQ.set HS3.out (Nat.lt_succ_self _)) (Nat.lt_succ_self _)) (Nat.lt_succ_self _)) (Nat.le_succ _))
    · exact (below_set (below_set (below_set HB3.out (Nat.le_refl _)) (Nat.le_refl _)) (Nat.le_refl _))
  · have hne : (E != (0 : Int)) = true := by simpa using hz0
    rw [if_neg hz0]
    unfold DecTPost
    dsimp only
    go_enter Try.func85, Try.ntmps85
    go_wp2_with fail
    refine Hnr.out.mono ?_
    rintro e w1 ⟨rfl, hR1, hb1⟩
    have hsz0 : (w.alloc (.cells #[.int .i64 0, .int .i64 0, .slice none 0 0] 65)).heap.size = w.heap.size + 1 := by simp
    rw [hsz0] at hR1
    have HR1 := Lib.hid hR1
    have HB1 := Lib.hid (HA.out.trans (hb1.mono (by simp)))
    have Hz1 := Lib.hid ((hb1.block w.heap.size (by simp)).trans Hz.out)
    have hlt1 := hR1.lt
    clear hR1 hb1 hsz0
    go_wp2_with fail
    refine (Hcl.out w1 (Or.inr ⟨_, rfl, HR1.out⟩)).mono ?_
    rintro e w2 ⟨⟨A, c, L, hL, rfl, hS⟩, hRP, hG⟩
    have HL := Lib.hid hL
    have HS := Lib.hid hS
    skip
    have HRP := Lib.hid hRP
    have HG := Lib.hid hG
    have HB2 := Lib.hid (below_gq HB1.out hG (Nat.le_succ _))
    have Hz2 := Lib.hid ((hG.block w.heap.size (by omega) (fun e => by simp at e)).trans Hz1.out)
    clear hL hS hRP hG 
    go_wp2_with fail
    have hwf : Below w2.heap.size w2 (w2.alloc (.cells #[.int .i64 xa, .int .i64 xq, .slice A L.length c] 65)) := (Below.refl _ _).alloc (Nat.le_refl _) _
    have hen := end_q (some ⟨w.heap.size + 1, 0, none⟩) s s2 hs _ (HRP.out.below hwf)
    rw [← HEe.out] at hen
    refine hen.mono ?_
    rintro e w3 ⟨rfl, hb3⟩
    have HBf := Lib.hid (hwf.trans (hb3.mono (by simp)))
    have hl3 : w2.heap.size < w3.heap.size := by have := hb3.size; simp at this; omega
    have hlw2 : w.heap.size < w2.heap.size := (Array.getElem?_eq_some_iff.1 Hz2.out).1
    have hb := (hb3.block w2.heap.size (by simp)).trans (Deep.blk_alloc_new w2 _)
    have hz := (HBf.out.block w.heap.size hlw2).trans Hz2.out
    have Hz3 := Lib.hid hz
    have HB3 := Lib.hid (HB2.out.trans (HBf.out.mono HB2.out.size))
    have HS3 := Lib.hid (SvsQ.low (lo' := w.heap.size + 1) (HS.out.gq (Gq.of_below HBf.out (some ⟨w.heap.size + 1, 0, none⟩))) (by omega))
    skip
    have z0 := cell_of_row w3 w.heap.size 0 _ _ _ hz
    have y0 := frozen_of_row w3 w.heap.size 0 _ _ hz
    have z1 := cell_of_row w3 w.heap.size 1 _ _ _ hz
    have y1 := frozen_of_row w3 w.heap.size 1 _ _ hz
    have z2 := cell_of_row w3 w.heap.size 2 _ _ _ hz
    have y2 := frozen_of_row w3 w.heap.size 2 _ _ hz
    have hlw3 : w.heap.size < w3.heap.size := by omega
    clear hb hz hwf hen hb3
    go_wp2_with fail
    refine bodyPost_ret (v := .tuple #[.agg #[.int .i64 0, .int .i64 0, .slice none 0 0], .int .i64 E]) ?_ rfl ⟨⟨none, 0, [], rfl, rfl, ?_⟩, ?_⟩
    · rw [results_cell_tmp rfl]
      simp only [Array.getD_eq_getD_getElem?, List.getElem?_toArray, List.getElem?_cons_succ, List.getElem?_cons_zero, Option.getD_some, asAddr, Sem.run_pure, Result.andThen_ok]
      rw [run_loadVar_row _ w.heap.size 65 65 #[.int .i64 0, .int .i64 0, .slice none 0 0] (0, 0) _ ((Deep.blk_alloc_lt _ _ _ (Array.getElem?_eq_some_iff.1 (blk3 _ _ _ _ _ _ Hz3.out)).1).trans (blk3 _ _ _ _ _ _ Hz3.out)) Try.underlying65 rfl (by kernel_rfl)]
      rfl
    · exact svs_nil _ _ _
    · exact below_al (below_set (below_set (below_set HB3.out (Nat.le_refl _)) (Nat.le_refl _)) (Nat.le_refl _))
set_option maxRecDepth 100000 in
set_option maxHeartbeats 2000000 in
theorem decodeTrace_any (s : ByteArray) (hs : s.size ≤ 1000000) (w : World) :
    Calls Try.prog 33 #[.string s] w (DecTPost w (if endE s (rdtrace s (0, 0)).2 = 0 then (rdtrace s (0, 0)).1 else (0, 0, [])) (endE s (rdtrace s (0, 0)).2)) := by
  have hc := decode_trace s hs (w.alloc (.cells #[.int .i64 0, .int .i64 0, .slice none 0 0] 65))
  have Hz : Hid ((w.alloc (.cells #[.int .i64 0, .int .i64 0, .slice none 0 0] 65)).heap[w.heap.size]? = some (.cells #[.int .i64 0, .int .i64 0, .slice none 0 0] 65 (0, 0))) := Lib.hid (Deep.blk_alloc_new w _)
  have HA : Hid (Below w.heap.size w (w.alloc (.cells #[.int .i64 0, .int .i64 0, .slice none 0 0] 65))) := Lib.hid ((Below.refl _ _).alloc (Nat.le_refl _) _)
  obtain ⟨R, hR⟩ : ∃ R, R = (if endE s (rdtrace s (0, 0)).2 = 0 then (rdtrace s (0, 0)).1 else (0, 0, [])) := ⟨_, rfl⟩
  rw [← hR] at hc ⊢
  obtain ⟨E, hE⟩ : ∃ E, E = endE s (rdtrace s (0, 0)).2 := ⟨_, rfl⟩
  rw [← hE] at hc ⊢
  have Hc := Lib.hid hc
  clear hc hR hE
  unfold DecTPost at Hc ⊢
  obtain ⟨xa, xq, xl⟩ := R
  dsimp only at Hc ⊢
  go_enter Try.func33, Try.ntmps33
  go_wp2_with fail
  refine Hc.out.mono ?_
  rintro e w1 ⟨⟨A, c, L, hL, rfl, hS⟩, hb⟩
  have hz := (hb.block w.heap.size (by simp)).trans Hz.out
  have Hz1 := Lib.hid hz
  have HB := Lib.hid (HA.out.trans (hb.mono (by simp)))
  rw [show (w.alloc (.cells #[.int .i64 0, .int .i64 0, .slice none 0 0] 65)).heap.size = w.heap.size + 1 by simp] at hS 
  have HL := Lib.hid hL
  have HS := Lib.hid hS
  skip
  have z0 := cell_of_row w1 w.heap.size 0 _ _ _ hz
  have y0 := frozen_of_row w1 w.heap.size 0 _ _ hz
  have z1 := cell_of_row w1 w.heap.size 1 _ _ _ hz
  have y1 := frozen_of_row w1 w.heap.size 1 _ _ hz
  have z2 := cell_of_row w1 w.heap.size 2 _ _ _ hz
  have y2 := frozen_of_row w1 w.heap.size 2 _ _ hz
  clear hz hb hL hS 
  go_wp2_with fail
  refine bodyPost_ret (v := .tuple #[.agg #[.int .i64 xa, .int .i64 xq, .slice A L.length c], .int .i64 E]) ?_ rfl ⟨⟨A, c, L, HL.out, rfl, ?_⟩, ?_⟩
  · rw [results_cell_tmp rfl]
    simp only [Array.getD_eq_getD_getElem?, List.getElem?_toArray, List.getElem?_cons_succ, List.getElem?_cons_zero, Option.getD_some, asAddr, Sem.run_pure, Result.andThen_ok]
    rw [run_loadVar_row _ w.heap.size 65 65 #[.int .i64 xa, .int .i64 xq, .slice A L.length c] (0, 0) _ (blk3 _ _ _ _ _ _ Hz1.out) Try.underlying65 rfl (by kernel_rfl)]
    rfl
  · exact SvsQ.low (lo := w.heap.size + 1) (SvsQ.set (SvsQ.set (SvsQ.set HS.out (Nat.lt_succ_self _)) (Nat.lt_succ_self _)) (Nat.lt_succ_self _)) (Nat.le_succ _)
  · exact (below_set (below_set (below_set HB.out (Nat.le_refl _)) (Nat.le_refl _)) (Nat.le_refl _))

end Go.Proofs.Ytepcihfkkeahhaa
