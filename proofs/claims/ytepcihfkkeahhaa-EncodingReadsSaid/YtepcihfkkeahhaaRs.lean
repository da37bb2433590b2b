/- The Reader's Span, at a Reader or at nil (written by wip/bin/gen_rs.py). -/
import Derived.Test.YtepcihfkkeahhaaRl
namespace Go.Proofs.Ytepcihfkkeahhaa
open Go.ChangeShapes Go.WideShapes Go.ChangeAt Go.RowKit En

theorem completeQ_span (q : Option Addr) (s : ByteArray) (st : St) (v0 : Int) (v1 : Int) (v2 : Int) (v3 : Int) (v4 : Int) (v5 : Int) (v6 : ByteArray) (v7 : ByteArray) (v8 : ByteArray) (v9 : Int) (v10 : Int) (v11 : Bool) (A : Option Addr) (n c : Nat) (A2 : Option Addr) (n2 c2 : Nat) (w : World) (h : RP w q s st) :
    Calls Try.prog 103 #[.pointer q, .agg #[.int .i64 v0, .int .i64 v1, .int .i64 v2, .int .i64 v3, .int .i64 v4, .int .i64 v5, .string v6, .string v7, .string v8, .int .i64 v9, .int .i64 v10, .bool v11, .slice A n c, .slice A2 n2 c2]] w fun e w' => e = .returned (if st.2 = 0 then .agg #[.int .i64 v0, .int .i64 v1, .int .i64 v2, .int .i64 v3, .int .i64 v4, .int .i64 v5, .string v6, .string v7, .string v8, .int .i64 v9, .int .i64 v10, .bool v11, .slice A n c, .slice A2 n2 c2] else .agg #[.int .i64 0, .int .i64 0, .int .i64 0, .int .i64 0, .int .i64 0, .int .i64 0, .string ⟨#[]⟩, .string ⟨#[]⟩, .string ⟨#[]⟩, .int .i64 0, .int .i64 0, .bool false, .slice none 0 0, .slice none 0 0]) ∧ Below w.heap.size w w' := by
  have H := Lib.hid h
  clear h
  obtain ⟨pp, err⟩ := st
  dsimp only
  by_cases he : err = 0
  · rw [if_pos he]
    subst he
    go_enter Try.func103, Try.ntmps103
    go_wp2_with fail
    refine (err_q q s (pp, 0) _ (H.out.below (((Below.refl _ _).alloc (Nat.le_refl _) _).alloc (by simp) _))).mono ?_
    rintro e w1 ⟨rfl, rfl⟩
    go_wp2_with fail
    refine bodyPost_ret (v := .agg #[.int .i64 v0, .int .i64 v1, .int .i64 v2, .int .i64 v3, .int .i64 v4, .int .i64 v5, .string v6, .string v7, .string v8, .int .i64 v9, .int .i64 v10, .bool v11, .slice A n c, .slice A2 n2 c2]) (by simp [results, Try.results103, go_sem, *]) rfl ⟨rfl, ((Below.refl _ _).alloc (Nat.le_refl _) _).alloc (by simp) _⟩
  · rw [if_neg he]
    go_enter Try.func103, Try.ntmps103
    go_wp2_with fail
    refine (err_q q s (pp, err) _ (H.out.below (((Below.refl _ _).alloc (Nat.le_refl _) _).alloc (by simp) _))).mono ?_
    rintro e w1 ⟨rfl, rfl⟩
    go_wp2_with fail
    refine bodyPost_ret (v := .agg #[.int .i64 0, .int .i64 0, .int .i64 0, .int .i64 0, .int .i64 0, .int .i64 0, .string ⟨#[]⟩, .string ⟨#[]⟩, .string ⟨#[]⟩, .int .i64 0, .int .i64 0, .bool false, .slice none 0 0, .slice none 0 0]) (by simp [results, Try.results103, go_sem, *]) rfl ⟨rfl, (((Below.refl _ _).alloc (Nat.le_refl _) _).alloc (by simp) _).alloc (by simp; omega) _⟩

def spZ : Sp := ⟨0, 0, 0, 0, 0, 0, ⟨#[]⟩, ⟨#[]⟩, ⟨#[]⟩, 0, 0, false, [], []⟩
def rdspan (s : ByteArray) (st : St) : Sp × St :=
  let x1 := rdG 0 scan s st
  let x2 := rdG 0 scan s x1.2
  let x3 := rdG 0 scan s x2.2
  let x4 := rdG 0 scan s x3.2
  let x5 := rdG 0 scan s x4.2
  let x6 := rdG 0 scan s x5.2
  let x7 := rdG ByteArray.empty (scanT 4096) s x6.2
  let x8 := rdG ByteArray.empty (scanT 4096) s x7.2
  let x9 := rdG ByteArray.empty (scanT 4096) s x8.2
  let x10 := rdG 0 scan s x9.2
  let x11 := rdG 0 scan s x10.2
  let x12 := rdG false scanB s x11.2
  let x13 := rdList (rdattr s) s x12.2
  let x14 := rdList (rdref s) s x13.2
  (if x14.2.2 = 0 then ⟨x1.1, x2.1, x3.1, x4.1, x5.1, x6.1, x7.1, x8.1, x9.1, x10.1, x11.1, x12.1, x13.1, x14.1⟩ else spZ, x14.2)
/-- The lists of a span that a Reader has read. -/
def Sp.HasQ (w : World) (lo : Nat) (q : Option Addr) (s : Sp) (va vl : Value) : Prop :=
  ∃ A c A2 c2, va = .slice A s.al.length c ∧ vl = .slice A2 s.ls.length c2 ∧ Rq w lo q A (atCells s.al) ∧ Rq w lo q A2 (rfCells s.ls)
theorem Sp.HasQ.gq {w w' : World} {lo : Nat} {q : Option Addr} {s : Sp} {va vl : Value} (h : s.HasQ w lo q va vl) (g : Gq w w' q) : s.HasQ w' lo q va vl := by
  obtain ⟨A, c, A2, c2, e1, e2, h1, h2⟩ := h
  exact ⟨A, c, A2, c2, e1, e2, h1.gq g, h2.gq g⟩
theorem Sp.HasQ.has {w : World} {lo : Nat} {q : Option Addr} {s : Sp} {va vl : Value} (h : s.HasQ w lo q va vl) : s.Has w w.heap.size va vl := by
  obtain ⟨A, c, A2, c2, e1, e2, h1, h2⟩ := h
  exact ⟨A, c, A2, c2, e1, e2, h1.rs, h2.rs⟩
set_option maxRecDepth 100000 in
set_option maxHeartbeats 4000000 in
theorem span_q (q : Option Addr) (s : ByteArray) (st : St) (hs : s.size ≤ 1000000) (w : World) (h : RP w q s st) :
    Calls Try.prog 49 #[.pointer q] w fun e w' => (∃ va vl, e = .returned (.agg ((rdspan s st).1.cells va vl)) ∧ (rdspan s st).1.HasQ w' w.heap.size q va vl) ∧ RP w' q s (rdspan s st).2 ∧ Gq w w' q := by
  obtain ⟨x1, hx1⟩ : ∃ x, x = rdG 0 scan s st := ⟨_, rfl⟩
  obtain ⟨x2, hx2⟩ : ∃ x, x = rdG 0 scan s x1.2 := ⟨_, rfl⟩
  obtain ⟨x3, hx3⟩ : ∃ x, x = rdG 0 scan s x2.2 := ⟨_, rfl⟩
  obtain ⟨x4, hx4⟩ : ∃ x, x = rdG 0 scan s x3.2 := ⟨_, rfl⟩
  obtain ⟨x5, hx5⟩ : ∃ x, x = rdG 0 scan s x4.2 := ⟨_, rfl⟩
  obtain ⟨x6, hx6⟩ : ∃ x, x = rdG 0 scan s x5.2 := ⟨_, rfl⟩
  obtain ⟨x7, hx7⟩ : ∃ x, x = rdG ByteArray.empty (scanT 4096) s x6.2 := ⟨_, rfl⟩
  obtain ⟨x8, hx8⟩ : ∃ x, x = rdG ByteArray.empty (scanT 4096) s x7.2 := ⟨_, rfl⟩
  obtain ⟨x9, hx9⟩ : ∃ x, x = rdG ByteArray.empty (scanT 4096) s x8.2 := ⟨_, rfl⟩
  obtain ⟨x10, hx10⟩ : ∃ x, x = rdG 0 scan s x9.2 := ⟨_, rfl⟩
  obtain ⟨x11, hx11⟩ : ∃ x, x = rdG 0 scan s x10.2 := ⟨_, rfl⟩
  obtain ⟨x12, hx12⟩ : ∃ x, x = rdG false scanB s x11.2 := ⟨_, rfl⟩
  obtain ⟨x13, hx13⟩ : ∃ x, x = rdList (rdattr s) s x12.2 := ⟨_, rfl⟩
  obtain ⟨x14, hx14⟩ : ∃ x, x = rdList (rdref s) s x13.2 := ⟨_, rfl⟩
  have e0 : rdspan s st = (if x14.2.2 = 0 then ⟨x1.1, x2.1, x3.1, x4.1, x5.1, x6.1, x7.1, x8.1, x9.1, x10.1, x11.1, x12.1, x13.1, x14.1⟩ else spZ, x14.2) := by rw [hx14, hx13, hx12, hx11, hx10, hx9, hx8, hx7, hx6, hx5, hx4, hx3, hx2, hx1]; rfl
  obtain ⟨R, hR⟩ : ∃ R, R = rdspan s st := ⟨_, rfl⟩
  rw [← hR] at e0 ⊢
  have hlt := h.lt
  have hr2 : R.2 = x14.2 := by rw [e0]
  have Hr2 := Lib.hid hr2
  have Hlt := Lib.hid hlt
  have E0 := Lib.hid e0
  have H := Lib.hid h
  have Hx1 := Lib.hid hx1
  have Hx2 := Lib.hid hx2
  have Hx3 := Lib.hid hx3
  have Hx4 := Lib.hid hx4
  have Hx5 := Lib.hid hx5
  have Hx6 := Lib.hid hx6
  have Hx7 := Lib.hid hx7
  have Hx8 := Lib.hid hx8
  have Hx9 := Lib.hid hx9
  have Hx10 := Lib.hid hx10
  have Hx11 := Lib.hid hx11
  have Hx12 := Lib.hid hx12
  have Hx13 := Lib.hid hx13
  have Hx14 := Lib.hid hx14
  clear h e0 hR hlt hr2 hx1 hx2 hx3 hx4 hx5 hx6 hx7 hx8 hx9 hx10 hx11 hx12 hx13 hx14
  go_enter Try.func49, Try.ntmps49
  go_wp2_with fail
  have H0 : Hid (RP (w.alloc (.cells #[.int .i64 0, .int .i64 0, .int .i64 0, .int .i64 0, .int .i64 0, .int .i64 0, .string ⟨#[]⟩, .string ⟨#[]⟩, .string ⟨#[]⟩, .int .i64 0, .int .i64 0, .bool false, .slice none 0 0, .slice none 0 0] 54)) q s st) := Lib.hid (H.out.below ((Below.refl _ _).alloc (Nat.le_refl _) _))
  have G0 : Hid (Gq (w.alloc (.cells #[.int .i64 0, .int .i64 0, .int .i64 0, .int .i64 0, .int .i64 0, .int .i64 0, .string ⟨#[]⟩, .string ⟨#[]⟩, .string ⟨#[]⟩, .int .i64 0, .int .i64 0, .bool false, .slice none 0 0, .slice none 0 0] 54)) (w.alloc (.cells #[.int .i64 0, .int .i64 0, .int .i64 0, .int .i64 0, .int .i64 0, .int .i64 0, .string ⟨#[]⟩, .string ⟨#[]⟩, .string ⟨#[]⟩, .int .i64 0, .int .i64 0, .bool false, .slice none 0 0, .slice none 0 0] 54)) q) := Lib.hid (Gq.refl _ _)
  have hc1 := number_q q s st hs _ H0.out
  rw [← Hx1.out] at hc1
  refine hc1.mono ?_
  rintro e w1 ⟨rfl, h1, g1⟩
  have H1 := Lib.hid h1
  have G1 := Lib.hid (Gq.trans G0.out g1)
  clear h1 g1 hc1
  go_wp2_with fail
  have hc2 := number_q q s x1.2 hs w1 H1.out
  rw [← Hx2.out] at hc2
  refine hc2.mono ?_
  rintro e w2 ⟨rfl, h2, g2⟩
  have H2 := Lib.hid h2
  have G2 := Lib.hid (Gq.trans G1.out g2)
  clear h2 g2 hc2
  go_wp2_with fail
  have hc3 := number_q q s x2.2 hs w2 H2.out
  rw [← Hx3.out] at hc3
  refine hc3.mono ?_
  rintro e w3 ⟨rfl, h3, g3⟩
  have H3 := Lib.hid h3
  have G3 := Lib.hid (Gq.trans G2.out g3)
  clear h3 g3 hc3
  go_wp2_with fail
  have hc4 := number_q q s x3.2 hs w3 H3.out
  rw [← Hx4.out] at hc4
  refine hc4.mono ?_
  rintro e w4 ⟨rfl, h4, g4⟩
  have H4 := Lib.hid h4
  have G4 := Lib.hid (Gq.trans G3.out g4)
  clear h4 g4 hc4
  go_wp2_with fail
  have hc5 := number_q q s x4.2 hs w4 H4.out
  rw [← Hx5.out] at hc5
  refine hc5.mono ?_
  rintro e w5 ⟨rfl, h5, g5⟩
  have H5 := Lib.hid h5
  have G5 := Lib.hid (Gq.trans G4.out g5)
  clear h5 g5 hc5
  go_wp2_with fail
  have hc6 := number_q q s x5.2 hs w5 H5.out
  rw [← Hx6.out] at hc6
  refine hc6.mono ?_
  rintro e w6 ⟨rfl, h6, g6⟩
  have H6 := Lib.hid h6
  have G6 := Lib.hid (Gq.trans G5.out g6)
  clear h6 g6 hc6
  go_wp2_with fail
  have hc7 := text_q q s x6.2 hs 4096 w6 H6.out
  rw [← Hx7.out] at hc7
  refine hc7.mono ?_
  rintro e w7 ⟨rfl, h7, g7⟩
  have H7 := Lib.hid h7
  have G7 := Lib.hid (Gq.trans G6.out g7)
  clear h7 g7 hc7
  go_wp2_with fail
  have hc8 := text_q q s x7.2 hs 4096 w7 H7.out
  rw [← Hx8.out] at hc8
  refine hc8.mono ?_
  rintro e w8 ⟨rfl, h8, g8⟩
  have H8 := Lib.hid h8
  have G8 := Lib.hid (Gq.trans G7.out g8)
  clear h8 g8 hc8
  go_wp2_with fail
  have hc9 := text_q q s x8.2 hs 4096 w8 H8.out
  rw [← Hx9.out] at hc9
  refine hc9.mono ?_
  rintro e w9 ⟨rfl, h9, g9⟩
  have H9 := Lib.hid h9
  have G9 := Lib.hid (Gq.trans G8.out g9)
  clear h9 g9 hc9
  go_wp2_with fail
  have hc10 := number_q q s x9.2 hs w9 H9.out
  rw [← Hx10.out] at hc10
  refine hc10.mono ?_
  rintro e w10 ⟨rfl, h10, g10⟩
  have H10 := Lib.hid h10
  have G10 := Lib.hid (Gq.trans G9.out g10)
  clear h10 g10 hc10
  go_wp2_with fail
  have hc11 := number_q q s x10.2 hs w10 H10.out
  rw [← Hx11.out] at hc11
  refine hc11.mono ?_
  rintro e w11 ⟨rfl, h11, g11⟩
  have H11 := Lib.hid h11
  have G11 := Lib.hid (Gq.trans G10.out g11)
  clear h11 g11 hc11
  go_wp2_with fail
  have hc12 := bool_q q s x11.2 hs w11 H11.out
  rw [← Hx12.out] at hc12
  refine hc12.mono ?_
  rintro e w12 ⟨rfl, h12, g12⟩
  have H12 := Lib.hid h12
  have G12 := Lib.hid (Gq.trans G11.out g12)
  clear h12 g12 hc12
  go_wp2_with fail
  have hc13 := attrs_q q s x12.2 hs w12 H12.out
  rw [← Hx13.out] at hc13
  refine hc13.mono ?_
  rintro e w13 ⟨⟨A1, c1, hq1, rfl⟩, h13, g13⟩
  have hs1 : w.heap.size + 1 ≤ w12.heap.size := by have := G12.out.size; simp at this; omega
  have HQ1 := Lib.hid (Rq.low (lo' := w.heap.size + 1) hq1 hs1)
  clear hq1 hs1
  have H13 := Lib.hid h13
  have G13 := Lib.hid (Gq.trans G12.out g13)
  clear h13 g13 hc13
  go_wp2_with fail
  have hc14 := refs_q q s x13.2 hs w13 H13.out
  rw [← Hx14.out] at hc14
  refine hc14.mono ?_
  rintro e w14 ⟨⟨A2, c2, hq2, rfl⟩, h14, g14⟩
  have hs2 : w.heap.size + 1 ≤ w13.heap.size := by have := G13.out.size; simp at this; omega
  have HQ2 := Lib.hid (Rq.low (lo' := w.heap.size + 1) hq2 hs2)
  clear hq2 hs2
  have HQ1 := Lib.hid (HQ1.out.gq g14)
  have H14 := Lib.hid h14
  have G14 := Lib.hid (Gq.trans G13.out g14)
  clear h14 g14 hc14
  go_wp2_with fail
  refine (completeQ_span q s x14.2 x1.1 x2.1 x3.1 x4.1 x5.1 x6.1 x7.1 x8.1 x9.1 x10.1 x11.1 x12.1 A1 x13.1.length c1 A2 x14.1.length c2 w14 H14.out).mono ?_
  rintro e w15 ⟨rfl, hB⟩
  have HQ1 := Lib.hid (HQ1.out.gq (Gq.of_below hB q))
  have HQ2 := Lib.hid (HQ2.out.gq (Gq.of_below hB q))
  have HZ := Lib.hid (H14.out.below hB)
  have GZ := Lib.hid (Gq.trans G14.out (Gq.of_below hB q))
  have hblk := gq_block GZ.out Hlt.out
  have c0 := cell_of_row w15 w.heap.size 0 _ _ _ hblk
  have cc1 := cell_of_row w15 w.heap.size 1 _ _ _ hblk
  have cc2 := cell_of_row w15 w.heap.size 2 _ _ _ hblk
  have c3 := cell_of_row w15 w.heap.size 3 _ _ _ hblk
  have c4 := cell_of_row w15 w.heap.size 4 _ _ _ hblk
  have c5 := cell_of_row w15 w.heap.size 5 _ _ _ hblk
  have c6 := cell_of_row w15 w.heap.size 6 _ _ _ hblk
  have c7 := cell_of_row w15 w.heap.size 7 _ _ _ hblk
  have c8 := cell_of_row w15 w.heap.size 8 _ _ _ hblk
  have c9 := cell_of_row w15 w.heap.size 9 _ _ _ hblk
  have c10 := cell_of_row w15 w.heap.size 10 _ _ _ hblk
  have c11 := cell_of_row w15 w.heap.size 11 _ _ _ hblk
  have c12 := cell_of_row w15 w.heap.size 12 _ _ _ hblk
  have c13 := cell_of_row w15 w.heap.size 13 _ _ _ hblk
  have f0 := frozen_of_row w15 w.heap.size 0 _ _ hblk
  have f1 := frozen_of_row w15 w.heap.size 1 _ _ hblk
  have f2 := frozen_of_row w15 w.heap.size 2 _ _ hblk
  have f3 := frozen_of_row w15 w.heap.size 3 _ _ hblk
  have f4 := frozen_of_row w15 w.heap.size 4 _ _ hblk
  have f5 := frozen_of_row w15 w.heap.size 5 _ _ hblk
  have f6 := frozen_of_row w15 w.heap.size 6 _ _ hblk
  have f7 := frozen_of_row w15 w.heap.size 7 _ _ hblk
  have f8 := frozen_of_row w15 w.heap.size 8 _ _ hblk
  have f9 := frozen_of_row w15 w.heap.size 9 _ _ hblk
  have f10 := frozen_of_row w15 w.heap.size 10 _ _ hblk
  have f11 := frozen_of_row w15 w.heap.size 11 _ _ hblk
  have f12 := frozen_of_row w15 w.heap.size 12 _ _ hblk
  have f13 := frozen_of_row w15 w.heap.size 13 _ _ hblk
  have Hblk := Lib.hid hblk
  clear hblk hB
  by_cases hz : x14.2.2 = 0
  · rw [if_pos hz]
    have E1 : Hid (R.1 = ⟨x1.1, x2.1, x3.1, x4.1, x5.1, x6.1, x7.1, x8.1, x9.1, x10.1, x11.1, x12.1, x13.1, x14.1⟩) := Lib.hid (by rw [E0.out, if_pos hz])
    clear hz
    go_wp2_with fail
    refine bodyPost_ret (v := .agg #[.int .i64 x1.1, .int .i64 x2.1, .int .i64 x3.1, .int .i64 x4.1, .int .i64 x5.1, .int .i64 x6.1, .string x7.1, .string x8.1, .string x9.1, .int .i64 x10.1, .int .i64 x11.1, .bool x12.1, .slice A1 x13.1.length c1, .slice A2 x14.1.length c2]) (by simp [results, Try.results49, go_sem, *]) rfl ⟨⟨.slice A1 x13.1.length c1, .slice A2 x14.1.length c2, ?_, ?_⟩, ?_, ?_⟩
    · rw [E1.out]; rfl
    · rw [E1.out]
      refine ⟨A1, c1, A2, c2, rfl, rfl, ?_, ?_⟩
      · refine Rq.low (lo := w.heap.size + 1) ?_ (Nat.le_succ _)
        (repeat' (refine Rq.set ?_ (Nat.lt_succ_self _)))
        exact HQ1.out
      · refine Rq.low (lo := w.heap.size + 1) ?_ (Nat.le_succ _)
        (repeat' (refine Rq.set ?_ (Nat.lt_succ_self _)))
        exact HQ2.out
    · rw [Hr2.out]
      (repeat' (refine rp_set ?_ (fun g hg => by have := Hlt.out g hg; omega)))
      exact HZ.out
    · (repeat' (refine gq_set ?_ (Nat.le_refl _)))
      exact gq_alloc GZ.out
  · rw [if_neg hz]
    have E1 : Hid (R.1 = spZ) := Lib.hid (by rw [E0.out, if_neg hz])
    clear hz
    go_wp2_with fail
    refine bodyPost_ret (v := .agg #[.int .i64 0, .int .i64 0, .int .i64 0, .int .i64 0, .int .i64 0, .int .i64 0, .string ⟨#[]⟩, .string ⟨#[]⟩, .string ⟨#[]⟩, .int .i64 0, .int .i64 0, .bool false, .slice none 0 0, .slice none 0 0]) (by simp [results, Try.results49, go_sem, *]) rfl ⟨⟨.slice none 0 0, .slice none 0 0, ?_, ?_⟩, ?_, ?_⟩
    · rw [E1.out]; rfl
    · rw [E1.out]; exact ⟨none, 0, none, 0, rfl, rfl, Rq.nil, Rq.nil⟩
    · rw [Hr2.out]
      (repeat' (refine rp_set ?_ (fun g hg => by have := Hlt.out g hg; omega)))
      exact HZ.out
    · (repeat' (refine gq_set ?_ (Nat.le_refl _)))
      exact gq_alloc GZ.out
end Go.Proofs.Ytepcihfkkeahhaa
