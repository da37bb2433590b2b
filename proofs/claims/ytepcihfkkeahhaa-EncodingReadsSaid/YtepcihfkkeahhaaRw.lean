/- The reference's ReadRef, ReadValue, ReadAttr, ReadExchange, ReadMessage (written by wip/bin/gen_rw.py). -/
import Derived.Test.YtepcihfkkeahhaaRz
namespace Go.Proofs.Ytepcihfkkeahhaa
open Go.ChangeShapes Go.WideShapes Go.ChangeAt Go.RowKit En

theorem rr_set {w : World} {b : Nat} {s : ByteArray} {st : St} {c o : Nat} {v : Value} (h : RR w b s st) (hne : b ≠ c) : RR (w.setCell ⟨c, o, none⟩ v) b s st :=
  ⟨by rw [Deep.blk_setCell_other _ _ _ _ hne]; exact h.1, h.2⟩
theorem gq_keep {w w' : World} {b V : Nat} {t : TypeId} {cs : Array Value} (g : Gq w w' (qb b)) (h : w.heap[V]? = some (.cells cs t (0, 0))) (hne : V ≠ b) : w'.heap[V]? = some (.cells cs t (0, 0)) :=
  (g.block V (Array.getElem?_eq_some_iff.1 h).1 (fun e => hne (by simpa using e))).trans h
theorem blk_first (w : World) (o1 o2 : Obj) : ((w.alloc o1).alloc o2).heap[w.heap.size]? = some o1 :=
  (Deep.blk_alloc_lt _ _ _ (by simp)).trans (Deep.blk_alloc_new w o1)
theorem gq_two (w : World) (o1 o2 : Obj) (q : Option Addr) : Gq w ((w.alloc o1).alloc o2) q := Gq.of_below (((Below.refl _ _).alloc (Nat.le_refl _) _).alloc (by simp) _) q

set_option maxRecDepth 100000 in
set_option maxHeartbeats 2000000 in
theorem rr_ref (b : Nat) (s : ByteArray) (st : St) (hs : s.size ≤ 1000000) (w : World) (h : RR w b s st) :
    Calls Try.prog 62 #[.pointer (qb b)] w fun e w' => e = .returned (.agg #[.int .i64 (rdref s st).1.1, .int .i64 (rdref s st).1.2]) ∧ RR w' b s (rdref s st).2 ∧ Gq w w' (qb b) := by
  obtain ⟨x1, hx1⟩ : ∃ x, x = rdG 0 scan s st := ⟨_, rfl⟩
  obtain ⟨x2, hx2⟩ : ∃ x, x = rdG 0 scan s x1.2 := ⟨_, rfl⟩
  have e0 : rdref s st = (if x2.2.2 = 0 then (x1.1, x2.1) else (0, 0), x2.2) := by rw [hx2, hx1]; rfl
  obtain ⟨R, hR⟩ : ∃ R, R = rdref s st := ⟨_, rfl⟩
  rw [← hR] at e0 ⊢
  have hlt := h.lt
  have hbR : b ≠ w.heap.size := by omega
  have hbV : b ≠ w.heap.size + 1 := by omega
  have HbR := Lib.hid hbR
  have HbV := Lib.hid hbV
  have E0 := Lib.hid e0
  have Hx1 := Lib.hid hx1
  have Hx2 := Lib.hid hx2
  have H0 : Hid (RR ((w.alloc (.cells #[.int .i64 0, .int .i64 0] 83)).alloc (.cells #[.int .i64 0, .int .i64 0] 83)) b s st) := Lib.hid (h.below (((Below.refl _ _).alloc (Nat.le_refl _) _).alloc (by simp) _))
  have G0 : Hid (Gq w ((w.alloc (.cells #[.int .i64 0, .int .i64 0] 83)).alloc (.cells #[.int .i64 0, .int .i64 0] 83)) (qb b)) := Lib.hid (gq_two w _ _ _)
  have V0 : Hid (((w.alloc (.cells #[.int .i64 0, .int .i64 0] 83)).alloc (.cells #[.int .i64 0, .int .i64 0] 83)).heap[w.heap.size + 1]? = some (.cells #[.int .i64 0, .int .i64 0] 83 (0, 0))) := Lib.hid (blk_second w _ _)
  have R0 : Hid (((w.alloc (.cells #[.int .i64 0, .int .i64 0] 83)).alloc (.cells #[.int .i64 0, .int .i64 0] 83)).heap[w.heap.size]? = some (.cells #[.int .i64 0, .int .i64 0] 83 (0, 0))) := Lib.hid (blk_first w _ _)
  clear h e0 hR hbR hbV hx1 hx2
  go_enter Try.func62, Try.ntmps62
  go_wp2_with fail
  have hc1 := rr_number b s st hs _ H0.out
  rw [← Hx1.out] at hc1
  refine hc1.mono ?_
  rintro e w1 ⟨rfl, h1, g1⟩
  have hv := gq_keep g1 V0.out (Ne.symm HbV.out)
  have hr := gq_keep g1 R0.out (Ne.symm HbR.out)
  have d0 := cell_of_row w1 (w.heap.size + 1) 0 _ _ _ hv
  have f0 := frozen_of_row w1 (w.heap.size + 1) 0 _ _ hv
  have V1 : Hid ((w1.setCell ⟨w.heap.size + 1, 0, none⟩ (.int .i64 x1.1)).heap[w.heap.size + 1]? = some (.cells #[.int .i64 x1.1, .int .i64 0] 83 (0, 0))) := Lib.hid (by have := (blk_set (off := 0) (.int .i64 x1.1) hv); exact this)
  have R1 : Hid ((w1.setCell ⟨w.heap.size + 1, 0, none⟩ (.int .i64 x1.1)).heap[w.heap.size]? = some (.cells #[.int .i64 0, .int .i64 0] 83 (0, 0))) := Lib.hid ((Deep.blk_setCell_other _ _ _ _ (show w.heap.size ≠ w.heap.size + 1 by omega)).trans hr)
  have H1 : Hid (RR (w1.setCell ⟨w.heap.size + 1, 0, none⟩ (.int .i64 x1.1)) b s x1.2) := Lib.hid (rr_set h1 HbV.out)
  have G1 : Hid (Gq w (w1.setCell ⟨w.heap.size + 1, 0, none⟩ (.int .i64 x1.1)) (qb b)) := Lib.hid (gq_set (Gq.trans G0.out g1) (Nat.le_succ _))
  clear h1 g1 hc1 hv hr
  go_wp2_with fail
  clear d0 f0
  have hc2 := rr_number b s x1.2 hs _ H1.out
  rw [← Hx2.out] at hc2
  refine hc2.mono ?_
  rintro e w2 ⟨rfl, h2, g2⟩
  have hv := gq_keep g2 V1.out (Ne.symm HbV.out)
  have hr := gq_keep g2 R1.out (Ne.symm HbR.out)
  have d1 := cell_of_row w2 (w.heap.size + 1) 1 _ _ _ hv
  have f1 := frozen_of_row w2 (w.heap.size + 1) 1 _ _ hv
  have V2 : Hid ((w2.setCell ⟨w.heap.size + 1, 1, none⟩ (.int .i64 x2.1)).heap[w.heap.size + 1]? = some (.cells #[.int .i64 x1.1, .int .i64 x2.1] 83 (0, 0))) := Lib.hid (by have := (blk_set (off := 1) (.int .i64 x2.1) hv); exact this)
  have R2 : Hid ((w2.setCell ⟨w.heap.size + 1, 1, none⟩ (.int .i64 x2.1)).heap[w.heap.size]? = some (.cells #[.int .i64 0, .int .i64 0] 83 (0, 0))) := Lib.hid ((Deep.blk_setCell_other _ _ _ _ (show w.heap.size ≠ w.heap.size + 1 by omega)).trans hr)
  have H2 : Hid (RR (w2.setCell ⟨w.heap.size + 1, 1, none⟩ (.int .i64 x2.1)) b s x2.2) := Lib.hid (rr_set h2 HbV.out)
  have G2 : Hid (Gq w (w2.setCell ⟨w.heap.size + 1, 1, none⟩ (.int .i64 x2.1)) (qb b)) := Lib.hid (gq_set (Gq.trans G1.out g2) (Nat.le_succ _))
  have de := cell_of_row _ b 2 _ _ _ h2.1
  have d0 := cell_of_row w2 (w.heap.size + 1) 0 _ _ _ hv
  have c0 := cell_of_row w2 w.heap.size 0 _ _ _ hr
  have z0 := frozen_of_row w2 w.heap.size 0 _ _ hr
  have c1 := cell_of_row w2 w.heap.size 1 _ _ _ hr
  have z1 := frozen_of_row w2 w.heap.size 1 _ _ hr
  clear h2 g2 hc2 hv hr
  by_cases hz : x2.2.2 = 0
  · have E1 : Hid (R = ((x1.1, x2.1), x2.2)) := Lib.hid (by rw [E0.out, if_pos hz])
    go_wp2_with fail
    refine bodyPost_ret (v := .agg #[.int .i64 x1.1, .int .i64 x2.1]) (by simp [results, Try.results62, go_sem, *]) rfl ⟨by rw [E1.out], ?_, ?_⟩
    · rw [E1.out]
      exact (rr_set (rr_set H2.out HbR.out) HbR.out)
    · exact (gq_set (gq_set G2.out (Nat.le_refl _)) (Nat.le_refl _))
  · have E1 : Hid (R = ((0, 0), x2.2)) := Lib.hid (by rw [E0.out, if_neg hz])
    go_wp2_with fail
    refine bodyPost_ret (v := .agg #[.int .i64 0, .int .i64 0]) (by simp [results, Try.results62, go_sem, *]) rfl ⟨by rw [E1.out], ?_, ?_⟩
    · rw [E1.out]
      exact (rr_set (rr_set H2.out HbR.out) HbR.out)
    · exact (gq_set (gq_set G2.out (Nat.le_refl _)) (Nat.le_refl _))

set_option maxRecDepth 100000 in
set_option maxHeartbeats 2000000 in
theorem rr_value (b : Nat) (s : ByteArray) (st : St) (hs : s.size ≤ 1000000) (w : World) (h : RR w b s st) :
    Calls Try.prog 60 #[.pointer (qb b)] w fun e w' => e = .returned (.agg #[.int .i64 (rdvalue s st).1.1, .string (rdvalue s st).1.2.1, .int .i64 (rdvalue s st).1.2.2]) ∧ RR w' b s (rdvalue s st).2 ∧ Gq w w' (qb b) := by
  obtain ⟨x1, hx1⟩ : ∃ x, x = rdG 0 scan s st := ⟨_, rfl⟩
  obtain ⟨x2, hx2⟩ : ∃ x, x = rdG ByteArray.empty (scanT 4096) s x1.2 := ⟨_, rfl⟩
  obtain ⟨x3, hx3⟩ : ∃ x, x = rdG 0 scan s x2.2 := ⟨_, rfl⟩
  have e0 : rdvalue s st = (if x3.2.2 = 0 then (x1.1, x2.1, x3.1) else (0, ⟨#[]⟩, 0), x3.2) := by rw [hx3, hx2, hx1]; rfl
  obtain ⟨R, hR⟩ : ∃ R, R = rdvalue s st := ⟨_, rfl⟩
  rw [← hR] at e0 ⊢
  have hlt := h.lt
  have hbR : b ≠ w.heap.size := by omega
  have hbV : b ≠ w.heap.size + 1 := by omega
  have HbR := Lib.hid hbR
  have HbV := Lib.hid hbV
  have E0 := Lib.hid e0
  have Hx1 := Lib.hid hx1
  have Hx2 := Lib.hid hx2
  have Hx3 := Lib.hid hx3
  have H0 : Hid (RR ((w.alloc (.cells #[.int .i64 0, .string ⟨#[]⟩, .int .i64 0] 88)).alloc (.cells #[.int .i64 0, .string ⟨#[]⟩, .int .i64 0] 88)) b s st) := Lib.hid (h.below (((Below.refl _ _).alloc (Nat.le_refl _) _).alloc (by simp) _))
  have G0 : Hid (Gq w ((w.alloc (.cells #[.int .i64 0, .string ⟨#[]⟩, .int .i64 0] 88)).alloc (.cells #[.int .i64 0, .string ⟨#[]⟩, .int .i64 0] 88)) (qb b)) := Lib.hid (gq_two w _ _ _)
  have V0 : Hid (((w.alloc (.cells #[.int .i64 0, .string ⟨#[]⟩, .int .i64 0] 88)).alloc (.cells #[.int .i64 0, .string ⟨#[]⟩, .int .i64 0] 88)).heap[w.heap.size + 1]? = some (.cells #[.int .i64 0, .string ⟨#[]⟩, .int .i64 0] 88 (0, 0))) := Lib.hid (blk_second w _ _)
  have R0 : Hid (((w.alloc (.cells #[.int .i64 0, .string ⟨#[]⟩, .int .i64 0] 88)).alloc (.cells #[.int .i64 0, .string ⟨#[]⟩, .int .i64 0] 88)).heap[w.heap.size]? = some (.cells #[.int .i64 0, .string ⟨#[]⟩, .int .i64 0] 88 (0, 0))) := Lib.hid (blk_first w _ _)
  clear h e0 hR hbR hbV hx1 hx2 hx3
  go_enter Try.func60, Try.ntmps60
  go_wp2_with fail
  have hc1 := rr_number b s st hs _ H0.out
  rw [← Hx1.out] at hc1
  refine hc1.mono ?_
  rintro e w1 ⟨rfl, h1, g1⟩
  have hv := gq_keep g1 V0.out (Ne.symm HbV.out)
  have hr := gq_keep g1 R0.out (Ne.symm HbR.out)
  have d0 := cell_of_row w1 (w.heap.size + 1) 0 _ _ _ hv
  have f0 := frozen_of_row w1 (w.heap.size + 1) 0 _ _ hv
  have V1 : Hid ((w1.setCell ⟨w.heap.size + 1, 0, none⟩ (.int .i64 x1.1)).heap[w.heap.size + 1]? = some (.cells #[.int .i64 x1.1, .string ⟨#[]⟩, .int .i64 0] 88 (0, 0))) := Lib.hid (by have := (blk_set (off := 0) (.int .i64 x1.1) hv); exact this)
  have R1 : Hid ((w1.setCell ⟨w.heap.size + 1, 0, none⟩ (.int .i64 x1.1)).heap[w.heap.size]? = some (.cells #[.int .i64 0, .string ⟨#[]⟩, .int .i64 0] 88 (0, 0))) := Lib.hid ((Deep.blk_setCell_other _ _ _ _ (show w.heap.size ≠ w.heap.size + 1 by omega)).trans hr)
  have H1 : Hid (RR (w1.setCell ⟨w.heap.size + 1, 0, none⟩ (.int .i64 x1.1)) b s x1.2) := Lib.hid (rr_set h1 HbV.out)
  have G1 : Hid (Gq w (w1.setCell ⟨w.heap.size + 1, 0, none⟩ (.int .i64 x1.1)) (qb b)) := Lib.hid (gq_set (Gq.trans G0.out g1) (Nat.le_succ _))
  clear h1 g1 hc1 hv hr
  go_wp2_with fail
  clear d0 f0
  have hc2 := rr_text b s x1.2 hs 4096 _ H1.out
  rw [← Hx2.out] at hc2
  refine hc2.mono ?_
  rintro e w2 ⟨rfl, h2, g2⟩
  have hv := gq_keep g2 V1.out (Ne.symm HbV.out)
  have hr := gq_keep g2 R1.out (Ne.symm HbR.out)
  have d1 := cell_of_row w2 (w.heap.size + 1) 1 _ _ _ hv
  have f1 := frozen_of_row w2 (w.heap.size + 1) 1 _ _ hv
  have V2 : Hid ((w2.setCell ⟨w.heap.size + 1, 1, none⟩ (.string x2.1)).heap[w.heap.size + 1]? = some (.cells #[.int .i64 x1.1, .string x2.1, .int .i64 0] 88 (0, 0))) := Lib.hid (by have := (blk_set (off := 1) (.string x2.1) hv); exact this)
  have R2 : Hid ((w2.setCell ⟨w.heap.size + 1, 1, none⟩ (.string x2.1)).heap[w.heap.size]? = some (.cells #[.int .i64 0, .string ⟨#[]⟩, .int .i64 0] 88 (0, 0))) := Lib.hid ((Deep.blk_setCell_other _ _ _ _ (show w.heap.size ≠ w.heap.size + 1 by omega)).trans hr)
  have H2 : Hid (RR (w2.setCell ⟨w.heap.size + 1, 1, none⟩ (.string x2.1)) b s x2.2) := Lib.hid (rr_set h2 HbV.out)
  have G2 : Hid (Gq w (w2.setCell ⟨w.heap.size + 1, 1, none⟩ (.string x2.1)) (qb b)) := Lib.hid (gq_set (Gq.trans G1.out g2) (Nat.le_succ _))
  clear h2 g2 hc2 hv hr
  go_wp2_with fail
  clear d1 f1
  have hc3 := rr_number b s x2.2 hs _ H2.out
  rw [← Hx3.out] at hc3
  refine hc3.mono ?_
  rintro e w3 ⟨rfl, h3, g3⟩
  have hv := gq_keep g3 V2.out (Ne.symm HbV.out)
  have hr := gq_keep g3 R2.out (Ne.symm HbR.out)
  have d2 := cell_of_row w3 (w.heap.size + 1) 2 _ _ _ hv
  have f2 := frozen_of_row w3 (w.heap.size + 1) 2 _ _ hv
  have V3 : Hid ((w3.setCell ⟨w.heap.size + 1, 2, none⟩ (.int .i64 x3.1)).heap[w.heap.size + 1]? = some (.cells #[.int .i64 x1.1, .string x2.1, .int .i64 x3.1] 88 (0, 0))) := Lib.hid (by have := (blk_set (off := 2) (.int .i64 x3.1) hv); exact this)
  have R3 : Hid ((w3.setCell ⟨w.heap.size + 1, 2, none⟩ (.int .i64 x3.1)).heap[w.heap.size]? = some (.cells #[.int .i64 0, .string ⟨#[]⟩, .int .i64 0] 88 (0, 0))) := Lib.hid ((Deep.blk_setCell_other _ _ _ _ (show w.heap.size ≠ w.heap.size + 1 by omega)).trans hr)
  have H3 : Hid (RR (w3.setCell ⟨w.heap.size + 1, 2, none⟩ (.int .i64 x3.1)) b s x3.2) := Lib.hid (rr_set h3 HbV.out)
  have G3 : Hid (Gq w (w3.setCell ⟨w.heap.size + 1, 2, none⟩ (.int .i64 x3.1)) (qb b)) := Lib.hid (gq_set (Gq.trans G2.out g3) (Nat.le_succ _))
  have de := cell_of_row _ b 2 _ _ _ h3.1
  have d0 := cell_of_row w3 (w.heap.size + 1) 0 _ _ _ hv
  have c0 := cell_of_row w3 w.heap.size 0 _ _ _ hr
  have z0 := frozen_of_row w3 w.heap.size 0 _ _ hr
  have d1 := cell_of_row w3 (w.heap.size + 1) 1 _ _ _ hv
  have c1 := cell_of_row w3 w.heap.size 1 _ _ _ hr
  have z1 := frozen_of_row w3 w.heap.size 1 _ _ hr
  have c2 := cell_of_row w3 w.heap.size 2 _ _ _ hr
  have z2 := frozen_of_row w3 w.heap.size 2 _ _ hr
  clear h3 g3 hc3 hv hr
  by_cases hz : x3.2.2 = 0
  · have E1 : Hid (R = ((x1.1, x2.1, x3.1), x3.2)) := Lib.hid (by rw [E0.out, if_pos hz])
    go_wp2_with fail
    refine bodyPost_ret (v := .agg #[.int .i64 x1.1, .string x2.1, .int .i64 x3.1]) (by simp [results, Try.results60, go_sem, *]) rfl ⟨by rw [E1.out], ?_, ?_⟩
    · rw [E1.out]
      exact (rr_set (rr_set (rr_set H3.out HbR.out) HbR.out) HbR.out)
    · exact (gq_set (gq_set (gq_set G3.out (Nat.le_refl _)) (Nat.le_refl _)) (Nat.le_refl _))
  · have E1 : Hid (R = ((0, ⟨#[]⟩, 0), x3.2)) := Lib.hid (by rw [E0.out, if_neg hz])
    go_wp2_with fail
    refine bodyPost_ret (v := .agg #[.int .i64 0, .string ⟨#[]⟩, .int .i64 0]) (by simp [results, Try.results60, go_sem, *]) rfl ⟨by rw [E1.out], ?_, ?_⟩
    · rw [E1.out]
      exact (rr_set (rr_set (rr_set H3.out HbR.out) HbR.out) HbR.out)
    · exact (gq_set (gq_set (gq_set G3.out (Nat.le_refl _)) (Nat.le_refl _)) (Nat.le_refl _))

set_option maxRecDepth 100000 in
set_option maxHeartbeats 2000000 in
theorem rr_attr (b : Nat) (s : ByteArray) (st : St) (hs : s.size ≤ 1000000) (w : World) (h : RR w b s st) :
    Calls Try.prog 61 #[.pointer (qb b)] w fun e w' => e = .returned (.agg #[.string (rdattr s st).1.key, .int .i64 (rdattr s st).1.kind, .string (rdattr s st).1.text, .int .i64 (rdattr s st).1.int]) ∧ RR w' b s (rdattr s st).2 ∧ Gq w w' (qb b) := by
  obtain ⟨x1, hx1⟩ : ∃ x, x = rdG ByteArray.empty (scanT 4096) s st := ⟨_, rfl⟩
  obtain ⟨x2, hx2⟩ : ∃ x, x = rdvalue s x1.2 := ⟨_, rfl⟩
  have e0 : rdattr s st = (if x2.2.2 = 0 then ⟨x1.1, x2.1.1, x2.1.2.1, x2.1.2.2⟩ else ⟨⟨#[]⟩, 0, ⟨#[]⟩, 0⟩, x2.2) := by rw [hx2, hx1]; rfl
  obtain ⟨R, hR⟩ : ∃ R, R = rdattr s st := ⟨_, rfl⟩
  rw [← hR] at e0 ⊢
  have hlt := h.lt
  have hbR : b ≠ w.heap.size := by omega
  have hbV : b ≠ w.heap.size + 1 := by omega
  have HbR := Lib.hid hbR
  have HbV := Lib.hid hbV
  have E0 := Lib.hid e0
  have Hx1 := Lib.hid hx1
  have Hx2 := Lib.hid hx2
  have H0 : Hid (RR ((w.alloc (.cells #[.string ⟨#[]⟩, .int .i64 0, .string ⟨#[]⟩, .int .i64 0] 91)).alloc (.cells #[.string ⟨#[]⟩, .int .i64 0, .string ⟨#[]⟩, .int .i64 0] 91)) b s st) := Lib.hid (h.below (((Below.refl _ _).alloc (Nat.le_refl _) _).alloc (by simp) _))
  have G0 : Hid (Gq w ((w.alloc (.cells #[.string ⟨#[]⟩, .int .i64 0, .string ⟨#[]⟩, .int .i64 0] 91)).alloc (.cells #[.string ⟨#[]⟩, .int .i64 0, .string ⟨#[]⟩, .int .i64 0] 91)) (qb b)) := Lib.hid (gq_two w _ _ _)
  have V0 : Hid (((w.alloc (.cells #[.string ⟨#[]⟩, .int .i64 0, .string ⟨#[]⟩, .int .i64 0] 91)).alloc (.cells #[.string ⟨#[]⟩, .int .i64 0, .string ⟨#[]⟩, .int .i64 0] 91)).heap[w.heap.size + 1]? = some (.cells #[.string ⟨#[]⟩, .int .i64 0, .string ⟨#[]⟩, .int .i64 0] 91 (0, 0))) := Lib.hid (blk_second w _ _)
  have R0 : Hid (((w.alloc (.cells #[.string ⟨#[]⟩, .int .i64 0, .string ⟨#[]⟩, .int .i64 0] 91)).alloc (.cells #[.string ⟨#[]⟩, .int .i64 0, .string ⟨#[]⟩, .int .i64 0] 91)).heap[w.heap.size]? = some (.cells #[.string ⟨#[]⟩, .int .i64 0, .string ⟨#[]⟩, .int .i64 0] 91 (0, 0))) := Lib.hid (blk_first w _ _)
  clear h e0 hR hbR hbV hx1 hx2
  go_enter Try.func61, Try.ntmps61
  go_wp2_with fail
  have hc1 := rr_text b s st hs 4096 _ H0.out
  rw [← Hx1.out] at hc1
  refine hc1.mono ?_
  rintro e w1 ⟨rfl, h1, g1⟩
  have hv := gq_keep g1 V0.out (Ne.symm HbV.out)
  have hr := gq_keep g1 R0.out (Ne.symm HbR.out)
  have d0 := cell_of_row w1 (w.heap.size + 1) 0 _ _ _ hv
  have f0 := frozen_of_row w1 (w.heap.size + 1) 0 _ _ hv
  have V1 : Hid ((w1.setCell ⟨w.heap.size + 1, 0, none⟩ (.string x1.1)).heap[w.heap.size + 1]? = some (.cells #[.string x1.1, .int .i64 0, .string ⟨#[]⟩, .int .i64 0] 91 (0, 0))) := Lib.hid (by have := (blk_set (off := 0) (.string x1.1) hv); exact this)
  have R1 : Hid ((w1.setCell ⟨w.heap.size + 1, 0, none⟩ (.string x1.1)).heap[w.heap.size]? = some (.cells #[.string ⟨#[]⟩, .int .i64 0, .string ⟨#[]⟩, .int .i64 0] 91 (0, 0))) := Lib.hid ((Deep.blk_setCell_other _ _ _ _ (show w.heap.size ≠ w.heap.size + 1 by omega)).trans hr)
  have H1 : Hid (RR (w1.setCell ⟨w.heap.size + 1, 0, none⟩ (.string x1.1)) b s x1.2) := Lib.hid (rr_set h1 HbV.out)
  have G1 : Hid (Gq w (w1.setCell ⟨w.heap.size + 1, 0, none⟩ (.string x1.1)) (qb b)) := Lib.hid (gq_set (Gq.trans G0.out g1) (Nat.le_succ _))
  clear h1 g1 hc1 hv hr
  go_wp2_with fail
  clear d0 f0
  have hc2 := rr_value b s x1.2 hs _ H1.out
  rw [← Hx2.out] at hc2
  refine hc2.mono ?_
  rintro e w2 ⟨rfl, h2, g2⟩
  have hv := gq_keep g2 V1.out (Ne.symm HbV.out)
  have hr := gq_keep g2 R1.out (Ne.symm HbR.out)
  have d1 := cell_of_row w2 (w.heap.size + 1) 1 _ _ _ hv
  have f1 := frozen_of_row w2 (w.heap.size + 1) 1 _ _ hv
  have d2 := cell_of_row w2 (w.heap.size + 1) 2 _ _ _ hv
  have f2 := frozen_of_row w2 (w.heap.size + 1) 2 _ _ hv
  have d3 := cell_of_row w2 (w.heap.size + 1) 3 _ _ _ hv
  have f3 := frozen_of_row w2 (w.heap.size + 1) 3 _ _ hv
  have V2 : Hid ((((w2.setCell ⟨w.heap.size + 1, 1, none⟩ (.int .i64 x2.1.1)).setCell ⟨w.heap.size + 1, 2, none⟩ (.string x2.1.2.1)).setCell ⟨w.heap.size + 1, 3, none⟩ (.int .i64 x2.1.2.2)).heap[w.heap.size + 1]? = some (.cells #[.string x1.1, .int .i64 x2.1.1, .string x2.1.2.1, .int .i64 x2.1.2.2] 91 (0, 0))) := Lib.hid (by have := (blk_set (off := 3) (.int .i64 x2.1.2.2) (blk_set (off := 2) (.string x2.1.2.1) (blk_set (off := 1) (.int .i64 x2.1.1) hv))); exact this)
  have R2 : Hid ((((w2.setCell ⟨w.heap.size + 1, 1, none⟩ (.int .i64 x2.1.1)).setCell ⟨w.heap.size + 1, 2, none⟩ (.string x2.1.2.1)).setCell ⟨w.heap.size + 1, 3, none⟩ (.int .i64 x2.1.2.2)).heap[w.heap.size]? = some (.cells #[.string ⟨#[]⟩, .int .i64 0, .string ⟨#[]⟩, .int .i64 0] 91 (0, 0))) := Lib.hid ((Deep.blk_setCell_other _ _ _ _ (show w.heap.size ≠ w.heap.size + 1 by omega)).trans ((Deep.blk_setCell_other _ _ _ _ (show w.heap.size ≠ w.heap.size + 1 by omega)).trans ((Deep.blk_setCell_other _ _ _ _ (show w.heap.size ≠ w.heap.size + 1 by omega)).trans hr)))
  have H2 : Hid (RR (((w2.setCell ⟨w.heap.size + 1, 1, none⟩ (.int .i64 x2.1.1)).setCell ⟨w.heap.size + 1, 2, none⟩ (.string x2.1.2.1)).setCell ⟨w.heap.size + 1, 3, none⟩ (.int .i64 x2.1.2.2)) b s x2.2) := Lib.hid (rr_set (rr_set (rr_set h2 HbV.out) HbV.out) HbV.out)
  have G2 : Hid (Gq w (((w2.setCell ⟨w.heap.size + 1, 1, none⟩ (.int .i64 x2.1.1)).setCell ⟨w.heap.size + 1, 2, none⟩ (.string x2.1.2.1)).setCell ⟨w.heap.size + 1, 3, none⟩ (.int .i64 x2.1.2.2)) (qb b)) := Lib.hid (gq_set (gq_set (gq_set (Gq.trans G1.out g2) (Nat.le_succ _)) (Nat.le_succ _)) (Nat.le_succ _))
  have de := cell_of_row _ b 2 _ _ _ h2.1
  have d0 := cell_of_row w2 (w.heap.size + 1) 0 _ _ _ hv
  have c0 := cell_of_row w2 w.heap.size 0 _ _ _ hr
  have z0 := frozen_of_row w2 w.heap.size 0 _ _ hr
  have c1 := cell_of_row w2 w.heap.size 1 _ _ _ hr
  have z1 := frozen_of_row w2 w.heap.size 1 _ _ hr
  have c2 := cell_of_row w2 w.heap.size 2 _ _ _ hr
  have z2 := frozen_of_row w2 w.heap.size 2 _ _ hr
  have c3 := cell_of_row w2 w.heap.size 3 _ _ _ hr
  have z3 := frozen_of_row w2 w.heap.size 3 _ _ hr
  clear h2 g2 hc2 hv hr
  by_cases hz : x2.2.2 = 0
  · have E1 : Hid (R = (⟨x1.1, x2.1.1, x2.1.2.1, x2.1.2.2⟩, x2.2)) := Lib.hid (by rw [E0.out, if_pos hz])
    go_wp2_with fail
    refine bodyPost_ret (v := .agg #[.string x1.1, .int .i64 x2.1.1, .string x2.1.2.1, .int .i64 x2.1.2.2]) (by simp [results, Try.results61, go_sem, *]) rfl ⟨by rw [E1.out], ?_, ?_⟩
    · rw [E1.out]
      exact (rr_set (rr_set (rr_set (rr_set H2.out HbR.out) HbR.out) HbR.out) HbR.out)
    · exact (gq_set (gq_set (gq_set (gq_set G2.out (Nat.le_refl _)) (Nat.le_refl _)) (Nat.le_refl _)) (Nat.le_refl _))
  · have E1 : Hid (R = (⟨⟨#[]⟩, 0, ⟨#[]⟩, 0⟩, x2.2)) := Lib.hid (by rw [E0.out, if_neg hz])
    go_wp2_with fail
    refine bodyPost_ret (v := .agg #[.string ⟨#[]⟩, .int .i64 0, .string ⟨#[]⟩, .int .i64 0]) (by simp [results, Try.results61, go_sem, *]) rfl ⟨by rw [E1.out], ?_, ?_⟩
    · rw [E1.out]
      exact (rr_set (rr_set (rr_set (rr_set H2.out HbR.out) HbR.out) HbR.out) HbR.out)
    · exact (gq_set (gq_set (gq_set (gq_set G2.out (Nat.le_refl _)) (Nat.le_refl _)) (Nat.le_refl _)) (Nat.le_refl _))

set_option maxRecDepth 100000 in
set_option maxHeartbeats 2000000 in
theorem rr_exch (b : Nat) (s : ByteArray) (st : St) (hs : s.size ≤ 1000000) (w : World) (h : RR w b s st) :
    Calls Try.prog 63 #[.pointer (qb b)] w fun e w' => e = .returned (.agg #[.int .i64 (rdexch s st).1.f, .int .i64 (rdexch s st).1.t, .int .i64 (rdexch s st).1.s, .int .i64 (rdexch s st).1.r, .int .i64 (rdexch s st).1.m]) ∧ RR w' b s (rdexch s st).2 ∧ Gq w w' (qb b) := by
  obtain ⟨x1, hx1⟩ : ∃ x, x = rdG 0 scan s st := ⟨_, rfl⟩
  obtain ⟨x2, hx2⟩ : ∃ x, x = rdG 0 scan s x1.2 := ⟨_, rfl⟩
  obtain ⟨x3, hx3⟩ : ∃ x, x = rdG 0 scan s x2.2 := ⟨_, rfl⟩
  obtain ⟨x4, hx4⟩ : ∃ x, x = rdG 0 scan s x3.2 := ⟨_, rfl⟩
  obtain ⟨x5, hx5⟩ : ∃ x, x = rdG 0 scan s x4.2 := ⟨_, rfl⟩
  have e0 : rdexch s st = (if x5.2.2 = 0 then ⟨x1.1, x2.1, x3.1, x4.1, x5.1⟩ else ⟨0, 0, 0, 0, 0⟩, x5.2) := by rw [hx5, hx4, hx3, hx2, hx1]; rfl
  obtain ⟨R, hR⟩ : ∃ R, R = rdexch s st := ⟨_, rfl⟩
  rw [← hR] at e0 ⊢
  have hlt := h.lt
  have hbR : b ≠ w.heap.size := by omega
  have hbV : b ≠ w.heap.size + 1 := by omega
  have HbR := Lib.hid hbR
  have HbV := Lib.hid hbV
  have E0 := Lib.hid e0
  have Hx1 := Lib.hid hx1
  have Hx2 := Lib.hid hx2
  have Hx3 := Lib.hid hx3
  have Hx4 := Lib.hid hx4
  have Hx5 := Lib.hid hx5
  have H0 : Hid (RR ((w.alloc (.cells #[.int .i64 0, .int .i64 0, .int .i64 0, .int .i64 0, .int .i64 0] 95)).alloc (.cells #[.int .i64 0, .int .i64 0, .int .i64 0, .int .i64 0, .int .i64 0] 95)) b s st) := Lib.hid (h.below (((Below.refl _ _).alloc (Nat.le_refl _) _).alloc (by simp) _))
  have G0 : Hid (Gq w ((w.alloc (.cells #[.int .i64 0, .int .i64 0, .int .i64 0, .int .i64 0, .int .i64 0] 95)).alloc (.cells #[.int .i64 0, .int .i64 0, .int .i64 0, .int .i64 0, .int .i64 0] 95)) (qb b)) := Lib.hid (gq_two w _ _ _)
  have V0 : Hid (((w.alloc (.cells #[.int .i64 0, .int .i64 0, .int .i64 0, .int .i64 0, .int .i64 0] 95)).alloc (.cells #[.int .i64 0, .int .i64 0, .int .i64 0, .int .i64 0, .int .i64 0] 95)).heap[w.heap.size + 1]? = some (.cells #[.int .i64 0, .int .i64 0, .int .i64 0, .int .i64 0, .int .i64 0] 95 (0, 0))) := Lib.hid (blk_second w _ _)
  have R0 : Hid (((w.alloc (.cells #[.int .i64 0, .int .i64 0, .int .i64 0, .int .i64 0, .int .i64 0] 95)).alloc (.cells #[.int .i64 0, .int .i64 0, .int .i64 0, .int .i64 0, .int .i64 0] 95)).heap[w.heap.size]? = some (.cells #[.int .i64 0, .int .i64 0, .int .i64 0, .int .i64 0, .int .i64 0] 95 (0, 0))) := Lib.hid (blk_first w _ _)
  clear h e0 hR hbR hbV hx1 hx2 hx3 hx4 hx5
  go_enter Try.func63, Try.ntmps63
  go_wp2_with fail
  have hc1 := rr_number b s st hs _ H0.out
  rw [← Hx1.out] at hc1
  refine hc1.mono ?_
  rintro e w1 ⟨rfl, h1, g1⟩
  have hv := gq_keep g1 V0.out (Ne.symm HbV.out)
  have hr := gq_keep g1 R0.out (Ne.symm HbR.out)
  have d0 := cell_of_row w1 (w.heap.size + 1) 0 _ _ _ hv
  have f0 := frozen_of_row w1 (w.heap.size + 1) 0 _ _ hv
  have V1 : Hid ((w1.setCell ⟨w.heap.size + 1, 0, none⟩ (.int .i64 x1.1)).heap[w.heap.size + 1]? = some (.cells #[.int .i64 x1.1, .int .i64 0, .int .i64 0, .int .i64 0, .int .i64 0] 95 (0, 0))) := Lib.hid (by have := (blk_set (off := 0) (.int .i64 x1.1) hv); exact this)
  have R1 : Hid ((w1.setCell ⟨w.heap.size + 1, 0, none⟩ (.int .i64 x1.1)).heap[w.heap.size]? = some (.cells #[.int .i64 0, .int .i64 0, .int .i64 0, .int .i64 0, .int .i64 0] 95 (0, 0))) := Lib.hid ((Deep.blk_setCell_other _ _ _ _ (show w.heap.size ≠ w.heap.size + 1 by omega)).trans hr)
  have H1 : Hid (RR (w1.setCell ⟨w.heap.size + 1, 0, none⟩ (.int .i64 x1.1)) b s x1.2) := Lib.hid (rr_set h1 HbV.out)
  have G1 : Hid (Gq w (w1.setCell ⟨w.heap.size + 1, 0, none⟩ (.int .i64 x1.1)) (qb b)) := Lib.hid (gq_set (Gq.trans G0.out g1) (Nat.le_succ _))
  clear h1 g1 hc1 hv hr
  go_wp2_with fail
  clear d0 f0
  have hc2 := rr_number b s x1.2 hs _ H1.out
  rw [← Hx2.out] at hc2
  refine hc2.mono ?_
  rintro e w2 ⟨rfl, h2, g2⟩
  have hv := gq_keep g2 V1.out (Ne.symm HbV.out)
  have hr := gq_keep g2 R1.out (Ne.symm HbR.out)
  have d1 := cell_of_row w2 (w.heap.size + 1) 1 _ _ _ hv
  have f1 := frozen_of_row w2 (w.heap.size + 1) 1 _ _ hv
  have V2 : Hid ((w2.setCell ⟨w.heap.size + 1, 1, none⟩ (.int .i64 x2.1)).heap[w.heap.size + 1]? = some (.cells #[.int .i64 x1.1, .int .i64 x2.1, .int .i64 0, .int .i64 0, .int .i64 0] 95 (0, 0))) := Lib.hid (by have := (blk_set (off := 1) (.int .i64 x2.1) hv); exact this)
  have R2 : Hid ((w2.setCell ⟨w.heap.size + 1, 1, none⟩ (.int .i64 x2.1)).heap[w.heap.size]? = some (.cells #[.int .i64 0, .int .i64 0, .int .i64 0, .int .i64 0, .int .i64 0] 95 (0, 0))) := Lib.hid ((Deep.blk_setCell_other _ _ _ _ (show w.heap.size ≠ w.heap.size + 1 by omega)).trans hr)
  have H2 : Hid (RR (w2.setCell ⟨w.heap.size + 1, 1, none⟩ (.int .i64 x2.1)) b s x2.2) := Lib.hid (rr_set h2 HbV.out)
  have G2 : Hid (Gq w (w2.setCell ⟨w.heap.size + 1, 1, none⟩ (.int .i64 x2.1)) (qb b)) := Lib.hid (gq_set (Gq.trans G1.out g2) (Nat.le_succ _))
  clear h2 g2 hc2 hv hr
  go_wp2_with fail
  clear d1 f1
  have hc3 := rr_number b s x2.2 hs _ H2.out
  rw [← Hx3.out] at hc3
  refine hc3.mono ?_
  rintro e w3 ⟨rfl, h3, g3⟩
  have hv := gq_keep g3 V2.out (Ne.symm HbV.out)
  have hr := gq_keep g3 R2.out (Ne.symm HbR.out)
  have d2 := cell_of_row w3 (w.heap.size + 1) 2 _ _ _ hv
  have f2 := frozen_of_row w3 (w.heap.size + 1) 2 _ _ hv
  have V3 : Hid ((w3.setCell ⟨w.heap.size + 1, 2, none⟩ (.int .i64 x3.1)).heap[w.heap.size + 1]? = some (.cells #[.int .i64 x1.1, .int .i64 x2.1, .int .i64 x3.1, .int .i64 0, .int .i64 0] 95 (0, 0))) := Lib.hid (by have := (blk_set (off := 2) (.int .i64 x3.1) hv); exact this)
  have R3 : Hid ((w3.setCell ⟨w.heap.size + 1, 2, none⟩ (.int .i64 x3.1)).heap[w.heap.size]? = some (.cells #[.int .i64 0, .int .i64 0, .int .i64 0, .int .i64 0, .int .i64 0] 95 (0, 0))) := Lib.hid ((Deep.blk_setCell_other _ _ _ _ (show w.heap.size ≠ w.heap.size + 1 by omega)).trans hr)
  have H3 : Hid (RR (w3.setCell ⟨w.heap.size + 1, 2, none⟩ (.int .i64 x3.1)) b s x3.2) := Lib.hid (rr_set h3 HbV.out)
  have G3 : Hid (Gq w (w3.setCell ⟨w.heap.size + 1, 2, none⟩ (.int .i64 x3.1)) (qb b)) := Lib.hid (gq_set (Gq.trans G2.out g3) (Nat.le_succ _))
  clear h3 g3 hc3 hv hr
  go_wp2_with fail
  clear d2 f2
  have hc4 := rr_number b s x3.2 hs _ H3.out
  rw [← Hx4.out] at hc4
  refine hc4.mono ?_
  rintro e w4 ⟨rfl, h4, g4⟩
  have hv := gq_keep g4 V3.out (Ne.symm HbV.out)
  have hr := gq_keep g4 R3.out (Ne.symm HbR.out)
  have d3 := cell_of_row w4 (w.heap.size + 1) 3 _ _ _ hv
  have f3 := frozen_of_row w4 (w.heap.size + 1) 3 _ _ hv
  have V4 : Hid ((w4.setCell ⟨w.heap.size + 1, 3, none⟩ (.int .i64 x4.1)).heap[w.heap.size + 1]? = some (.cells #[.int .i64 x1.1, .int .i64 x2.1, .int .i64 x3.1, .int .i64 x4.1, .int .i64 0] 95 (0, 0))) := Lib.hid (by have := (blk_set (off := 3) (.int .i64 x4.1) hv); exact this)
  have R4 : Hid ((w4.setCell ⟨w.heap.size + 1, 3, none⟩ (.int .i64 x4.1)).heap[w.heap.size]? = some (.cells #[.int .i64 0, .int .i64 0, .int .i64 0, .int .i64 0, .int .i64 0] 95 (0, 0))) := Lib.hid ((Deep.blk_setCell_other _ _ _ _ (show w.heap.size ≠ w.heap.size + 1 by omega)).trans hr)
  have H4 : Hid (RR (w4.setCell ⟨w.heap.size + 1, 3, none⟩ (.int .i64 x4.1)) b s x4.2) := Lib.hid (rr_set h4 HbV.out)
  have G4 : Hid (Gq w (w4.setCell ⟨w.heap.size + 1, 3, none⟩ (.int .i64 x4.1)) (qb b)) := Lib.hid (gq_set (Gq.trans G3.out g4) (Nat.le_succ _))
  clear h4 g4 hc4 hv hr
  go_wp2_with fail
  clear d3 f3
  have hc5 := rr_number b s x4.2 hs _ H4.out
  rw [← Hx5.out] at hc5
  refine hc5.mono ?_
  rintro e w5 ⟨rfl, h5, g5⟩
  have hv := gq_keep g5 V4.out (Ne.symm HbV.out)
  have hr := gq_keep g5 R4.out (Ne.symm HbR.out)
  have d4 := cell_of_row w5 (w.heap.size + 1) 4 _ _ _ hv
  have f4 := frozen_of_row w5 (w.heap.size + 1) 4 _ _ hv
  have V5 : Hid ((w5.setCell ⟨w.heap.size + 1, 4, none⟩ (.int .i64 x5.1)).heap[w.heap.size + 1]? = some (.cells #[.int .i64 x1.1, .int .i64 x2.1, .int .i64 x3.1, .int .i64 x4.1, .int .i64 x5.1] 95 (0, 0))) := Lib.hid (by have := (blk_set (off := 4) (.int .i64 x5.1) hv); exact this)
  have R5 : Hid ((w5.setCell ⟨w.heap.size + 1, 4, none⟩ (.int .i64 x5.1)).heap[w.heap.size]? = some (.cells #[.int .i64 0, .int .i64 0, .int .i64 0, .int .i64 0, .int .i64 0] 95 (0, 0))) := Lib.hid ((Deep.blk_setCell_other _ _ _ _ (show w.heap.size ≠ w.heap.size + 1 by omega)).trans hr)
  have H5 : Hid (RR (w5.setCell ⟨w.heap.size + 1, 4, none⟩ (.int .i64 x5.1)) b s x5.2) := Lib.hid (rr_set h5 HbV.out)
  have G5 : Hid (Gq w (w5.setCell ⟨w.heap.size + 1, 4, none⟩ (.int .i64 x5.1)) (qb b)) := Lib.hid (gq_set (Gq.trans G4.out g5) (Nat.le_succ _))
  have de := cell_of_row _ b 2 _ _ _ h5.1
  have d0 := cell_of_row w5 (w.heap.size + 1) 0 _ _ _ hv
  have c0 := cell_of_row w5 w.heap.size 0 _ _ _ hr
  have z0 := frozen_of_row w5 w.heap.size 0 _ _ hr
  have d1 := cell_of_row w5 (w.heap.size + 1) 1 _ _ _ hv
  have c1 := cell_of_row w5 w.heap.size 1 _ _ _ hr
  have z1 := frozen_of_row w5 w.heap.size 1 _ _ hr
  have d2 := cell_of_row w5 (w.heap.size + 1) 2 _ _ _ hv
  have c2 := cell_of_row w5 w.heap.size 2 _ _ _ hr
  have z2 := frozen_of_row w5 w.heap.size 2 _ _ hr
  have d3 := cell_of_row w5 (w.heap.size + 1) 3 _ _ _ hv
  have c3 := cell_of_row w5 w.heap.size 3 _ _ _ hr
  have z3 := frozen_of_row w5 w.heap.size 3 _ _ hr
  have c4 := cell_of_row w5 w.heap.size 4 _ _ _ hr
  have z4 := frozen_of_row w5 w.heap.size 4 _ _ hr
  clear h5 g5 hc5 hv hr
  by_cases hz : x5.2.2 = 0
  · have E1 : Hid (R = (⟨x1.1, x2.1, x3.1, x4.1, x5.1⟩, x5.2)) := Lib.hid (by rw [E0.out, if_pos hz])
    go_wp2_with fail
    refine bodyPost_ret (v := .agg #[.int .i64 x1.1, .int .i64 x2.1, .int .i64 x3.1, .int .i64 x4.1, .int .i64 x5.1]) (by simp [results, Try.results63, go_sem, *]) rfl ⟨by rw [E1.out], ?_, ?_⟩
    · rw [E1.out]
      exact (rr_set (rr_set (rr_set (rr_set (rr_set H5.out HbR.out) HbR.out) HbR.out) HbR.out) HbR.out)
    · exact (gq_set (gq_set (gq_set (gq_set (gq_set G5.out (Nat.le_refl _)) (Nat.le_refl _)) (Nat.le_refl _)) (Nat.le_refl _)) (Nat.le_refl _))
  · have E1 : Hid (R = (⟨0, 0, 0, 0, 0⟩, x5.2)) := Lib.hid (by rw [E0.out, if_neg hz])
    go_wp2_with fail
    refine bodyPost_ret (v := .agg #[.int .i64 0, .int .i64 0, .int .i64 0, .int .i64 0, .int .i64 0]) (by simp [results, Try.results63, go_sem, *]) rfl ⟨by rw [E1.out], ?_, ?_⟩
    · rw [E1.out]
      exact (rr_set (rr_set (rr_set (rr_set (rr_set H5.out HbR.out) HbR.out) HbR.out) HbR.out) HbR.out)
    · exact (gq_set (gq_set (gq_set (gq_set (gq_set G5.out (Nat.le_refl _)) (Nat.le_refl _)) (Nat.le_refl _)) (Nat.le_refl _)) (Nat.le_refl _))

set_option maxRecDepth 100000 in
set_option maxHeartbeats 2000000 in
theorem rr_msg (b : Nat) (s : ByteArray) (st : St) (hs : s.size ≤ 1000000) (w : World) (h : RR w b s st) :
    Calls Try.prog 64 #[.pointer (qb b)] w fun e w' => e = .returned (.agg #[.int .i64 (rdmsg s st).1.k, .int .i64 (rdmsg s st).1.a1, .int .i64 (rdmsg s st).1.a2, .int .i64 (rdmsg s st).1.b1, .int .i64 (rdmsg s st).1.b2, .int .i64 (rdmsg s st).1.f, .int .i64 (rdmsg s st).1.t, .int .i64 (rdmsg s st).1.s, .int .i64 (rdmsg s st).1.r, .int .i64 (rdmsg s st).1.m]) ∧ RR w' b s (rdmsg s st).2 ∧ Gq w w' (qb b) := by
  obtain ⟨x1, hx1⟩ : ∃ x, x = rdG 0 scan s st := ⟨_, rfl⟩
  obtain ⟨x2, hx2⟩ : ∃ x, x = rdref s x1.2 := ⟨_, rfl⟩
  obtain ⟨x3, hx3⟩ : ∃ x, x = rdref s x2.2 := ⟨_, rfl⟩
  obtain ⟨x4, hx4⟩ : ∃ x, x = rdG 0 scan s x3.2 := ⟨_, rfl⟩
  obtain ⟨x5, hx5⟩ : ∃ x, x = rdG 0 scan s x4.2 := ⟨_, rfl⟩
  obtain ⟨x6, hx6⟩ : ∃ x, x = rdG 0 scan s x5.2 := ⟨_, rfl⟩
  obtain ⟨x7, hx7⟩ : ∃ x, x = rdG 0 scan s x6.2 := ⟨_, rfl⟩
  obtain ⟨x8, hx8⟩ : ∃ x, x = rdG 0 scan s x7.2 := ⟨_, rfl⟩
  have e0 : rdmsg s st = (if x8.2.2 = 0 then ⟨x1.1, x2.1.1, x2.1.2, x3.1.1, x3.1.2, x4.1, x5.1, x6.1, x7.1, x8.1⟩ else ⟨0, 0, 0, 0, 0, 0, 0, 0, 0, 0⟩, x8.2) := by rw [hx8, hx7, hx6, hx5, hx4, hx3, hx2, hx1]; rfl
  obtain ⟨R, hR⟩ : ∃ R, R = rdmsg s st := ⟨_, rfl⟩
  rw [← hR] at e0 ⊢
  have hlt := h.lt
  have hbR : b ≠ w.heap.size := by omega
  have hbV : b ≠ w.heap.size + 1 := by omega
  have HbR := Lib.hid hbR
  have HbV := Lib.hid hbV
  have E0 := Lib.hid e0
  have Hx1 := Lib.hid hx1
  have Hx2 := Lib.hid hx2
  have Hx3 := Lib.hid hx3
  have Hx4 := Lib.hid hx4
  have Hx5 := Lib.hid hx5
  have Hx6 := Lib.hid hx6
  have Hx7 := Lib.hid hx7
  have Hx8 := Lib.hid hx8
  have H0 : Hid (RR ((w.alloc (.cells #[.int .i64 0, .int .i64 0, .int .i64 0, .int .i64 0, .int .i64 0, .int .i64 0, .int .i64 0, .int .i64 0, .int .i64 0, .int .i64 0] 85)).alloc (.cells #[.int .i64 0, .int .i64 0, .int .i64 0, .int .i64 0, .int .i64 0, .int .i64 0, .int .i64 0, .int .i64 0, .int .i64 0, .int .i64 0] 85)) b s st) := Lib.hid (h.below (((Below.refl _ _).alloc (Nat.le_refl _) _).alloc (by simp) _))
  have G0 : Hid (Gq w ((w.alloc (.cells #[.int .i64 0, .int .i64 0, .int .i64 0, .int .i64 0, .int .i64 0, .int .i64 0, .int .i64 0, .int .i64 0, .int .i64 0, .int .i64 0] 85)).alloc (.cells #[.int .i64 0, .int .i64 0, .int .i64 0, .int .i64 0, .int .i64 0, .int .i64 0, .int .i64 0, .int .i64 0, .int .i64 0, .int .i64 0] 85)) (qb b)) := Lib.hid (gq_two w _ _ _)
  have V0 : Hid (((w.alloc (.cells #[.int .i64 0, .int .i64 0, .int .i64 0, .int .i64 0, .int .i64 0, .int .i64 0, .int .i64 0, .int .i64 0, .int .i64 0, .int .i64 0] 85)).alloc (.cells #[.int .i64 0, .int .i64 0, .int .i64 0, .int .i64 0, .int .i64 0, .int .i64 0, .int .i64 0, .int .i64 0, .int .i64 0, .int .i64 0] 85)).heap[w.heap.size + 1]? = some (.cells #[.int .i64 0, .int .i64 0, .int .i64 0, .int .i64 0, .int .i64 0, .int .i64 0, .int .i64 0, .int .i64 0, .int .i64 0, .int .i64 0] 85 (0, 0))) := Lib.hid (blk_second w _ _)
  have R0 : Hid (((w.alloc (.cells #[.int .i64 0, .int .i64 0, .int .i64 0, .int .i64 0, .int .i64 0, .int .i64 0, .int .i64 0, .int .i64 0, .int .i64 0, .int .i64 0] 85)).alloc (.cells #[.int .i64 0, .int .i64 0, .int .i64 0, .int .i64 0, .int .i64 0, .int .i64 0, .int .i64 0, .int .i64 0, .int .i64 0, .int .i64 0] 85)).heap[w.heap.size]? = some (.cells #[.int .i64 0, .int .i64 0, .int .i64 0, .int .i64 0, .int .i64 0, .int .i64 0, .int .i64 0, .int .i64 0, .int .i64 0, .int .i64 0] 85 (0, 0))) := Lib.hid (blk_first w _ _)
  clear h e0 hR hbR hbV hx1 hx2 hx3 hx4 hx5 hx6 hx7 hx8
  go_enter Try.func64, Try.ntmps64
  go_wp2_with fail
  have hc1 := rr_number b s st hs _ H0.out
  rw [← Hx1.out] at hc1
  refine hc1.mono ?_
  rintro e w1 ⟨rfl, h1, g1⟩
  have hv := gq_keep g1 V0.out (Ne.symm HbV.out)
  have hr := gq_keep g1 R0.out (Ne.symm HbR.out)
  have d0 := cell_of_row w1 (w.heap.size + 1) 0 _ _ _ hv
  have f0 := frozen_of_row w1 (w.heap.size + 1) 0 _ _ hv
  have V1 : Hid ((w1.setCell ⟨w.heap.size + 1, 0, none⟩ (.int .i64 x1.1)).heap[w.heap.size + 1]? = some (.cells #[.int .i64 x1.1, .int .i64 0, .int .i64 0, .int .i64 0, .int .i64 0, .int .i64 0, .int .i64 0, .int .i64 0, .int .i64 0, .int .i64 0] 85 (0, 0))) := Lib.hid (by have := (blk_set (off := 0) (.int .i64 x1.1) hv); exact this)
  have R1 : Hid ((w1.setCell ⟨w.heap.size + 1, 0, none⟩ (.int .i64 x1.1)).heap[w.heap.size]? = some (.cells #[.int .i64 0, .int .i64 0, .int .i64 0, .int .i64 0, .int .i64 0, .int .i64 0, .int .i64 0, .int .i64 0, .int .i64 0, .int .i64 0] 85 (0, 0))) := Lib.hid ((Deep.blk_setCell_other _ _ _ _ (show w.heap.size ≠ w.heap.size + 1 by omega)).trans hr)
  have H1 : Hid (RR (w1.setCell ⟨w.heap.size + 1, 0, none⟩ (.int .i64 x1.1)) b s x1.2) := Lib.hid (rr_set h1 HbV.out)
  have G1 : Hid (Gq w (w1.setCell ⟨w.heap.size + 1, 0, none⟩ (.int .i64 x1.1)) (qb b)) := Lib.hid (gq_set (Gq.trans G0.out g1) (Nat.le_succ _))
  clear h1 g1 hc1 hv hr
  go_wp2_with fail
  clear d0 f0
  have hc2 := rr_ref b s x1.2 hs _ H1.out
  rw [← Hx2.out] at hc2
  refine hc2.mono ?_
  rintro e w2 ⟨rfl, h2, g2⟩
  have hv := gq_keep g2 V1.out (Ne.symm HbV.out)
  have hr := gq_keep g2 R1.out (Ne.symm HbR.out)
  have d1 := cell_of_row w2 (w.heap.size + 1) 1 _ _ _ hv
  have f1 := frozen_of_row w2 (w.heap.size + 1) 1 _ _ hv
  have d2 := cell_of_row w2 (w.heap.size + 1) 2 _ _ _ hv
  have f2 := frozen_of_row w2 (w.heap.size + 1) 2 _ _ hv
  have V2 : Hid (((w2.setCell ⟨w.heap.size + 1, 1, none⟩ (.int .i64 x2.1.1)).setCell ⟨w.heap.size + 1, 2, none⟩ (.int .i64 x2.1.2)).heap[w.heap.size + 1]? = some (.cells #[.int .i64 x1.1, .int .i64 x2.1.1, .int .i64 x2.1.2, .int .i64 0, .int .i64 0, .int .i64 0, .int .i64 0, .int .i64 0, .int .i64 0, .int .i64 0] 85 (0, 0))) := Lib.hid (by have := (blk_set (off := 2) (.int .i64 x2.1.2) (blk_set (off := 1) (.int .i64 x2.1.1) hv)); exact this)
  have R2 : Hid (((w2.setCell ⟨w.heap.size + 1, 1, none⟩ (.int .i64 x2.1.1)).setCell ⟨w.heap.size + 1, 2, none⟩ (.int .i64 x2.1.2)).heap[w.heap.size]? = some (.cells #[.int .i64 0, .int .i64 0, .int .i64 0, .int .i64 0, .int .i64 0, .int .i64 0, .int .i64 0, .int .i64 0, .int .i64 0, .int .i64 0] 85 (0, 0))) := Lib.hid ((Deep.blk_setCell_other _ _ _ _ (show w.heap.size ≠ w.heap.size + 1 by omega)).trans ((Deep.blk_setCell_other _ _ _ _ (show w.heap.size ≠ w.heap.size + 1 by omega)).trans hr))
  have H2 : Hid (RR ((w2.setCell ⟨w.heap.size + 1, 1, none⟩ (.int .i64 x2.1.1)).setCell ⟨w.heap.size + 1, 2, none⟩ (.int .i64 x2.1.2)) b s x2.2) := Lib.hid (rr_set (rr_set h2 HbV.out) HbV.out)
  have G2 : Hid (Gq w ((w2.setCell ⟨w.heap.size + 1, 1, none⟩ (.int .i64 x2.1.1)).setCell ⟨w.heap.size + 1, 2, none⟩ (.int .i64 x2.1.2)) (qb b)) := Lib.hid (gq_set (gq_set (Gq.trans G1.out g2) (Nat.le_succ _)) (Nat.le_succ _))
  clear h2 g2 hc2 hv hr
  go_wp2_with fail
  clear d1 f1 d2 f2
  have hc3 := rr_ref b s x2.2 hs _ H2.out
  rw [← Hx3.out] at hc3
  refine hc3.mono ?_
  rintro e w3 ⟨rfl, h3, g3⟩
  have hv := gq_keep g3 V2.out (Ne.symm HbV.out)
  have hr := gq_keep g3 R2.out (Ne.symm HbR.out)
  have d3 := cell_of_row w3 (w.heap.size + 1) 3 _ _ _ hv
  have f3 := frozen_of_row w3 (w.heap.size + 1) 3 _ _ hv
  have d4 := cell_of_row w3 (w.heap.size + 1) 4 _ _ _ hv
  have f4 := frozen_of_row w3 (w.heap.size + 1) 4 _ _ hv
  have V3 : Hid (((w3.setCell ⟨w.heap.size + 1, 3, none⟩ (.int .i64 x3.1.1)).setCell ⟨w.heap.size + 1, 4, none⟩ (.int .i64 x3.1.2)).heap[w.heap.size + 1]? = some (.cells #[.int .i64 x1.1, .int .i64 x2.1.1, .int .i64 x2.1.2, .int .i64 x3.1.1, .int .i64 x3.1.2, .int .i64 0, .int .i64 0, .int .i64 0, .int .i64 0, .int .i64 0] 85 (0, 0))) := Lib.hid (by have := (blk_set (off := 4) (.int .i64 x3.1.2) (blk_set (off := 3) (.int .i64 x3.1.1) hv)); exact this)
  have R3 : Hid (((w3.setCell ⟨w.heap.size + 1, 3, none⟩ (.int .i64 x3.1.1)).setCell ⟨w.heap.size + 1, 4, none⟩ (.int .i64 x3.1.2)).heap[w.heap.size]? = some (.cells #[.int .i64 0, .int .i64 0, .int .i64 0, .int .i64 0, .int .i64 0, .int .i64 0, .int .i64 0, .int .i64 0, .int .i64 0, .int .i64 0] 85 (0, 0))) := Lib.hid ((Deep.blk_setCell_other _ _ _ _ (show w.heap.size ≠ w.heap.size + 1 by omega)).trans ((Deep.blk_setCell_other _ _ _ _ (show w.heap.size ≠ w.heap.size + 1 by omega)).trans hr))
  have H3 : Hid (RR ((w3.setCell ⟨w.heap.size + 1, 3, none⟩ (.int .i64 x3.1.1)).setCell ⟨w.heap.size + 1, 4, none⟩ (.int .i64 x3.1.2)) b s x3.2) := Lib.hid (rr_set (rr_set h3 HbV.out) HbV.out)
  have G3 : Hid (Gq w ((w3.setCell ⟨w.heap.size + 1, 3, none⟩ (.int .i64 x3.1.1)).setCell ⟨w.heap.size + 1, 4, none⟩ (.int .i64 x3.1.2)) (qb b)) := Lib.hid (gq_set (gq_set (Gq.trans G2.out g3) (Nat.le_succ _)) (Nat.le_succ _))
  clear h3 g3 hc3 hv hr
  go_wp2_with fail
  clear d3 f3 d4 f4
  have hc4 := rr_number b s x3.2 hs _ H3.out
  rw [← Hx4.out] at hc4
  refine hc4.mono ?_
  rintro e w4 ⟨rfl, h4, g4⟩
  have hv := gq_keep g4 V3.out (Ne.symm HbV.out)
  have hr := gq_keep g4 R3.out (Ne.symm HbR.out)
  have d5 := cell_of_row w4 (w.heap.size + 1) 5 _ _ _ hv
  have f5 := frozen_of_row w4 (w.heap.size + 1) 5 _ _ hv
  have V4 : Hid ((w4.setCell ⟨w.heap.size + 1, 5, none⟩ (.int .i64 x4.1)).heap[w.heap.size + 1]? = some (.cells #[.int .i64 x1.1, .int .i64 x2.1.1, .int .i64 x2.1.2, .int .i64 x3.1.1, .int .i64 x3.1.2, .int .i64 x4.1, .int .i64 0, .int .i64 0, .int .i64 0, .int .i64 0] 85 (0, 0))) := Lib.hid (by have := (blk_set (off := 5) (.int .i64 x4.1) hv); exact this)
  have R4 : Hid ((w4.setCell ⟨w.heap.size + 1, 5, none⟩ (.int .i64 x4.1)).heap[w.heap.size]? = some (.cells #[.int .i64 0, .int .i64 0, .int .i64 0, .int .i64 0, .int .i64 0, .int .i64 0, .int .i64 0, .int .i64 0, .int .i64 0, .int .i64 0] 85 (0, 0))) := Lib.hid ((Deep.blk_setCell_other _ _ _ _ (show w.heap.size ≠ w.heap.size + 1 by omega)).trans hr)
  have H4 : Hid (RR (w4.setCell ⟨w.heap.size + 1, 5, none⟩ (.int .i64 x4.1)) b s x4.2) := Lib.hid (rr_set h4 HbV.out)
  have G4 : Hid (Gq w (w4.setCell ⟨w.heap.size + 1, 5, none⟩ (.int .i64 x4.1)) (qb b)) := Lib.hid (gq_set (Gq.trans G3.out g4) (Nat.le_succ _))
  clear h4 g4 hc4 hv hr
  go_wp2_with fail
  clear d5 f5
  have hc5 := rr_number b s x4.2 hs _ H4.out
  rw [← Hx5.out] at hc5
  refine hc5.mono ?_
  rintro e w5 ⟨rfl, h5, g5⟩
  have hv := gq_keep g5 V4.out (Ne.symm HbV.out)
  have hr := gq_keep g5 R4.out (Ne.symm HbR.out)
  have d6 := cell_of_row w5 (w.heap.size + 1) 6 _ _ _ hv
  have f6 := frozen_of_row w5 (w.heap.size + 1) 6 _ _ hv
  have V5 : Hid ((w5.setCell ⟨w.heap.size + 1, 6, none⟩ (.int .i64 x5.1)).heap[w.heap.size + 1]? = some (.cells #[.int .i64 x1.1, .int .i64 x2.1.1, .int .i64 x2.1.2, .int .i64 x3.1.1, .int .i64 x3.1.2, .int .i64 x4.1, .int .i64 x5.1, .int .i64 0, .int .i64 0, .int .i64 0] 85 (0, 0))) := Lib.hid (by have := (blk_set (off := 6) (.int .i64 x5.1) hv); exact this)
  have R5 : Hid ((w5.setCell ⟨w.heap.size + 1, 6, none⟩ (.int .i64 x5.1)).heap[w.heap.size]? = some (.cells #[.int .i64 0, .int .i64 0, .int .i64 0, .int .i64 0, .int .i64 0, .int .i64 0, .int .i64 0, .int .i64 0, .int .i64 0, .int .i64 0] 85 (0, 0))) := Lib.hid ((Deep.blk_setCell_other _ _ _ _ (show w.heap.size ≠ w.heap.size + 1 by omega)).trans hr)
  have H5 : Hid (RR (w5.setCell ⟨w.heap.size + 1, 6, none⟩ (.int .i64 x5.1)) b s x5.2) := Lib.hid (rr_set h5 HbV.out)
  have G5 : Hid (Gq w (w5.setCell ⟨w.heap.size + 1, 6, none⟩ (.int .i64 x5.1)) (qb b)) := Lib.hid (gq_set (Gq.trans G4.out g5) (Nat.le_succ _))
  clear h5 g5 hc5 hv hr
  go_wp2_with fail
  clear d6 f6
  have hc6 := rr_number b s x5.2 hs _ H5.out
  rw [← Hx6.out] at hc6
  refine hc6.mono ?_
  rintro e w6 ⟨rfl, h6, g6⟩
  have hv := gq_keep g6 V5.out (Ne.symm HbV.out)
  have hr := gq_keep g6 R5.out (Ne.symm HbR.out)
  have d7 := cell_of_row w6 (w.heap.size + 1) 7 _ _ _ hv
  have f7 := frozen_of_row w6 (w.heap.size + 1) 7 _ _ hv
  have V6 : Hid ((w6.setCell ⟨w.heap.size + 1, 7, none⟩ (.int .i64 x6.1)).heap[w.heap.size + 1]? = some (.cells #[.int .i64 x1.1, .int .i64 x2.1.1, .int .i64 x2.1.2, .int .i64 x3.1.1, .int .i64 x3.1.2, .int .i64 x4.1, .int .i64 x5.1, .int .i64 x6.1, .int .i64 0, .int .i64 0] 85 (0, 0))) := Lib.hid (by have := (blk_set (off := 7) (.int .i64 x6.1) hv); exact this)
  have R6 : Hid ((w6.setCell ⟨w.heap.size + 1, 7, none⟩ (.int .i64 x6.1)).heap[w.heap.size]? = some (.cells #[.int .i64 0, .int .i64 0, .int .i64 0, .int .i64 0, .int .i64 0, .int .i64 0, .int .i64 0, .int .i64 0, .int .i64 0, .int .i64 0] 85 (0, 0))) := Lib.hid ((Deep.blk_setCell_other _ _ _ _ (show w.heap.size ≠ w.heap.size + 1 by omega)).trans hr)
  have H6 : Hid (RR (w6.setCell ⟨w.heap.size + 1, 7, none⟩ (.int .i64 x6.1)) b s x6.2) := Lib.hid (rr_set h6 HbV.out)
  have G6 : Hid (Gq w (w6.setCell ⟨w.heap.size + 1, 7, none⟩ (.int .i64 x6.1)) (qb b)) := Lib.hid (gq_set (Gq.trans G5.out g6) (Nat.le_succ _))
  clear h6 g6 hc6 hv hr
  go_wp2_with fail
  clear d7 f7
  have hc7 := rr_number b s x6.2 hs _ H6.out
  rw [← Hx7.out] at hc7
  refine hc7.mono ?_
  rintro e w7 ⟨rfl, h7, g7⟩
  have hv := gq_keep g7 V6.out (Ne.symm HbV.out)
  have hr := gq_keep g7 R6.out (Ne.symm HbR.out)
  have d8 := cell_of_row w7 (w.heap.size + 1) 8 _ _ _ hv
  have f8 := frozen_of_row w7 (w.heap.size + 1) 8 _ _ hv
  have V7 : Hid ((w7.setCell ⟨w.heap.size + 1, 8, none⟩ (.int .i64 x7.1)).heap[w.heap.size + 1]? = some (.cells #[.int .i64 x1.1, .int .i64 x2.1.1, .int .i64 x2.1.2, .int .i64 x3.1.1, .int .i64 x3.1.2, .int .i64 x4.1, .int .i64 x5.1, .int .i64 x6.1, .int .i64 x7.1, .int .i64 0] 85 (0, 0))) := Lib.hid (by have := (blk_set (off := 8) (.int .i64 x7.1) hv); exact this)
  have R7 : Hid ((w7.setCell ⟨w.heap.size + 1, 8, none⟩ (.int .i64 x7.1)).heap[w.heap.size]? = some (.cells #[.int .i64 0, .int .i64 0, .int .i64 0, .int .i64 0, .int .i64 0, .int .i64 0, .int .i64 0, .int .i64 0, .int .i64 0, .int .i64 0] 85 (0, 0))) := Lib.hid ((Deep.blk_setCell_other _ _ _ _ (show w.heap.size ≠ w.heap.size + 1 by omega)).trans hr)
  have H7 : Hid (RR (w7.setCell ⟨w.heap.size + 1, 8, none⟩ (.int .i64 x7.1)) b s x7.2) := Lib.hid (rr_set h7 HbV.out)
  have G7 : Hid (Gq w (w7.setCell ⟨w.heap.size + 1, 8, none⟩ (.int .i64 x7.1)) (qb b)) := Lib.hid (gq_set (Gq.trans G6.out g7) (Nat.le_succ _))
  clear h7 g7 hc7 hv hr
  go_wp2_with fail
  clear d8 f8
  have hc8 := rr_number b s x7.2 hs _ H7.out
  rw [← Hx8.out] at hc8
  refine hc8.mono ?_
  rintro e w8 ⟨rfl, h8, g8⟩
  have hv := gq_keep g8 V7.out (Ne.symm HbV.out)
  have hr := gq_keep g8 R7.out (Ne.symm HbR.out)
  have d9 := cell_of_row w8 (w.heap.size + 1) 9 _ _ _ hv
  have f9 := frozen_of_row w8 (w.heap.size + 1) 9 _ _ hv
  have V8 : Hid ((w8.setCell ⟨w.heap.size + 1, 9, none⟩ (.int .i64 x8.1)).heap[w.heap.size + 1]? = some (.cells #[.int .i64 x1.1, .int .i64 x2.1.1, .int .i64 x2.1.2, .int .i64 x3.1.1, .int .i64 x3.1.2, .int .i64 x4.1, .int .i64 x5.1, .int .i64 x6.1, .int .i64 x7.1, .int .i64 x8.1] 85 (0, 0))) := Lib.hid (by have := (blk_set (off := 9) (.int .i64 x8.1) hv); exact this)
  have R8 : Hid ((w8.setCell ⟨w.heap.size + 1, 9, none⟩ (.int .i64 x8.1)).heap[w.heap.size]? = some (.cells #[.int .i64 0, .int .i64 0, .int .i64 0, .int .i64 0, .int .i64 0, .int .i64 0, .int .i64 0, .int .i64 0, .int .i64 0, .int .i64 0] 85 (0, 0))) := Lib.hid ((Deep.blk_setCell_other _ _ _ _ (show w.heap.size ≠ w.heap.size + 1 by omega)).trans hr)
  have H8 : Hid (RR (w8.setCell ⟨w.heap.size + 1, 9, none⟩ (.int .i64 x8.1)) b s x8.2) := Lib.hid (rr_set h8 HbV.out)
  have G8 : Hid (Gq w (w8.setCell ⟨w.heap.size + 1, 9, none⟩ (.int .i64 x8.1)) (qb b)) := Lib.hid (gq_set (Gq.trans G7.out g8) (Nat.le_succ _))
  have de := cell_of_row _ b 2 _ _ _ h8.1
  have d0 := cell_of_row w8 (w.heap.size + 1) 0 _ _ _ hv
  have c0 := cell_of_row w8 w.heap.size 0 _ _ _ hr
  have z0 := frozen_of_row w8 w.heap.size 0 _ _ hr
  have d1 := cell_of_row w8 (w.heap.size + 1) 1 _ _ _ hv
  have c1 := cell_of_row w8 w.heap.size 1 _ _ _ hr
  have z1 := frozen_of_row w8 w.heap.size 1 _ _ hr
  have d2 := cell_of_row w8 (w.heap.size + 1) 2 _ _ _ hv
  have c2 := cell_of_row w8 w.heap.size 2 _ _ _ hr
  have z2 := frozen_of_row w8 w.heap.size 2 _ _ hr
  have d3 := cell_of_row w8 (w.heap.size + 1) 3 _ _ _ hv
  have c3 := cell_of_row w8 w.heap.size 3 _ _ _ hr
  have z3 := frozen_of_row w8 w.heap.size 3 _ _ hr
  have d4 := cell_of_row w8 (w.heap.size + 1) 4 _ _ _ hv
  have c4 := cell_of_row w8 w.heap.size 4 _ _ _ hr
  have z4 := frozen_of_row w8 w.heap.size 4 _ _ hr
  have d5 := cell_of_row w8 (w.heap.size + 1) 5 _ _ _ hv
  have c5 := cell_of_row w8 w.heap.size 5 _ _ _ hr
  have z5 := frozen_of_row w8 w.heap.size 5 _ _ hr
  have d6 := cell_of_row w8 (w.heap.size + 1) 6 _ _ _ hv
  have c6 := cell_of_row w8 w.heap.size 6 _ _ _ hr
  have z6 := frozen_of_row w8 w.heap.size 6 _ _ hr
  have d7 := cell_of_row w8 (w.heap.size + 1) 7 _ _ _ hv
  have c7 := cell_of_row w8 w.heap.size 7 _ _ _ hr
  have z7 := frozen_of_row w8 w.heap.size 7 _ _ hr
  have d8 := cell_of_row w8 (w.heap.size + 1) 8 _ _ _ hv
  have c8 := cell_of_row w8 w.heap.size 8 _ _ _ hr
  have z8 := frozen_of_row w8 w.heap.size 8 _ _ hr
  have c9 := cell_of_row w8 w.heap.size 9 _ _ _ hr
  have z9 := frozen_of_row w8 w.heap.size 9 _ _ hr
  clear h8 g8 hc8 hv hr
  by_cases hz : x8.2.2 = 0
  · have E1 : Hid (R = (⟨x1.1, x2.1.1, x2.1.2, x3.1.1, x3.1.2, x4.1, x5.1, x6.1, x7.1, x8.1⟩, x8.2)) := Lib.hid (by rw [E0.out, if_pos hz])
    go_wp2_with fail
    refine bodyPost_ret (v := .agg #[.int .i64 x1.1, .int .i64 x2.1.1, .int .i64 x2.1.2, .int .i64 x3.1.1, .int .i64 x3.1.2, .int .i64 x4.1, .int .i64 x5.1, .int .i64 x6.1, .int .i64 x7.1, .int .i64 x8.1]) (by simp [results, Try.results64, go_sem, *]) rfl ⟨by rw [E1.out], ?_, ?_⟩
    · rw [E1.out]
      exact (rr_set (rr_set (rr_set (rr_set (rr_set (rr_set (rr_set (rr_set (rr_set (rr_set H8.out HbR.out) HbR.out) HbR.out) HbR.out) HbR.out) HbR.out) HbR.out) HbR.out) HbR.out) HbR.out)
    · exact (gq_set (gq_set (gq_set (gq_set (gq_set (gq_set (gq_set (gq_set (gq_set (gq_set G8.out (Nat.le_refl _)) (Nat.le_refl _)) (Nat.le_refl _)) (Nat.le_refl _)) (Nat.le_refl _)) (Nat.le_refl _)) (Nat.le_refl _)) (Nat.le_refl _)) (Nat.le_refl _)) (Nat.le_refl _))
  · have E1 : Hid (R = (⟨0, 0, 0, 0, 0, 0, 0, 0, 0, 0⟩, x8.2)) := Lib.hid (by rw [E0.out, if_neg hz])
    go_wp2_with fail
    refine bodyPost_ret (v := .agg #[.int .i64 0, .int .i64 0, .int .i64 0, .int .i64 0, .int .i64 0, .int .i64 0, .int .i64 0, .int .i64 0, .int .i64 0, .int .i64 0]) (by simp [results, Try.results64, go_sem, *]) rfl ⟨by rw [E1.out], ?_, ?_⟩
    · rw [E1.out]
      exact (rr_set (rr_set (rr_set (rr_set (rr_set (rr_set (rr_set (rr_set (rr_set (rr_set H8.out HbR.out) HbR.out) HbR.out) HbR.out) HbR.out) HbR.out) HbR.out) HbR.out) HbR.out) HbR.out)
    · exact (gq_set (gq_set (gq_set (gq_set (gq_set (gq_set (gq_set (gq_set (gq_set (gq_set G8.out (Nat.le_refl _)) (Nat.le_refl _)) (Nat.le_refl _)) (Nat.le_refl _)) (Nat.le_refl _)) (Nat.le_refl _)) (Nat.le_refl _)) (Nat.le_refl _)) (Nat.le_refl _)) (Nat.le_refl _))

end Go.Proofs.Ytepcihfkkeahhaa
