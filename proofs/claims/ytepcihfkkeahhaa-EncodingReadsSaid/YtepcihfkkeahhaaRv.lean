/- complete; the Reader's Ref, Value, Attr, Exchange, Message, at a Reader or at nil (written by wip/bin/gen_rv.py). -/
import Derived.Test.YtepcihfkkeahhaaRt
namespace Go.Proofs.Ytepcihfkkeahhaa
open Go.ChangeShapes Go.WideShapes Go.ChangeAt Go.RowKit En

structure Ex where
  f : Int
  t : Int
  s : Int
  r : Int
  m : Int
structure Ms where
  k : Int
  a1 : Int
  a2 : Int
  b1 : Int
  b2 : Int
  f : Int
  t : Int
  s : Int
  r : Int
  m : Int
theorem rp_set {w : World} {q : Option Addr} {s : ByteArray} {st : St} {b o : Nat} {v : Value} (h : RP w q s st) (hne : ∀ g, q.map Addr.block = some g → g ≠ b) : RP (w.setCell ⟨b, o, none⟩ v) q s st := by
  rcases h with h | ⟨r, e, h⟩
  · exact Or.inl h
  · subst e
    refine Or.inr ⟨r, rfl, ?_, h.2⟩
    rw [Deep.blk_setCell_other _ _ _ _ (hne r rfl)]
    exact h.1
theorem gq_set {w w' : World} {q : Option Addr} {b o : Nat} {v : Value} (h : Gq w w' q) (hb : w.heap.size ≤ b) : Gq w (w'.setCell ⟨b, o, none⟩ v) q := by
  obtain ⟨h1, h2, h3, h4, h5⟩ := h
  refine ⟨h1, h2, h3, ?_, fun i hi hne => ?_⟩
  · simp [World.setCell]; omega
  · rw [Deep.blk_setCell_other _ _ _ _ (show i ≠ b by omega)]
    exact h5 i hi hne
theorem RP.lt {w : World} {q : Option Addr} {s : ByteArray} {st : St} (h : RP w q s st) : ∀ g, q.map Addr.block = some g → g < w.heap.size := by
  intro g hg
  rcases h with ⟨rfl, _⟩ | ⟨r, rfl, h⟩
  · simp at hg
  · simp at hg; subst hg; exact h.lt
theorem gq_block {w w' : World} {q : Option Addr} {t : TypeId} {cs : Array Value} (G : Gq (w.alloc (.cells cs t)) w' q) (h : ∀ g, q.map Addr.block = some g → g < w.heap.size) : w'.heap[w.heap.size]? = some (.cells cs t (0, 0)) :=
  (G.block w.heap.size (by simp) (fun e => by have := h _ e.symm; omega)).trans (Deep.blk_alloc_new w _)
theorem gq_alloc {w w' : World} {q : Option Addr} {o : Obj} (G : Gq (w.alloc o) w' q) : Gq w w' q := Gq.trans (Gq.of_below ((Below.refl _ _).alloc (Nat.le_refl _) _) q) G

theorem completeQ_ref (q : Option Addr) (s : ByteArray) (st : St) (v0 : Int) (v1 : Int) (w : World) (h : RP w q s st) :
    Calls Try.prog 100 #[.pointer q, .agg #[.int .i64 v0, .int .i64 v1]] w fun e w' => e = .returned (if st.2 = 0 then .agg #[.int .i64 v0, .int .i64 v1] else .agg #[.int .i64 0, .int .i64 0]) ∧ Below w.heap.size w w' := by
  have H := Lib.hid h
  clear h
  obtain ⟨pp, err⟩ := st
  dsimp only
  by_cases he : err = 0
  · rw [if_pos he]
    subst he
    go_enter Try.func100, Try.ntmps100
    go_wp2_with fail
    refine (err_q q s (pp, 0) _ (H.out.below (((Below.refl _ _).alloc (Nat.le_refl _) _).alloc (by simp) _))).mono ?_
    rintro e w1 ⟨rfl, rfl⟩
    go_wp2_with fail
    refine bodyPost_ret (v := .agg #[.int .i64 v0, .int .i64 v1]) (by simp [results, Try.results100, go_sem, *]) rfl ⟨rfl, ((Below.refl _ _).alloc (Nat.le_refl _) _).alloc (by simp) _⟩
  · rw [if_neg he]
    go_enter Try.func100, Try.ntmps100
    go_wp2_with fail
    refine (err_q q s (pp, err) _ (H.out.below (((Below.refl _ _).alloc (Nat.le_refl _) _).alloc (by simp) _))).mono ?_
    rintro e w1 ⟨rfl, rfl⟩
    go_wp2_with fail
    refine bodyPost_ret (v := .agg #[.int .i64 0, .int .i64 0]) (by simp [results, Try.results100, go_sem, *]) rfl ⟨rfl, (((Below.refl _ _).alloc (Nat.le_refl _) _).alloc (by simp) _).alloc (by simp; omega) _⟩

def rdref (s : ByteArray) (st : St) : (Int × Int) × St :=
  let x1 := rdG 0 scan s st
  let x2 := rdG 0 scan s x1.2
  (if x2.2.2 = 0 then (x1.1, x2.1) else (0, 0), x2.2)
set_option maxRecDepth 100000 in
set_option maxHeartbeats 1000000 in
theorem ref_q (q : Option Addr) (s : ByteArray) (st : St) (hs : s.size ≤ 1000000) (w : World) (h : RP w q s st) :
    Calls Try.prog 46 #[.pointer q] w fun e w' => e = .returned (.agg #[.int .i64 (rdref s st).1.1, .int .i64 (rdref s st).1.2]) ∧ RP w' q s (rdref s st).2 ∧ Gq w w' q := by
  obtain ⟨x1, hx1⟩ : ∃ x, x = rdG 0 scan s st := ⟨_, rfl⟩
  obtain ⟨x2, hx2⟩ : ∃ x, x = rdG 0 scan s x1.2 := ⟨_, rfl⟩
  have e0 : rdref s st = (if x2.2.2 = 0 then (x1.1, x2.1) else (0, 0), x2.2) := by rw [hx2, hx1]; rfl
  have ev : (if x2.2.2 = 0 then Value.agg #[.int .i64 x1.1, .int .i64 x2.1] else .agg #[.int .i64 0, .int .i64 0]) = .agg #[.int .i64 (rdref s st).1.1, .int .i64 (rdref s st).1.2] := by
    rw [e0]; by_cases hz : x2.2.2 = 0
    · rw [if_pos hz, if_pos hz]
    · rw [if_neg hz, if_neg hz]
  obtain ⟨R, hR⟩ : ∃ R, R = rdref s st := ⟨_, rfl⟩
  rw [← hR] at ev e0 ⊢
  have hlt := h.lt
  have hr2 : R.2 = x2.2 := by rw [e0]
  have Hr2 := Lib.hid hr2
  have Hlt := Lib.hid hlt
  have H := Lib.hid h
  have Hx1 := Lib.hid hx1
  have Hx2 := Lib.hid hx2
  have Hev := Lib.hid ev
  clear h e0 ev hR hlt hr2 hx1 hx2
  go_enter Try.func46, Try.ntmps46
  go_wp2_with fail
  have H0 : Hid (RP (w.alloc (.cells #[.int .i64 0, .int .i64 0] 83)) q s st) := Lib.hid (H.out.below ((Below.refl _ _).alloc (Nat.le_refl _) _))
  have G0 : Hid (Gq (w.alloc (.cells #[.int .i64 0, .int .i64 0] 83)) (w.alloc (.cells #[.int .i64 0, .int .i64 0] 83)) q) := Lib.hid (Gq.refl _ _)
  have hc1 := number_q q s st hs _ H0.out
  rw [← Hx1.out] at hc1
  refine hc1.mono ?_
  rintro e w1 ⟨rfl, h1, g1⟩
  have H1 := Lib.hid h1
  have G1 := Lib.hid (Gq.trans G0.out g1)
  clear h1 g1 hc1
  go_wp2_with fail
  have hc2 := number_q q s x1.2 hs w1 H1.out
  rw [← Hx2.out] at hc2
  refine hc2.mono ?_
  rintro e w2 ⟨rfl, h2, g2⟩
  have H2 := Lib.hid h2
  have G2 := Lib.hid (Gq.trans G1.out g2)
  clear h2 g2 hc2
  go_wp2_with fail
  refine (completeQ_ref q s x2.2 x1.1 x2.1 w2 H2.out).mono ?_
  rintro e w3 ⟨rfl, hB⟩
  rw [Hev.out]
  have HZ := Lib.hid (H2.out.below hB)
  have GZ := Lib.hid (Gq.trans G2.out (Gq.of_below hB q))
  have hblk := gq_block GZ.out Hlt.out
  have c0 := cell_of_row w3 w.heap.size 0 _ _ _ hblk
  have c1 := cell_of_row w3 w.heap.size 1 _ _ _ hblk
  have f0 := frozen_of_row w3 w.heap.size 0 _ _ hblk
  have f1 := frozen_of_row w3 w.heap.size 1 _ _ hblk
  clear hblk hB
  go_wp2_with fail
  refine bodyPost_ret (v := .agg #[.int .i64 R.1.1, .int .i64 R.1.2]) (by simp [results, Try.results46, go_sem, *]) rfl ⟨rfl, ?_, ?_⟩
  · rw [Hr2.out]
    (repeat' (refine rp_set ?_ (fun g hg => by have := Hlt.out g hg; omega)))
    exact HZ.out
  · (repeat' (refine gq_set ?_ (Nat.le_refl _)))
    exact gq_alloc GZ.out

theorem completeQ_value (q : Option Addr) (s : ByteArray) (st : St) (v0 : Int) (v1 : ByteArray) (v2 : Int) (w : World) (h : RP w q s st) :
    Calls Try.prog 98 #[.pointer q, .agg #[.int .i64 v0, .string v1, .int .i64 v2]] w fun e w' => e = .returned (if st.2 = 0 then .agg #[.int .i64 v0, .string v1, .int .i64 v2] else .agg #[.int .i64 0, .string ⟨#[]⟩, .int .i64 0]) ∧ Below w.heap.size w w' := by
  have H := Lib.hid h
  clear h
  obtain ⟨pp, err⟩ := st
  dsimp only
  by_cases he : err = 0
  · rw [if_pos he]
    subst he
    go_enter Try.func98, Try.ntmps98
    go_wp2_with fail
    refine (err_q q s (pp, 0) _ (H.out.below (((Below.refl _ _).alloc (Nat.le_refl _) _).alloc (by simp) _))).mono ?_
    rintro e w1 ⟨rfl, rfl⟩
    go_wp2_with fail
    refine bodyPost_ret (v := .agg #[.int .i64 v0, .string v1, .int .i64 v2]) (by simp [results, Try.results98, go_sem, *]) rfl ⟨rfl, ((Below.refl _ _).alloc (Nat.le_refl _) _).alloc (by simp) _⟩
  · rw [if_neg he]
    go_enter Try.func98, Try.ntmps98
    go_wp2_with fail
    refine (err_q q s (pp, err) _ (H.out.below (((Below.refl _ _).alloc (Nat.le_refl _) _).alloc (by simp) _))).mono ?_
    rintro e w1 ⟨rfl, rfl⟩
    go_wp2_with fail
    refine bodyPost_ret (v := .agg #[.int .i64 0, .string ⟨#[]⟩, .int .i64 0]) (by simp [results, Try.results98, go_sem, *]) rfl ⟨rfl, (((Below.refl _ _).alloc (Nat.le_refl _) _).alloc (by simp) _).alloc (by simp; omega) _⟩

def rdvalue (s : ByteArray) (st : St) : (Int × ByteArray × Int) × St :=
  let x1 := rdG 0 scan s st
  let x2 := rdG ByteArray.empty (scanT 4096) s x1.2
  let x3 := rdG 0 scan s x2.2
  (if x3.2.2 = 0 then (x1.1, x2.1, x3.1) else (0, ⟨#[]⟩, 0), x3.2)
set_option maxRecDepth 100000 in
set_option maxHeartbeats 1000000 in
theorem value_q (q : Option Addr) (s : ByteArray) (st : St) (hs : s.size ≤ 1000000) (w : World) (h : RP w q s st) :
    Calls Try.prog 44 #[.pointer q] w fun e w' => e = .returned (.agg #[.int .i64 (rdvalue s st).1.1, .string (rdvalue s st).1.2.1, .int .i64 (rdvalue s st).1.2.2]) ∧ RP w' q s (rdvalue s st).2 ∧ Gq w w' q := by
  obtain ⟨x1, hx1⟩ : ∃ x, x = rdG 0 scan s st := ⟨_, rfl⟩
  obtain ⟨x2, hx2⟩ : ∃ x, x = rdG ByteArray.empty (scanT 4096) s x1.2 := ⟨_, rfl⟩
  obtain ⟨x3, hx3⟩ : ∃ x, x = rdG 0 scan s x2.2 := ⟨_, rfl⟩
  have e0 : rdvalue s st = (if x3.2.2 = 0 then (x1.1, x2.1, x3.1) else (0, ⟨#[]⟩, 0), x3.2) := by rw [hx3, hx2, hx1]; rfl
  have ev : (if x3.2.2 = 0 then Value.agg #[.int .i64 x1.1, .string x2.1, .int .i64 x3.1] else .agg #[.int .i64 0, .string ⟨#[]⟩, .int .i64 0]) = .agg #[.int .i64 (rdvalue s st).1.1, .string (rdvalue s st).1.2.1, .int .i64 (rdvalue s st).1.2.2] := by
    rw [e0]; by_cases hz : x3.2.2 = 0
    · rw [if_pos hz, if_pos hz]
    · rw [if_neg hz, if_neg hz]
  obtain ⟨R, hR⟩ : ∃ R, R = rdvalue s st := ⟨_, rfl⟩
  rw [← hR] at ev e0 ⊢
  have hlt := h.lt
  have hr2 : R.2 = x3.2 := by rw [e0]
  have Hr2 := Lib.hid hr2
  have Hlt := Lib.hid hlt
  have H := Lib.hid h
  have Hx1 := Lib.hid hx1
  have Hx2 := Lib.hid hx2
  have Hx3 := Lib.hid hx3
  have Hev := Lib.hid ev
  clear h e0 ev hR hlt hr2 hx1 hx2 hx3
  go_enter Try.func44, Try.ntmps44
  go_wp2_with fail
  have H0 : Hid (RP (w.alloc (.cells #[.int .i64 0, .string ⟨#[]⟩, .int .i64 0] 88)) q s st) := Lib.hid (H.out.below ((Below.refl _ _).alloc (Nat.le_refl _) _))
  have G0 : Hid (Gq (w.alloc (.cells #[.int .i64 0, .string ⟨#[]⟩, .int .i64 0] 88)) (w.alloc (.cells #[.int .i64 0, .string ⟨#[]⟩, .int .i64 0] 88)) q) := Lib.hid (Gq.refl _ _)
  have hc1 := number_q q s st hs _ H0.out
  rw [← Hx1.out] at hc1
  refine hc1.mono ?_
  rintro e w1 ⟨rfl, h1, g1⟩
  have H1 := Lib.hid h1
  have G1 := Lib.hid (Gq.trans G0.out g1)
  clear h1 g1 hc1
  go_wp2_with fail
  have hc2 := text_q q s x1.2 hs 4096 w1 H1.out
  rw [← Hx2.out] at hc2
  refine hc2.mono ?_
  rintro e w2 ⟨rfl, h2, g2⟩
  have H2 := Lib.hid h2
  have G2 := Lib.hid (Gq.trans G1.out g2)
  clear h2 g2 hc2
  go_wp2_with fail
  have hc3 := number_q q s x2.2 hs w2 H2.out
  rw [← Hx3.out] at hc3
  refine hc3.mono ?_
  rintro e w3 ⟨rfl, h3, g3⟩
  have H3 := Lib.hid h3
  have G3 := Lib.hid (Gq.trans G2.out g3)
  clear h3 g3 hc3
  go_wp2_with fail
  refine (completeQ_value q s x3.2 x1.1 x2.1 x3.1 w3 H3.out).mono ?_
  rintro e w4 ⟨rfl, hB⟩
  rw [Hev.out]
  have HZ := Lib.hid (H3.out.below hB)
  have GZ := Lib.hid (Gq.trans G3.out (Gq.of_below hB q))
  have hblk := gq_block GZ.out Hlt.out
  have c0 := cell_of_row w4 w.heap.size 0 _ _ _ hblk
  have c1 := cell_of_row w4 w.heap.size 1 _ _ _ hblk
  have c2 := cell_of_row w4 w.heap.size 2 _ _ _ hblk
  have f0 := frozen_of_row w4 w.heap.size 0 _ _ hblk
  have f1 := frozen_of_row w4 w.heap.size 1 _ _ hblk
  have f2 := frozen_of_row w4 w.heap.size 2 _ _ hblk
  clear hblk hB
  go_wp2_with fail
  refine bodyPost_ret (v := .agg #[.int .i64 R.1.1, .string R.1.2.1, .int .i64 R.1.2.2]) (by simp [results, Try.results44, go_sem, *]) rfl ⟨rfl, ?_, ?_⟩
  · rw [Hr2.out]
    (repeat' (refine rp_set ?_ (fun g hg => by have := Hlt.out g hg; omega)))
    exact HZ.out
  · (repeat' (refine gq_set ?_ (Nat.le_refl _)))
    exact gq_alloc GZ.out

theorem completeQ_attr (q : Option Addr) (s : ByteArray) (st : St) (v0 : ByteArray) (v1 : Int) (v2 : ByteArray) (v3 : Int) (w : World) (h : RP w q s st) :
    Calls Try.prog 99 #[.pointer q, .agg #[.string v0, .int .i64 v1, .string v2, .int .i64 v3]] w fun e w' => e = .returned (if st.2 = 0 then .agg #[.string v0, .int .i64 v1, .string v2, .int .i64 v3] else .agg #[.string ⟨#[]⟩, .int .i64 0, .string ⟨#[]⟩, .int .i64 0]) ∧ Below w.heap.size w w' := by
  have H := Lib.hid h
  clear h
  obtain ⟨pp, err⟩ := st
  dsimp only
  by_cases he : err = 0
  · rw [if_pos he]
    subst he
    go_enter Try.func99, Try.ntmps99
    go_wp2_with fail
    refine (err_q q s (pp, 0) _ (H.out.below (((Below.refl _ _).alloc (Nat.le_refl _) _).alloc (by simp) _))).mono ?_
    rintro e w1 ⟨rfl, rfl⟩
    go_wp2_with fail
    refine bodyPost_ret (v := .agg #[.string v0, .int .i64 v1, .string v2, .int .i64 v3]) (by simp [results, Try.results99, go_sem, *]) rfl ⟨rfl, ((Below.refl _ _).alloc (Nat.le_refl _) _).alloc (by simp) _⟩
  · rw [if_neg he]
    go_enter Try.func99, Try.ntmps99
    go_wp2_with fail
    refine (err_q q s (pp, err) _ (H.out.below (((Below.refl _ _).alloc (Nat.le_refl _) _).alloc (by simp) _))).mono ?_
    rintro e w1 ⟨rfl, rfl⟩
    go_wp2_with fail
    refine bodyPost_ret (v := .agg #[.string ⟨#[]⟩, .int .i64 0, .string ⟨#[]⟩, .int .i64 0]) (by simp [results, Try.results99, go_sem, *]) rfl ⟨rfl, (((Below.refl _ _).alloc (Nat.le_refl _) _).alloc (by simp) _).alloc (by simp; omega) _⟩

def rdattr (s : ByteArray) (st : St) : At × St :=
  let x1 := rdG ByteArray.empty (scanT 4096) s st
  let x2 := rdvalue s x1.2
  (if x2.2.2 = 0 then ⟨x1.1, x2.1.1, x2.1.2.1, x2.1.2.2⟩ else ⟨⟨#[]⟩, 0, ⟨#[]⟩, 0⟩, x2.2)
set_option maxRecDepth 100000 in
set_option maxHeartbeats 1000000 in
theorem attr_q (q : Option Addr) (s : ByteArray) (st : St) (hs : s.size ≤ 1000000) (w : World) (h : RP w q s st) :
    Calls Try.prog 45 #[.pointer q] w fun e w' => e = .returned (.agg #[.string (rdattr s st).1.key, .int .i64 (rdattr s st).1.kind, .string (rdattr s st).1.text, .int .i64 (rdattr s st).1.int]) ∧ RP w' q s (rdattr s st).2 ∧ Gq w w' q := by
  obtain ⟨x1, hx1⟩ : ∃ x, x = rdG ByteArray.empty (scanT 4096) s st := ⟨_, rfl⟩
  obtain ⟨x2, hx2⟩ : ∃ x, x = rdvalue s x1.2 := ⟨_, rfl⟩
  have e0 : rdattr s st = (if x2.2.2 = 0 then ⟨x1.1, x2.1.1, x2.1.2.1, x2.1.2.2⟩ else ⟨⟨#[]⟩, 0, ⟨#[]⟩, 0⟩, x2.2) := by rw [hx2, hx1]; rfl
  have ev : (if x2.2.2 = 0 then Value.agg #[.string x1.1, .int .i64 x2.1.1, .string x2.1.2.1, .int .i64 x2.1.2.2] else .agg #[.string ⟨#[]⟩, .int .i64 0, .string ⟨#[]⟩, .int .i64 0]) = .agg #[.string (rdattr s st).1.key, .int .i64 (rdattr s st).1.kind, .string (rdattr s st).1.text, .int .i64 (rdattr s st).1.int] := by
    rw [e0]; by_cases hz : x2.2.2 = 0
    · rw [if_pos hz, if_pos hz]
    · rw [if_neg hz, if_neg hz]
  obtain ⟨R, hR⟩ : ∃ R, R = rdattr s st := ⟨_, rfl⟩
  rw [← hR] at ev e0 ⊢
  have hlt := h.lt
  have hr2 : R.2 = x2.2 := by rw [e0]
  have Hr2 := Lib.hid hr2
  have Hlt := Lib.hid hlt
  have H := Lib.hid h
  have Hx1 := Lib.hid hx1
  have Hx2 := Lib.hid hx2
  have Hev := Lib.hid ev
  clear h e0 ev hR hlt hr2 hx1 hx2
  go_enter Try.func45, Try.ntmps45
  go_wp2_with fail
  have H0 : Hid (RP (w.alloc (.cells #[.string ⟨#[]⟩, .int .i64 0, .string ⟨#[]⟩, .int .i64 0] 91)) q s st) := Lib.hid (H.out.below ((Below.refl _ _).alloc (Nat.le_refl _) _))
  have G0 : Hid (Gq (w.alloc (.cells #[.string ⟨#[]⟩, .int .i64 0, .string ⟨#[]⟩, .int .i64 0] 91)) (w.alloc (.cells #[.string ⟨#[]⟩, .int .i64 0, .string ⟨#[]⟩, .int .i64 0] 91)) q) := Lib.hid (Gq.refl _ _)
  have hc1 := text_q q s st hs 4096 _ H0.out
  rw [← Hx1.out] at hc1
  refine hc1.mono ?_
  rintro e w1 ⟨rfl, h1, g1⟩
  have H1 := Lib.hid h1
  have G1 := Lib.hid (Gq.trans G0.out g1)
  clear h1 g1 hc1
  go_wp2_with fail
  have hc2 := value_q q s x1.2 hs w1 H1.out
  rw [← Hx2.out] at hc2
  refine hc2.mono ?_
  rintro e w2 ⟨rfl, h2, g2⟩
  have H2 := Lib.hid h2
  have G2 := Lib.hid (Gq.trans G1.out g2)
  clear h2 g2 hc2
  go_wp2_with fail
  refine (completeQ_attr q s x2.2 x1.1 x2.1.1 x2.1.2.1 x2.1.2.2 w2 H2.out).mono ?_
  rintro e w3 ⟨rfl, hB⟩
  rw [Hev.out]
  have HZ := Lib.hid (H2.out.below hB)
  have GZ := Lib.hid (Gq.trans G2.out (Gq.of_below hB q))
  have hblk := gq_block GZ.out Hlt.out
  have c0 := cell_of_row w3 w.heap.size 0 _ _ _ hblk
  have c1 := cell_of_row w3 w.heap.size 1 _ _ _ hblk
  have c2 := cell_of_row w3 w.heap.size 2 _ _ _ hblk
  have c3 := cell_of_row w3 w.heap.size 3 _ _ _ hblk
  have f0 := frozen_of_row w3 w.heap.size 0 _ _ hblk
  have f1 := frozen_of_row w3 w.heap.size 1 _ _ hblk
  have f2 := frozen_of_row w3 w.heap.size 2 _ _ hblk
  have f3 := frozen_of_row w3 w.heap.size 3 _ _ hblk
  clear hblk hB
  go_wp2_with fail
  refine bodyPost_ret (v := .agg #[.string R.1.key, .int .i64 R.1.kind, .string R.1.text, .int .i64 R.1.int]) (by simp [results, Try.results45, go_sem, *]) rfl ⟨rfl, ?_, ?_⟩
  · rw [Hr2.out]
    (repeat' (refine rp_set ?_ (fun g hg => by have := Hlt.out g hg; omega)))
    exact HZ.out
  · (repeat' (refine gq_set ?_ (Nat.le_refl _)))
    exact gq_alloc GZ.out

theorem completeQ_exch (q : Option Addr) (s : ByteArray) (st : St) (v0 : Int) (v1 : Int) (v2 : Int) (v3 : Int) (v4 : Int) (w : World) (h : RP w q s st) :
    Calls Try.prog 101 #[.pointer q, .agg #[.int .i64 v0, .int .i64 v1, .int .i64 v2, .int .i64 v3, .int .i64 v4]] w fun e w' => e = .returned (if st.2 = 0 then .agg #[.int .i64 v0, .int .i64 v1, .int .i64 v2, .int .i64 v3, .int .i64 v4] else .agg #[.int .i64 0, .int .i64 0, .int .i64 0, .int .i64 0, .int .i64 0]) ∧ Below w.heap.size w w' := by
  have H := Lib.hid h
  clear h
  obtain ⟨pp, err⟩ := st
  dsimp only
  by_cases he : err = 0
  · rw [if_pos he]
    subst he
    go_enter Try.func101, Try.ntmps101
    go_wp2_with fail
    refine (err_q q s (pp, 0) _ (H.out.below (((Below.refl _ _).alloc (Nat.le_refl _) _).alloc (by simp) _))).mono ?_
    rintro e w1 ⟨rfl, rfl⟩
    go_wp2_with fail
    refine bodyPost_ret (v := .agg #[.int .i64 v0, .int .i64 v1, .int .i64 v2, .int .i64 v3, .int .i64 v4]) (by simp [results, Try.results101, go_sem, *]) rfl ⟨rfl, ((Below.refl _ _).alloc (Nat.le_refl _) _).alloc (by simp) _⟩
  · rw [if_neg he]
    go_enter Try.func101, Try.ntmps101
    go_wp2_with fail
    refine (err_q q s (pp, err) _ (H.out.below (((Below.refl _ _).alloc (Nat.le_refl _) _).alloc (by simp) _))).mono ?_
    rintro e w1 ⟨rfl, rfl⟩
    go_wp2_with fail
    refine bodyPost_ret (v := .agg #[.int .i64 0, .int .i64 0, .int .i64 0, .int .i64 0, .int .i64 0]) (by simp [results, Try.results101, go_sem, *]) rfl ⟨rfl, (((Below.refl _ _).alloc (Nat.le_refl _) _).alloc (by simp) _).alloc (by simp; omega) _⟩

def rdexch (s : ByteArray) (st : St) : Ex × St :=
  let x1 := rdG 0 scan s st
  let x2 := rdG 0 scan s x1.2
  let x3 := rdG 0 scan s x2.2
  let x4 := rdG 0 scan s x3.2
  let x5 := rdG 0 scan s x4.2
  (if x5.2.2 = 0 then ⟨x1.1, x2.1, x3.1, x4.1, x5.1⟩ else ⟨0, 0, 0, 0, 0⟩, x5.2)
set_option maxRecDepth 100000 in
set_option maxHeartbeats 1000000 in
theorem exch_q (q : Option Addr) (s : ByteArray) (st : St) (hs : s.size ≤ 1000000) (w : World) (h : RP w q s st) :
    Calls Try.prog 47 #[.pointer q] w fun e w' => e = .returned (.agg #[.int .i64 (rdexch s st).1.f, .int .i64 (rdexch s st).1.t, .int .i64 (rdexch s st).1.s, .int .i64 (rdexch s st).1.r, .int .i64 (rdexch s st).1.m]) ∧ RP w' q s (rdexch s st).2 ∧ Gq w w' q := by
  obtain ⟨x1, hx1⟩ : ∃ x, x = rdG 0 scan s st := ⟨_, rfl⟩
  obtain ⟨x2, hx2⟩ : ∃ x, x = rdG 0 scan s x1.2 := ⟨_, rfl⟩
  obtain ⟨x3, hx3⟩ : ∃ x, x = rdG 0 scan s x2.2 := ⟨_, rfl⟩
  obtain ⟨x4, hx4⟩ : ∃ x, x = rdG 0 scan s x3.2 := ⟨_, rfl⟩
  obtain ⟨x5, hx5⟩ : ∃ x, x = rdG 0 scan s x4.2 := ⟨_, rfl⟩
  have e0 : rdexch s st = (if x5.2.2 = 0 then ⟨x1.1, x2.1, x3.1, x4.1, x5.1⟩ else ⟨0, 0, 0, 0, 0⟩, x5.2) := by rw [hx5, hx4, hx3, hx2, hx1]; rfl
  have ev : (if x5.2.2 = 0 then Value.agg #[.int .i64 x1.1, .int .i64 x2.1, .int .i64 x3.1, .int .i64 x4.1, .int .i64 x5.1] else .agg #[.int .i64 0, .int .i64 0, .int .i64 0, .int .i64 0, .int .i64 0]) = .agg #[.int .i64 (rdexch s st).1.f, .int .i64 (rdexch s st).1.t, .int .i64 (rdexch s st).1.s, .int .i64 (rdexch s st).1.r, .int .i64 (rdexch s st).1.m] := by
    rw [e0]; by_cases hz : x5.2.2 = 0
    · rw [if_pos hz, if_pos hz]
    · rw [if_neg hz, if_neg hz]
  obtain ⟨R, hR⟩ : ∃ R, R = rdexch s st := ⟨_, rfl⟩
  rw [← hR] at ev e0 ⊢
  have hlt := h.lt
  have hr2 : R.2 = x5.2 := by rw [e0]
  have Hr2 := Lib.hid hr2
  have Hlt := Lib.hid hlt
  have H := Lib.hid h
  have Hx1 := Lib.hid hx1
  have Hx2 := Lib.hid hx2
  have Hx3 := Lib.hid hx3
  have Hx4 := Lib.hid hx4
  have Hx5 := Lib.hid hx5
  have Hev := Lib.hid ev
  clear h e0 ev hR hlt hr2 hx1 hx2 hx3 hx4 hx5
  go_enter Try.func47, Try.ntmps47
  go_wp2_with fail
  have H0 : Hid (RP (w.alloc (.cells #[.int .i64 0, .int .i64 0, .int .i64 0, .int .i64 0, .int .i64 0] 95)) q s st) := Lib.hid (H.out.below ((Below.refl _ _).alloc (Nat.le_refl _) _))
  have G0 : Hid (Gq (w.alloc (.cells #[.int .i64 0, .int .i64 0, .int .i64 0, .int .i64 0, .int .i64 0] 95)) (w.alloc (.cells #[.int .i64 0, .int .i64 0, .int .i64 0, .int .i64 0, .int .i64 0] 95)) q) := Lib.hid (Gq.refl _ _)
  have hc1 := number_q q s st hs _ H0.out
  rw [← Hx1.out] at hc1
  refine hc1.mono ?_
  rintro e w1 ⟨rfl, h1, g1⟩
  have H1 := Lib.hid h1
  have G1 := Lib.hid (Gq.trans G0.out g1)
  clear h1 g1 hc1
  go_wp2_with fail
  have hc2 := number_q q s x1.2 hs w1 H1.out
  rw [← Hx2.out] at hc2
  refine hc2.mono ?_
  rintro e w2 ⟨rfl, h2, g2⟩
  have H2 := Lib.hid h2
  have G2 := Lib.hid (Gq.trans G1.out g2)
  clear h2 g2 hc2
  go_wp2_with fail
  have hc3 := number_q q s x2.2 hs w2 H2.out
  rw [← Hx3.out] at hc3
  refine hc3.mono ?_
  rintro e w3 ⟨rfl, h3, g3⟩
  have H3 := Lib.hid h3
  have G3 := Lib.hid (Gq.trans G2.out g3)
  clear h3 g3 hc3
  go_wp2_with fail
  have hc4 := number_q q s x3.2 hs w3 H3.out
  rw [← Hx4.out] at hc4
  refine hc4.mono ?_
  rintro e w4 ⟨rfl, h4, g4⟩
  have H4 := Lib.hid h4
  have G4 := Lib.hid (Gq.trans G3.out g4)
  clear h4 g4 hc4
  go_wp2_with fail
  have hc5 := number_q q s x4.2 hs w4 H4.out
  rw [← Hx5.out] at hc5
  refine hc5.mono ?_
  rintro e w5 ⟨rfl, h5, g5⟩
  have H5 := Lib.hid h5
  have G5 := Lib.hid (Gq.trans G4.out g5)
  clear h5 g5 hc5
  go_wp2_with fail
  refine (completeQ_exch q s x5.2 x1.1 x2.1 x3.1 x4.1 x5.1 w5 H5.out).mono ?_
  rintro e w6 ⟨rfl, hB⟩
  rw [Hev.out]
  have HZ := Lib.hid (H5.out.below hB)
  have GZ := Lib.hid (Gq.trans G5.out (Gq.of_below hB q))
  have hblk := gq_block GZ.out Hlt.out
  have c0 := cell_of_row w6 w.heap.size 0 _ _ _ hblk
  have c1 := cell_of_row w6 w.heap.size 1 _ _ _ hblk
  have c2 := cell_of_row w6 w.heap.size 2 _ _ _ hblk
  have c3 := cell_of_row w6 w.heap.size 3 _ _ _ hblk
  have c4 := cell_of_row w6 w.heap.size 4 _ _ _ hblk
  have f0 := frozen_of_row w6 w.heap.size 0 _ _ hblk
  have f1 := frozen_of_row w6 w.heap.size 1 _ _ hblk
  have f2 := frozen_of_row w6 w.heap.size 2 _ _ hblk
  have f3 := frozen_of_row w6 w.heap.size 3 _ _ hblk
  have f4 := frozen_of_row w6 w.heap.size 4 _ _ hblk
  clear hblk hB
  go_wp2_with fail
  refine bodyPost_ret (v := .agg #[.int .i64 R.1.f, .int .i64 R.1.t, .int .i64 R.1.s, .int .i64 R.1.r, .int .i64 R.1.m]) (by simp [results, Try.results47, go_sem, *]) rfl ⟨rfl, ?_, ?_⟩
  · rw [Hr2.out]
    (repeat' (refine rp_set ?_ (fun g hg => by have := Hlt.out g hg; omega)))
    exact HZ.out
  · (repeat' (refine gq_set ?_ (Nat.le_refl _)))
    exact gq_alloc GZ.out

theorem completeQ_msg (q : Option Addr) (s : ByteArray) (st : St) (v0 : Int) (v1 : Int) (v2 : Int) (v3 : Int) (v4 : Int) (v5 : Int) (v6 : Int) (v7 : Int) (v8 : Int) (v9 : Int) (w : World) (h : RP w q s st) :
    Calls Try.prog 102 #[.pointer q, .agg #[.int .i64 v0, .int .i64 v1, .int .i64 v2, .int .i64 v3, .int .i64 v4, .int .i64 v5, .int .i64 v6, .int .i64 v7, .int .i64 v8, .int .i64 v9]] w fun e w' => e = .returned (if st.2 = 0 then .agg #[.int .i64 v0, .int .i64 v1, .int .i64 v2, .int .i64 v3, .int .i64 v4, .int .i64 v5, .int .i64 v6, .int .i64 v7, .int .i64 v8, .int .i64 v9] else .agg #[.int .i64 0, .int .i64 0, .int .i64 0, .int .i64 0, .int .i64 0, .int .i64 0, .int .i64 0, .int .i64 0, .int .i64 0, .int .i64 0]) ∧ Below w.heap.size w w' := by
  have H := Lib.hid h
  clear h
  obtain ⟨pp, err⟩ := st
  dsimp only
  by_cases he : err = 0
  · rw [if_pos he]
    subst he
    go_enter Try.func102, Try.ntmps102
    go_wp2_with fail
    refine (err_q q s (pp, 0) _ (H.out.below (((Below.refl _ _).alloc (Nat.le_refl _) _).alloc (by simp) _))).mono ?_
    rintro e w1 ⟨rfl, rfl⟩
    go_wp2_with fail
    refine bodyPost_ret (v := .agg #[.int .i64 v0, .int .i64 v1, .int .i64 v2, .int .i64 v3, .int .i64 v4, .int .i64 v5, .int .i64 v6, .int .i64 v7, .int .i64 v8, .int .i64 v9]) (by simp [results, Try.results102, go_sem, *]) rfl ⟨rfl, ((Below.refl _ _).alloc (Nat.le_refl _) _).alloc (by simp) _⟩
  · rw [if_neg he]
    go_enter Try.func102, Try.ntmps102
    go_wp2_with fail
    refine (err_q q s (pp, err) _ (H.out.below (((Below.refl _ _).alloc (Nat.le_refl _) _).alloc (by simp) _))).mono ?_
    rintro e w1 ⟨rfl, rfl⟩
    go_wp2_with fail
    refine bodyPost_ret (v := .agg #[.int .i64 0, .int .i64 0, .int .i64 0, .int .i64 0, .int .i64 0, .int .i64 0, .int .i64 0, .int .i64 0, .int .i64 0, .int .i64 0]) (by simp [results, Try.results102, go_sem, *]) rfl ⟨rfl, (((Below.refl _ _).alloc (Nat.le_refl _) _).alloc (by simp) _).alloc (by simp; omega) _⟩

def rdmsg (s : ByteArray) (st : St) : Ms × St :=
  let x1 := rdG 0 scan s st
  let x2 := rdref s x1.2
  let x3 := rdref s x2.2
  let x4 := rdG 0 scan s x3.2
  let x5 := rdG 0 scan s x4.2
  let x6 := rdG 0 scan s x5.2
  let x7 := rdG 0 scan s x6.2
  let x8 := rdG 0 scan s x7.2
  (if x8.2.2 = 0 then ⟨x1.1, x2.1.1, x2.1.2, x3.1.1, x3.1.2, x4.1, x5.1, x6.1, x7.1, x8.1⟩ else ⟨0, 0, 0, 0, 0, 0, 0, 0, 0, 0⟩, x8.2)
set_option maxRecDepth 100000 in
set_option maxHeartbeats 1000000 in
theorem msg_q (q : Option Addr) (s : ByteArray) (st : St) (hs : s.size ≤ 1000000) (w : World) (h : RP w q s st) :
    Calls Try.prog 48 #[.pointer q] w fun e w' => e = .returned (.agg #[.int .i64 (rdmsg s st).1.k, .int .i64 (rdmsg s st).1.a1, .int .i64 (rdmsg s st).1.a2, .int .i64 (rdmsg s st).1.b1, .int .i64 (rdmsg s st).1.b2, .int .i64 (rdmsg s st).1.f, .int .i64 (rdmsg s st).1.t, .int .i64 (rdmsg s st).1.s, .int .i64 (rdmsg s st).1.r, .int .i64 (rdmsg s st).1.m]) ∧ RP w' q s (rdmsg s st).2 ∧ Gq w w' q := by
  obtain ⟨x1, hx1⟩ : ∃ x, x = rdG 0 scan s st := ⟨_, rfl⟩
  obtain ⟨x2, hx2⟩ : ∃ x, x = rdref s x1.2 := ⟨_, rfl⟩
  obtain ⟨x3, hx3⟩ : ∃ x, x = rdref s x2.2 := ⟨_, rfl⟩
  obtain ⟨x4, hx4⟩ : ∃ x, x = rdG 0 scan s x3.2 := ⟨_, rfl⟩
  obtain ⟨x5, hx5⟩ : ∃ x, x = rdG 0 scan s x4.2 := ⟨_, rfl⟩
  obtain ⟨x6, hx6⟩ : ∃ x, x = rdG 0 scan s x5.2 := ⟨_, rfl⟩
  obtain ⟨x7, hx7⟩ : ∃ x, x = rdG 0 scan s x6.2 := ⟨_, rfl⟩
  obtain ⟨x8, hx8⟩ : ∃ x, x = rdG 0 scan s x7.2 := ⟨_, rfl⟩
  have e0 : rdmsg s st = (if x8.2.2 = 0 then ⟨x1.1, x2.1.1, x2.1.2, x3.1.1, x3.1.2, x4.1, x5.1, x6.1, x7.1, x8.1⟩ else ⟨0, 0, 0, 0, 0, 0, 0, 0, 0, 0⟩, x8.2) := by rw [hx8, hx7, hx6, hx5, hx4, hx3, hx2, hx1]; rfl
  have ev : (if x8.2.2 = 0 then Value.agg #[.int .i64 x1.1, .int .i64 x2.1.1, .int .i64 x2.1.2, .int .i64 x3.1.1, .int .i64 x3.1.2, .int .i64 x4.1, .int .i64 x5.1, .int .i64 x6.1, .int .i64 x7.1, .int .i64 x8.1] else .agg #[.int .i64 0, .int .i64 0, .int .i64 0, .int .i64 0, .int .i64 0, .int .i64 0, .int .i64 0, .int .i64 0, .int .i64 0, .int .i64 0]) = .agg #[.int .i64 (rdmsg s st).1.k, .int .i64 (rdmsg s st).1.a1, .int .i64 (rdmsg s st).1.a2, .int .i64 (rdmsg s st).1.b1, .int .i64 (rdmsg s st).1.b2, .int .i64 (rdmsg s st).1.f, .int .i64 (rdmsg s st).1.t, .int .i64 (rdmsg s st).1.s, .int .i64 (rdmsg s st).1.r, .int .i64 (rdmsg s st).1.m] := by
    rw [e0]; by_cases hz : x8.2.2 = 0
    · rw [if_pos hz, if_pos hz]
    · rw [if_neg hz, if_neg hz]
  obtain ⟨R, hR⟩ : ∃ R, R = rdmsg s st := ⟨_, rfl⟩
  rw [← hR] at ev e0 ⊢
  have hlt := h.lt
  have hr2 : R.2 = x8.2 := by rw [e0]
  have Hr2 := Lib.hid hr2
  have Hlt := Lib.hid hlt
  have H := Lib.hid h
  have Hx1 := Lib.hid hx1
  have Hx2 := Lib.hid hx2
  have Hx3 := Lib.hid hx3
  have Hx4 := Lib.hid hx4
  have Hx5 := Lib.hid hx5
  have Hx6 := Lib.hid hx6
  have Hx7 := Lib.hid hx7
  have Hx8 := Lib.hid hx8
  have Hev := Lib.hid ev
  clear h e0 ev hR hlt hr2 hx1 hx2 hx3 hx4 hx5 hx6 hx7 hx8
  go_enter Try.func48, Try.ntmps48
  go_wp2_with fail
  have H0 : Hid (RP (w.alloc (.cells #[.int .i64 0, .int .i64 0, .int .i64 0, .int .i64 0, .int .i64 0, .int .i64 0, .int .i64 0, .int .i64 0, .int .i64 0, .int .i64 0] 85)) q s st) := Lib.hid (H.out.below ((Below.refl _ _).alloc (Nat.le_refl _) _))
  have G0 : Hid (Gq (w.alloc (.cells #[.int .i64 0, .int .i64 0, .int .i64 0, .int .i64 0, .int .i64 0, .int .i64 0, .int .i64 0, .int .i64 0, .int .i64 0, .int .i64 0] 85)) (w.alloc (.cells #[.int .i64 0, .int .i64 0, .int .i64 0, .int .i64 0, .int .i64 0, .int .i64 0, .int .i64 0, .int .i64 0, .int .i64 0, .int .i64 0] 85)) q) := Lib.hid (Gq.refl _ _)
  have hc1 := number_q q s st hs _ H0.out
  rw [← Hx1.out] at hc1
  refine hc1.mono ?_
  rintro e w1 ⟨rfl, h1, g1⟩
  have H1 := Lib.hid h1
  have G1 := Lib.hid (Gq.trans G0.out g1)
  clear h1 g1 hc1
  go_wp2_with fail
  have hc2 := ref_q q s x1.2 hs w1 H1.out
  rw [← Hx2.out] at hc2
  refine hc2.mono ?_
  rintro e w2 ⟨rfl, h2, g2⟩
  have H2 := Lib.hid h2
  have G2 := Lib.hid (Gq.trans G1.out g2)
  clear h2 g2 hc2
  go_wp2_with fail
  have hc3 := ref_q q s x2.2 hs w2 H2.out
  rw [← Hx3.out] at hc3
  refine hc3.mono ?_
  rintro e w3 ⟨rfl, h3, g3⟩
  have H3 := Lib.hid h3
  have G3 := Lib.hid (Gq.trans G2.out g3)
  clear h3 g3 hc3
  go_wp2_with fail
  have hc4 := number_q q s x3.2 hs w3 H3.out
  rw [← Hx4.out] at hc4
  refine hc4.mono ?_
  rintro e w4 ⟨rfl, h4, g4⟩
  have H4 := Lib.hid h4
  have G4 := Lib.hid (Gq.trans G3.out g4)
  clear h4 g4 hc4
  go_wp2_with fail
  have hc5 := number_q q s x4.2 hs w4 H4.out
  rw [← Hx5.out] at hc5
  refine hc5.mono ?_
  rintro e w5 ⟨rfl, h5, g5⟩
  have H5 := Lib.hid h5
  have G5 := Lib.hid (Gq.trans G4.out g5)
  clear h5 g5 hc5
  go_wp2_with fail
  have hc6 := number_q q s x5.2 hs w5 H5.out
  rw [← Hx6.out] at hc6
  refine hc6.mono ?_
  rintro e w6 ⟨rfl, h6, g6⟩
  have H6 := Lib.hid h6
  have G6 := Lib.hid (Gq.trans G5.out g6)
  clear h6 g6 hc6
  go_wp2_with fail
  have hc7 := number_q q s x6.2 hs w6 H6.out
  rw [← Hx7.out] at hc7
  refine hc7.mono ?_
  rintro e w7 ⟨rfl, h7, g7⟩
  have H7 := Lib.hid h7
  have G7 := Lib.hid (Gq.trans G6.out g7)
  clear h7 g7 hc7
  go_wp2_with fail
  have hc8 := number_q q s x7.2 hs w7 H7.out
  rw [← Hx8.out] at hc8
  refine hc8.mono ?_
  rintro e w8 ⟨rfl, h8, g8⟩
  have H8 := Lib.hid h8
  have G8 := Lib.hid (Gq.trans G7.out g8)
  clear h8 g8 hc8
  go_wp2_with fail
  refine (completeQ_msg q s x8.2 x1.1 x2.1.1 x2.1.2 x3.1.1 x3.1.2 x4.1 x5.1 x6.1 x7.1 x8.1 w8 H8.out).mono ?_
  rintro e w9 ⟨rfl, hB⟩
  rw [Hev.out]
  have HZ := Lib.hid (H8.out.below hB)
  have GZ := Lib.hid (Gq.trans G8.out (Gq.of_below hB q))
  have hblk := gq_block GZ.out Hlt.out
  have c0 := cell_of_row w9 w.heap.size 0 _ _ _ hblk
  have c1 := cell_of_row w9 w.heap.size 1 _ _ _ hblk
  have c2 := cell_of_row w9 w.heap.size 2 _ _ _ hblk
  have c3 := cell_of_row w9 w.heap.size 3 _ _ _ hblk
  have c4 := cell_of_row w9 w.heap.size 4 _ _ _ hblk
  have c5 := cell_of_row w9 w.heap.size 5 _ _ _ hblk
  have c6 := cell_of_row w9 w.heap.size 6 _ _ _ hblk
  have c7 := cell_of_row w9 w.heap.size 7 _ _ _ hblk
  have c8 := cell_of_row w9 w.heap.size 8 _ _ _ hblk
  have c9 := cell_of_row w9 w.heap.size 9 _ _ _ hblk
  have f0 := frozen_of_row w9 w.heap.size 0 _ _ hblk
  have f1 := frozen_of_row w9 w.heap.size 1 _ _ hblk
  have f2 := frozen_of_row w9 w.heap.size 2 _ _ hblk
  have f3 := frozen_of_row w9 w.heap.size 3 _ _ hblk
  have f4 := frozen_of_row w9 w.heap.size 4 _ _ hblk
  have f5 := frozen_of_row w9 w.heap.size 5 _ _ hblk
  have f6 := frozen_of_row w9 w.heap.size 6 _ _ hblk
  have f7 := frozen_of_row w9 w.heap.size 7 _ _ hblk
  have f8 := frozen_of_row w9 w.heap.size 8 _ _ hblk
  have f9 := frozen_of_row w9 w.heap.size 9 _ _ hblk
  clear hblk hB
  go_wp2_with fail
  refine bodyPost_ret (v := .agg #[.int .i64 R.1.k, .int .i64 R.1.a1, .int .i64 R.1.a2, .int .i64 R.1.b1, .int .i64 R.1.b2, .int .i64 R.1.f, .int .i64 R.1.t, .int .i64 R.1.s, .int .i64 R.1.r, .int .i64 R.1.m]) (by simp [results, Try.results48, go_sem, *]) rfl ⟨rfl, ?_, ?_⟩
  · rw [Hr2.out]
    (repeat' (refine rp_set ?_ (fun g hg => by have := Hlt.out g hg; omega)))
    exact HZ.out
  · (repeat' (refine gq_set ?_ (Nat.le_refl _)))
    exact gq_alloc GZ.out

end Go.Proofs.Ytepcihfkkeahhaa
