/- reads: one call on the Reader and on the reference (written by wip/bin/gen_rk.py). -/
import Derived.Test.YtepcihfkkeahhaaSn
import Derived.Test.YtepcihfkkeahhaaRx
namespace Go.Proofs.Ytepcihfkkeahhaa
open Go.ChangeShapes Go.WideShapes Go.ChangeAt Go.RowKit En

/-- The Reader and the reference's, at one state. -/
structure Two (w0 w : World) (r b : Nat) (s : ByteArray) (st : St) : Prop where
  rp : RP w (qb r) s st
  rr : RR w b s st
  os : w.os = w0.os
  tape : w.tape = w0.tape
  output : w.output = w0.output
  size : w0.heap.size ≤ w.heap.size
  block : ∀ i, i < w0.heap.size → i ≠ r → i ≠ b → w.heap[i]? = w0.heap[i]?
theorem Two.below {w0 w w' : World} {r b : Nat} {s : ByteArray} {st : St} (h : Two w0 w r b s st) (hb : Below w.heap.size w w') : Two w0 w' r b s st :=
  ⟨h.rp.below hb, ⟨(hb.block b h.rr.lt).trans h.rr.1, h.rr.2⟩, hb.os.trans h.os, hb.tape.trans h.tape, hb.output.trans h.output, Nat.le_trans h.size hb.size, fun i hi a c => (hb.block i (Nat.lt_of_lt_of_le hi h.size)).trans (h.block i hi a c)⟩
theorem Two.q {w0 w w' : World} {r b : Nat} {s : ByteArray} {st : St} (h : Two w0 w r b s st) (hne : r ≠ b) (g : Gq w w' (qb r)) : RR w' b s st :=
  ⟨(g.block b h.rr.lt (fun e => hne (by simpa using e.symm))).trans h.rr.1, h.rr.2⟩
theorem RP.q {w w' : World} {r b : Nat} {s : ByteArray} {st : St} (h : RP w (qb r) s st) (hne : r ≠ b) (g : Gq w w' (qb b)) : RP w' (qb r) s st := by
  rcases h with ⟨h1, _⟩ | ⟨g', e, hg⟩
  · exact absurd h1 (by simp)
  · simp only [Option.some.injEq, Addr.mk.injEq, and_true] at e
    subst e
    exact Or.inr ⟨_, rfl, (g.block r hg.lt (fun e => hne (by simpa using e))).trans hg.1, hg.2⟩
/-- Behind a call on the Reader and then one on the reference's. -/
theorem Two.both {w0 w w1 w2 : World} {r b : Nat} {s : ByteArray} {st st' : St} (h : Two w0 w r b s st) (hne : r ≠ b) (h1 : RP w1 (qb r) s st') (g1 : Gq w w1 (qb r)) (h2 : RR w2 b s st') (g2 : Gq w1 w2 (qb b)) : Two w0 w2 r b s st' where
  rp := h1.q hne g2
  rr := h2
  os := g2.os.trans (g1.os.trans h.os)
  tape := g2.tape.trans (g1.tape.trans h.tape)
  output := g2.output.trans (g1.output.trans h.output)
  size := Nat.le_trans h.size (Nat.le_trans g1.size g2.size)
  block := fun i hi a c => (g2.block i (Nat.lt_of_lt_of_le hi (Nat.le_trans h.size g1.size)) (fun e => c (by simpa using e))).trans ((g1.block i (Nat.lt_of_lt_of_le hi h.size) (fun e => a (by simpa using e))).trans (h.block i hi a c))

set_option maxRecDepth 100000 in
set_option maxHeartbeats 1000000 in
theorem reads_number (r b : Nat) (hne : r ≠ b) (s : ByteArray) (hs : s.size ≤ 1000000) (st : St) (kd : Nat) (hk : kd % 10 = 0) (m : Int) (w0 w : World) (h : Two w0 w r b s st) :
    Calls Try.prog 21 #[.pointer (qb r), .pointer (qb b), .agg #[.int .u8 (kd : Int), .int .i64 m]] w fun e w' => e = .returned (.bool true) ∧ ∃ st', Two w0 w' r b s st' := by
  have hr1 : (kd : Int) % 10 = 0 := by omega
  have hr2 : (kd : Int).tmod 10 = 0 := by
    have : (kd : Int).tmod 10 = ((kd % 10 : Nat) : Int) := rfl
    rw [this, hk]; rfl
  have hb0 := (Below.refl w.heap.size w).alloc (Nat.le_refl _) (.cells #[.int .u8 (kd : Int), .int .i64 m] 41)
  have hT := h.below hb0
  have HT := Lib.hid hT
  have hc1 := number_q (qb r) s st hs _ hT.rp
  have hc2 := fun W hW => rr_number b s st hs W hW
  obtain ⟨R, hR⟩ : ∃ R, R = rdG 0 scan s st := ⟨_, rfl⟩
  rw [← hR] at hc1
  simp only [← hR] at hc2
  obtain ⟨x, st1⟩ := R
  try dsimp only at hc1 hc2
  have Hc1 := Lib.hid hc1
  have Hc2 := Lib.hid hc2
  clear hc1 hc2 hR h hT hb0
  go_enter Try.func21, Try.ntmps21
  go_wp2_with fail
  refine Hc1.out.mono ?_
  rintro e w1 ⟨rfl, h1, g1⟩
  have H1 := Lib.hid h1
  have G1 := Lib.hid g1
  clear h1 g1
  go_wp2_with fail
  refine (Hc2.out w1 (HT.out.q hne G1.out)).mono ?_
  rintro e w2 ⟨rfl, h2, g2⟩
  have H2 := Lib.hid h2
  have G2 := Lib.hid g2
  clear h2 g2
  go_wp2_with fail
  go_ret
  exact ⟨by simp, _, HT.out.both hne H1.out G1.out H2.out G2.out⟩

set_option maxRecDepth 100000 in
set_option maxHeartbeats 1000000 in
theorem reads_bool (r b : Nat) (hne : r ≠ b) (s : ByteArray) (hs : s.size ≤ 1000000) (st : St) (kd : Nat) (hk : kd % 10 = 1) (m : Int) (w0 w : World) (h : Two w0 w r b s st) :
    Calls Try.prog 21 #[.pointer (qb r), .pointer (qb b), .agg #[.int .u8 (kd : Int), .int .i64 m]] w fun e w' => e = .returned (.bool true) ∧ ∃ st', Two w0 w' r b s st' := by
  have hr1 : (kd : Int) % 10 = 1 := by omega
  have hr2 : (kd : Int).tmod 10 = 1 := by
    have : (kd : Int).tmod 10 = ((kd % 10 : Nat) : Int) := rfl
    rw [this, hk]; rfl
  have hb0 := (Below.refl w.heap.size w).alloc (Nat.le_refl _) (.cells #[.int .u8 (kd : Int), .int .i64 m] 41)
  have hT := h.below hb0
  have HT := Lib.hid hT
  have hc1 := bool_q (qb r) s st hs _ hT.rp
  have hc2 := fun W hW => rr_bool b s st hs W hW
  obtain ⟨R, hR⟩ : ∃ R, R = rdG false scanB s st := ⟨_, rfl⟩
  rw [← hR] at hc1
  simp only [← hR] at hc2
  obtain ⟨x, st1⟩ := R
  try dsimp only at hc1 hc2
  have Hc1 := Lib.hid hc1
  have Hc2 := Lib.hid hc2
  clear hc1 hc2 hR h hT hb0
  go_enter Try.func21, Try.ntmps21
  go_wp2_with fail
  refine Hc1.out.mono ?_
  rintro e w1 ⟨rfl, h1, g1⟩
  have H1 := Lib.hid h1
  have G1 := Lib.hid g1
  clear h1 g1
  go_wp2_with fail
  refine (Hc2.out w1 (HT.out.q hne G1.out)).mono ?_
  rintro e w2 ⟨rfl, h2, g2⟩
  have H2 := Lib.hid h2
  have G2 := Lib.hid g2
  clear h2 g2
  go_wp2_with fail
  go_ret
  exact ⟨by simp, _, HT.out.both hne H1.out G1.out H2.out G2.out⟩

set_option maxRecDepth 100000 in
set_option maxHeartbeats 1000000 in
theorem reads_value (r b : Nat) (hne : r ≠ b) (s : ByteArray) (hs : s.size ≤ 1000000) (st : St) (kd : Nat) (hk : kd % 10 = 4) (m : Int) (w0 w : World) (h : Two w0 w r b s st) :
    Calls Try.prog 21 #[.pointer (qb r), .pointer (qb b), .agg #[.int .u8 (kd : Int), .int .i64 m]] w fun e w' => e = .returned (.bool true) ∧ ∃ st', Two w0 w' r b s st' := by
  have hr1 : (kd : Int) % 10 = 4 := by omega
  have hr2 : (kd : Int).tmod 10 = 4 := by
    have : (kd : Int).tmod 10 = ((kd % 10 : Nat) : Int) := rfl
    rw [this, hk]; rfl
  have hb0 := (Below.refl w.heap.size w).alloc (Nat.le_refl _) (.cells #[.int .u8 (kd : Int), .int .i64 m] 41)
  have hT := h.below hb0
  have HT := Lib.hid hT
  have hc1 := value_q (qb r) s st hs _ hT.rp
  have hc2 := fun W hW => rr_value b s st hs W hW
  obtain ⟨R, hR⟩ : ∃ R, R = rdvalue s st := ⟨_, rfl⟩
  rw [← hR] at hc1
  simp only [← hR] at hc2
  obtain ⟨⟨x1, x2, x3⟩, st1⟩ := R
  try dsimp only at hc1 hc2
  have Hc1 := Lib.hid hc1
  have Hc2 := Lib.hid hc2
  clear hc1 hc2 hR h hT hb0
  go_enter Try.func21, Try.ntmps21
  go_wp2_with fail
  refine Hc1.out.mono ?_
  rintro e w1 ⟨rfl, h1, g1⟩
  have H1 := Lib.hid h1
  have G1 := Lib.hid g1
  clear h1 g1
  go_wp2_with fail
  refine (Hc2.out w1 (HT.out.q hne G1.out)).mono ?_
  rintro e w2 ⟨rfl, h2, g2⟩
  have H2 := Lib.hid h2
  have G2 := Lib.hid g2
  clear h2 g2
  go_wp2_with fail
  go_ret
  exact ⟨by simp, _, HT.out.both hne H1.out G1.out H2.out G2.out⟩

set_option maxRecDepth 100000 in
set_option maxHeartbeats 1000000 in
theorem reads_attr (r b : Nat) (hne : r ≠ b) (s : ByteArray) (hs : s.size ≤ 1000000) (st : St) (kd : Nat) (hk : kd % 10 = 5) (m : Int) (w0 w : World) (h : Two w0 w r b s st) :
    Calls Try.prog 21 #[.pointer (qb r), .pointer (qb b), .agg #[.int .u8 (kd : Int), .int .i64 m]] w fun e w' => e = .returned (.bool true) ∧ ∃ st', Two w0 w' r b s st' := by
  have hr1 : (kd : Int) % 10 = 5 := by omega
  have hr2 : (kd : Int).tmod 10 = 5 := by
    have : (kd : Int).tmod 10 = ((kd % 10 : Nat) : Int) := rfl
    rw [this, hk]; rfl
  have hb0 := (Below.refl w.heap.size w).alloc (Nat.le_refl _) (.cells #[.int .u8 (kd : Int), .int .i64 m] 41)
  have hT := h.below hb0
  have HT := Lib.hid hT
  have hc1 := attr_q (qb r) s st hs _ hT.rp
  have hc2 := fun W hW => rr_attr b s st hs W hW
  obtain ⟨R, hR⟩ : ∃ R, R = rdattr s st := ⟨_, rfl⟩
  rw [← hR] at hc1
  simp only [← hR] at hc2
  obtain ⟨⟨x1, x2, x3, x4⟩, st1⟩ := R
  try dsimp only at hc1 hc2
  have Hc1 := Lib.hid hc1
  have Hc2 := Lib.hid hc2
  clear hc1 hc2 hR h hT hb0
  go_enter Try.func21, Try.ntmps21
  go_wp2_with fail
  refine Hc1.out.mono ?_
  rintro e w1 ⟨rfl, h1, g1⟩
  have H1 := Lib.hid h1
  have G1 := Lib.hid g1
  clear h1 g1
  go_wp2_with fail
  refine (Hc2.out w1 (HT.out.q hne G1.out)).mono ?_
  rintro e w2 ⟨rfl, h2, g2⟩
  have H2 := Lib.hid h2
  have G2 := Lib.hid g2
  clear h2 g2
  go_wp2_with fail
  go_ret
  exact ⟨by simp, _, HT.out.both hne H1.out G1.out H2.out G2.out⟩

set_option maxRecDepth 100000 in
set_option maxHeartbeats 1000000 in
theorem reads_ref (r b : Nat) (hne : r ≠ b) (s : ByteArray) (hs : s.size ≤ 1000000) (st : St) (kd : Nat) (hk : kd % 10 = 6) (m : Int) (w0 w : World) (h : Two w0 w r b s st) :
    Calls Try.prog 21 #[.pointer (qb r), .pointer (qb b), .agg #[.int .u8 (kd : Int), .int .i64 m]] w fun e w' => e = .returned (.bool true) ∧ ∃ st', Two w0 w' r b s st' := by
  have hr1 : (kd : Int) % 10 = 6 := by omega
  have hr2 : (kd : Int).tmod 10 = 6 := by
    have : (kd : Int).tmod 10 = ((kd % 10 : Nat) : Int) := rfl
    rw [this, hk]; rfl
  have hb0 := (Below.refl w.heap.size w).alloc (Nat.le_refl _) (.cells #[.int .u8 (kd : Int), .int .i64 m] 41)
  have hT := h.below hb0
  have HT := Lib.hid hT
  have hc1 := ref_q (qb r) s st hs _ hT.rp
  have hc2 := fun W hW => rr_ref b s st hs W hW
  obtain ⟨R, hR⟩ : ∃ R, R = rdref s st := ⟨_, rfl⟩
  rw [← hR] at hc1
  simp only [← hR] at hc2
  obtain ⟨⟨x1, x2⟩, st1⟩ := R
  try dsimp only at hc1 hc2
  have Hc1 := Lib.hid hc1
  have Hc2 := Lib.hid hc2
  clear hc1 hc2 hR h hT hb0
  go_enter Try.func21, Try.ntmps21
  go_wp2_with fail
  refine Hc1.out.mono ?_
  rintro e w1 ⟨rfl, h1, g1⟩
  have H1 := Lib.hid h1
  have G1 := Lib.hid g1
  clear h1 g1
  go_wp2_with fail
  refine (Hc2.out w1 (HT.out.q hne G1.out)).mono ?_
  rintro e w2 ⟨rfl, h2, g2⟩
  have H2 := Lib.hid h2
  have G2 := Lib.hid g2
  clear h2 g2
  go_wp2_with fail
  go_ret
  exact ⟨by simp, _, HT.out.both hne H1.out G1.out H2.out G2.out⟩

set_option maxRecDepth 100000 in
set_option maxHeartbeats 1000000 in
theorem reads_exch (r b : Nat) (hne : r ≠ b) (s : ByteArray) (hs : s.size ≤ 1000000) (st : St) (kd : Nat) (hk : kd % 10 = 7) (m : Int) (w0 w : World) (h : Two w0 w r b s st) :
    Calls Try.prog 21 #[.pointer (qb r), .pointer (qb b), .agg #[.int .u8 (kd : Int), .int .i64 m]] w fun e w' => e = .returned (.bool true) ∧ ∃ st', Two w0 w' r b s st' := by
  have hr1 : (kd : Int) % 10 = 7 := by omega
  have hr2 : (kd : Int).tmod 10 = 7 := by
    have : (kd : Int).tmod 10 = ((kd % 10 : Nat) : Int) := rfl
    rw [this, hk]; rfl
  have hb0 := (Below.refl w.heap.size w).alloc (Nat.le_refl _) (.cells #[.int .u8 (kd : Int), .int .i64 m] 41)
  have hT := h.below hb0
  have HT := Lib.hid hT
  have hc1 := exch_q (qb r) s st hs _ hT.rp
  have hc2 := fun W hW => rr_exch b s st hs W hW
  obtain ⟨R, hR⟩ : ∃ R, R = rdexch s st := ⟨_, rfl⟩
  rw [← hR] at hc1
  simp only [← hR] at hc2
  obtain ⟨⟨x1, x2, x3, x4, x5⟩, st1⟩ := R
  try dsimp only at hc1 hc2
  have Hc1 := Lib.hid hc1
  have Hc2 := Lib.hid hc2
  clear hc1 hc2 hR h hT hb0
  go_enter Try.func21, Try.ntmps21
  go_wp2_with fail
  refine Hc1.out.mono ?_
  rintro e w1 ⟨rfl, h1, g1⟩
  have H1 := Lib.hid h1
  have G1 := Lib.hid g1
  clear h1 g1
  go_wp2_with fail
  refine (Hc2.out w1 (HT.out.q hne G1.out)).mono ?_
  rintro e w2 ⟨rfl, h2, g2⟩
  have H2 := Lib.hid h2
  have G2 := Lib.hid g2
  clear h2 g2
  go_wp2_with fail
  go_ret
  exact ⟨by simp, _, HT.out.both hne H1.out G1.out H2.out G2.out⟩

set_option maxRecDepth 100000 in
set_option maxHeartbeats 1000000 in
theorem reads_msg (r b : Nat) (hne : r ≠ b) (s : ByteArray) (hs : s.size ≤ 1000000) (st : St) (kd : Nat) (hk : kd % 10 = 8) (m : Int) (w0 w : World) (h : Two w0 w r b s st) :
    Calls Try.prog 21 #[.pointer (qb r), .pointer (qb b), .agg #[.int .u8 (kd : Int), .int .i64 m]] w fun e w' => e = .returned (.bool true) ∧ ∃ st', Two w0 w' r b s st' := by
  have hr1 : (kd : Int) % 10 = 8 := by omega
  have hr2 : (kd : Int).tmod 10 = 8 := by
    have : (kd : Int).tmod 10 = ((kd % 10 : Nat) : Int) := rfl
    rw [this, hk]; rfl
  have hb0 := (Below.refl w.heap.size w).alloc (Nat.le_refl _) (.cells #[.int .u8 (kd : Int), .int .i64 m] 41)
  have hT := h.below hb0
  have HT := Lib.hid hT
  have hc1 := msg_q (qb r) s st hs _ hT.rp
  have hc2 := fun W hW => rr_msg b s st hs W hW
  obtain ⟨R, hR⟩ : ∃ R, R = rdmsg s st := ⟨_, rfl⟩
  rw [← hR] at hc1
  simp only [← hR] at hc2
  obtain ⟨⟨x1, x2, x3, x4, x5, x6, x7, x8, x9, x10⟩, st1⟩ := R
  try dsimp only at hc1 hc2
  have Hc1 := Lib.hid hc1
  have Hc2 := Lib.hid hc2
  clear hc1 hc2 hR h hT hb0
  go_enter Try.func21, Try.ntmps21
  go_wp2_with fail
  refine Hc1.out.mono ?_
  rintro e w1 ⟨rfl, h1, g1⟩
  have H1 := Lib.hid h1
  have G1 := Lib.hid g1
  clear h1 g1
  go_wp2_with fail
  refine (Hc2.out w1 (HT.out.q hne G1.out)).mono ?_
  rintro e w2 ⟨rfl, h2, g2⟩
  have H2 := Lib.hid h2
  have G2 := Lib.hid g2
  clear h2 g2
  go_wp2_with fail
  go_ret
  exact ⟨by simp, _, HT.out.both hne H1.out G1.out H2.out G2.out⟩

set_option maxRecDepth 100000 in
set_option maxHeartbeats 4000000 in
theorem reads_text (r b : Nat) (hne : r ≠ b) (s : ByteArray) (hs : s.size ≤ 1000000) (st : St) (kd : Nat) (hk : kd % 10 = 2) (m : Int) (w0 w : World) (h : Two w0 w r b s st) :
    Calls Try.prog 21 #[.pointer (qb r), .pointer (qb b), .agg #[.int .u8 (kd : Int), .int .i64 m]] w fun e w' => e = .returned (.bool true) ∧ ∃ st', Two w0 w' r b s st' := by
  have hr1 : (kd : Int) % 10 = 2 := by omega
  have hb0 := (Below.refl w.heap.size w).alloc (Nat.le_refl _) (.cells #[.int .u8 (kd : Int), .int .i64 m] 41)
  have hT := (h.below hb0).below (Below.drew (Below.refl _ _))
  have HT := Lib.hid hT
  have hlr : r < w.heap.size := h.rp.lt _ rfl
  have hlb := h.rr.lt
  have hc1 := text_q (qb r) s st hs m _ hT.rp
  have hc2 := fun W hW => rr_text b s st hs m W hW
  obtain ⟨R, hR⟩ : ∃ R, R = rdG ByteArray.empty (scanT m) s st := ⟨_, rfl⟩
  rw [← hR] at hc1
  simp only [← hR] at hc2
  obtain ⟨x, st1⟩ := R
  try dsimp only at hc1 hc2
  have Hc1 := Lib.hid hc1
  have Hc2 := Lib.hid hc2
  have HK : Hid ((w.alloc (.cells #[.int .u8 (kd : Int), .int .i64 m] 41)).drew.heap[w.heap.size]? = some (.cells #[.int .u8 (kd : Int), .int .i64 m] 41 (0, 0))) := Lib.hid (Deep.blk_alloc_new w _)
  clear hc1 hc2 hR h hT hb0
  go_enter Try.func21, Try.ntmps21
  go_wp2_with fail
  go_region_law ((first
    | (go_simp; go_at_call 42; refine Hc1.out.mono ?_; rintro e w1 ⟨rfl, h1, g1⟩; have H1 := Lib.hid h1; have G1 := Lib.hid g1; have hk1 := gq_keep g1 HK.out (show w.heap.size ≠ r by omega); have d1 := cell_of_row w1 w.heap.size 1 _ _ _ hk1; have HK1 := Lib.hid hk1; clear h1 g1 hk1)
    | (go_simp; go_at_call 58; refine (Hc2.out _ (HT.out.q hne G1.out)).mono ?_; rintro e w2 ⟨rfl, h2, g2⟩; have H2 := Lib.hid h2; have G2 := Lib.hid g2; clear h2 g2)))
  all_goals
    go_wp2_with fail
    go_ret
    exact ⟨rfl, _, HT.out.both hne H1.out G1.out H2.out G2.out⟩

set_option maxRecDepth 100000 in
set_option maxHeartbeats 4000000 in
theorem reads_count (r b : Nat) (hne : r ≠ b) (s : ByteArray) (hs : s.size ≤ 1000000) (st : St) (kd : Nat) (hk : kd % 10 = 3) (m : Int) (w0 w : World) (h : Two w0 w r b s st) :
    Calls Try.prog 21 #[.pointer (qb r), .pointer (qb b), .agg #[.int .u8 (kd : Int), .int .i64 m]] w fun e w' => e = .returned (.bool true) ∧ ∃ st', Two w0 w' r b s st' := by
  have hr1 : (kd : Int) % 10 = 3 := by omega
  have hb0 := (Below.refl w.heap.size w).alloc (Nat.le_refl _) (.cells #[.int .u8 (kd : Int), .int .i64 m] 41)
  have hT := (h.below hb0).below (Below.drew (Below.refl _ _))
  have HT := Lib.hid hT
  have hlr : r < w.heap.size := h.rp.lt _ rfl
  have hlb := h.rr.lt
  have hc1 := count_q (qb r) s st hs m _ hT.rp
  have hc2 := fun W hW => rr_count b s st hs m W hW
  obtain ⟨R, hR⟩ : ∃ R, R = rdG 0 (scanZ m 6) s st := ⟨_, rfl⟩
  rw [← hR] at hc1
  simp only [← hR] at hc2
  obtain ⟨x, st1⟩ := R
  try dsimp only at hc1 hc2
  have Hc1 := Lib.hid hc1
  have Hc2 := Lib.hid hc2
  have HK : Hid ((w.alloc (.cells #[.int .u8 (kd : Int), .int .i64 m] 41)).drew.heap[w.heap.size]? = some (.cells #[.int .u8 (kd : Int), .int .i64 m] 41 (0, 0))) := Lib.hid (Deep.blk_alloc_new w _)
  clear hc1 hc2 hR h hT hb0
  go_enter Try.func21, Try.ntmps21
  go_wp2_with fail
  go_region_law ((first
    | (go_simp; go_at_call 43; refine Hc1.out.mono ?_; rintro e w1 ⟨rfl, h1, g1⟩; have H1 := Lib.hid h1; have G1 := Lib.hid g1; have hk1 := gq_keep g1 HK.out (show w.heap.size ≠ r by omega); have d1 := cell_of_row w1 w.heap.size 1 _ _ _ hk1; have HK1 := Lib.hid hk1; clear h1 g1 hk1)
    | (go_simp; go_at_call 59; refine (Hc2.out _ (HT.out.q hne G1.out)).mono ?_; rintro e w2 ⟨rfl, h2, g2⟩; have H2 := Lib.hid h2; have G2 := Lib.hid g2; clear h2 g2)))
  all_goals
    go_wp2_with fail
    go_ret
    exact ⟨rfl, _, HT.out.both hne H1.out G1.out H2.out G2.out⟩

theorem rdspan_err {s : ByteArray} {st : St} (h : (rdspan s st).2.2 ≠ 0) : (rdspan s st).1 = spZ := by
  unfold rdspan at h ⊢
  dsimp only at h ⊢
  rw [if_neg h]
theorem rdspan_fit {s : ByteArray} (hs : s.size ≤ 100000) (st : St) : (rdspan s st).1.Ok := by
  by_cases h : (rdspan s st).2.2 = 0
  · obtain ⟨_, h2, _, h4⟩ := snd_span s st h
    exact (Sp.fit_of h4 (Nat.le_trans h2.le hs)).1
  · rw [rdspan_err h]; exact spZ_ok
set_option maxRecDepth 100000 in
set_option maxHeartbeats 4000000 in
theorem reads_span (r b : Nat) (hne : r ≠ b) (s : ByteArray) (hs : s.size ≤ 100000) (st : St) (kd : Nat) (hk : kd % 10 = 9) (m : Int) (w0 w : World) (h : Two w0 w r b s st) :
    Calls Try.prog 21 #[.pointer (qb r), .pointer (qb b), .agg #[.int .u8 (kd : Int), .int .i64 m]] w fun e w' => e = .returned (.bool true) ∧ ∃ st', Two w0 w' r b s st' := by
  have hr1 : (kd : Int) % 10 = 9 := by omega
  have hb0 := (Below.refl w.heap.size w).alloc (Nat.le_refl _) (.cells #[.int .u8 (kd : Int), .int .i64 m] 41)
  have hT := h.below hb0
  have HT := Lib.hid hT
  have hc1 := span_q (qb r) s st (by omega) _ hT.rp
  have hc2 := fun W hW => rr_span b s st (by omega) W hW
  have hrf := fun va vl W hH => ref_span (rdspan s st).1 (rdspan_fit hs st) va vl W hH
  obtain ⟨R, hR⟩ : ∃ R, R = rdspan s st := ⟨_, rfl⟩
  rw [← hR] at hc1
  simp only [← hR] at hc2 hrf
  obtain ⟨x, st1⟩ := R
  obtain ⟨X, hX⟩ : ∃ X, X = bytesOf x.form := ⟨_, rfl⟩
  dsimp only at hc1 hc2 hrf
  simp only [← hX] at hrf
  obtain ⟨t, i, p, r1, c, k, sv, ve, op, stt, en, er, al, ls⟩ := x
  unfold Sp.cells at hc1 hc2 hrf
  dsimp only at hc1 hc2 hrf
  have Hc1 := Lib.hid hc1
  have Hc2 := Lib.hid hc2
  have Hrf := Lib.hid hrf
  clear hc1 hc2 hrf hX hR h hT hb0
  go_enter Try.func21, Try.ntmps21
  go_wp2_with fail
  refine Hc1.out.mono ?_
  rintro e w1 ⟨⟨va, vl, rfl, hq⟩, h1, g1⟩
  have HQ := Lib.hid hq.has
  obtain ⟨A1, c1, A2, c2, rfl, rfl, _, _⟩ := hq
  dsimp only at HQ ⊢
  have H1 := Lib.hid h1
  have G1 := Lib.hid g1
  clear h1 g1
  go_wp2_with fail
  refine (Hrf.out _ _ w1 HQ.out).mono ?_
  rintro e w2 ⟨rfl, hb⟩
  have H1' := Lib.hid (H1.out.below hb)
  have G1' := Lib.hid (Gq.trans G1.out (Gq.of_below hb (qb r)))
  clear hb
  go_wp2_with fail
  refine (Hc2.out w2 (HT.out.q hne G1'.out)).mono ?_
  rintro e w3 ⟨⟨va, vl, rfl, hq⟩, h2, g2⟩
  have HQ2 := Lib.hid hq
  obtain ⟨A3, c3, A4, c4, rfl, rfl, _, _⟩ := hq
  dsimp only at HQ2 ⊢
  have HT3 := Lib.hid (HT.out.both hne H1'.out G1'.out h2 g2)
  clear h2 g2
  go_wp2_with fail
  refine (Hrf.out _ _ w3 HQ2.out).mono ?_
  rintro e w4 ⟨rfl, hb⟩
  have HT4 := Lib.hid (HT3.out.below hb)
  clear hb
  go_wp2_with fail
  go_ret
  exact ⟨by simp, _, HT4.out⟩
/-- Whatever the call is. -/
theorem reads_any (r b : Nat) (hne : r ≠ b) (s : ByteArray) (hs : s.size ≤ 100000) (st : St) (kd : Nat) (m : Int) (w0 w : World) (h : Two w0 w r b s st) :
    Calls Try.prog 21 #[.pointer (qb r), .pointer (qb b), .agg #[.int .u8 (kd : Int), .int .i64 m]] w fun e w' => e = .returned (.bool true) ∧ ∃ st', Two w0 w' r b s st' := by
  have hs' : s.size ≤ 1000000 := by omega
  have hm : kd % 10 = 0 ∨ kd % 10 = 1 ∨ kd % 10 = 2 ∨ kd % 10 = 3 ∨ kd % 10 = 4 ∨ kd % 10 = 5 ∨ kd % 10 = 6 ∨ kd % 10 = 7 ∨ kd % 10 = 8 ∨ kd % 10 = 9 := by omega
  rcases hm with e | e | e | e | e | e | e | e | e | e
  · exact reads_number r b hne s hs' st kd e m w0 w h
  · exact reads_bool r b hne s hs' st kd e m w0 w h
  · exact reads_text r b hne s hs' st kd e m w0 w h
  · exact reads_count r b hne s hs' st kd e m w0 w h
  · exact reads_value r b hne s hs' st kd e m w0 w h
  · exact reads_attr r b hne s hs' st kd e m w0 w h
  · exact reads_ref r b hne s hs' st kd e m w0 w h
  · exact reads_exch r b hne s hs' st kd e m w0 w h
  · exact reads_msg r b hne s hs' st kd e m w0 w h
  · exact reads_span r b hne s hs st kd e m w0 w h

end Go.Proofs.Ytepcihfkkeahhaa
