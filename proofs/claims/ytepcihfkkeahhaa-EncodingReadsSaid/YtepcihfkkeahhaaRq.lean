/- Reading parts, at a Reader or at nil: Err, readPart, Number, Bool, Text, Count (written by wip/bin/gen_rq.py). -/
import Derived.Test.YtepcihfkkeahhaaWm
import Derived.Lib.QuietBelow
namespace Go.Proofs.Ytepcihfkkeahhaa
open Go.ChangeShapes Go.WideShapes Go.ChangeAt Go.RowKit En

/-- Where a Reader is, and its error. -/
abbrev St := Nat × Int
/-- The Reader behind a pointer, which can be nil. -/
def RP (w : World) (q : Option Addr) (s : ByteArray) (st : St) : Prop :=
  (q = none ∧ s = ByteArray.empty ∧ st = (0, 1)) ∨ ∃ r, q = some ⟨r, 0, none⟩ ∧ RS w r s st.1 st.2
theorem RP.below {w w' : World} {q : Option Addr} {s : ByteArray} {st : St} (h : RP w q s st) (hb : Below w.heap.size w w') : RP w' q s st := by
  rcases h with h | ⟨r, e, h⟩
  · exact Or.inl h
  · exact Or.inr ⟨r, e, h.below hb⟩
def Gq (w w' : World) (q : Option Addr) : Prop := w.grownBy w' (q.map Addr.block)
theorem Gq.trans {a b c : World} {q : Option Addr} (h : Gq a b q) (k : Gq b c q) : Gq a c q := grown_trans h k
theorem Gq.of_below {a b : World} (h : Below a.heap.size a b) (q : Option Addr) : Gq a b q := grown_below h _
theorem Gq.refl (a : World) (q : Option Addr) : Gq a a q := grown_same _ _
/-- Reading with a scanner. -/
def rdG {α : Type} (z : α) (f : List UInt8 → α × Int × Int) (s : ByteArray) (st : St) : α × St :=
  if st.2 = 0 then (if (f (s.data.toList.drop st.1)).2.2 = 0 then ((f (s.data.toList.drop st.1)).1, (st.1 + (f (s.data.toList.drop st.1)).2.1.toNat, 0)) else (z, (st.1, (f (s.data.toList.drop st.1)).2.2))) else (z, st)
def Sized {α : Type} (f : List UInt8 → α × Int × Int) : Prop := ∀ l, (f l).2.2 = 0 → ∃ k : Nat, (f l).2.1 = (k : Int) ∧ k ≤ l.length
theorem scan_sized : Sized scan := fun l h => by
  obtain ⟨k, h1, _, h2⟩ := scan_size l h
  exact ⟨k, h1, h2⟩
theorem put_below {w wg : World} (h : Below w.heap.size w wg) (g o : Nat) (v : Value) : w.grownBy (wg.setCell ⟨g, o, none⟩ v) (some g) :=
  ⟨h.os, h.tape, h.output, by have := h.size; simp [World.setCell]; omega, fun i hi hne => by
    rw [Deep.blk_setCell_other _ _ _ _ (fun e => hne (by rw [e]))]; exact h.block i hi⟩
theorem err_q (q : Option Addr) (s : ByteArray) (st : St) (w : World) (h : RP w q s st) :
    Calls Try.prog 22 #[.pointer q] w fun e w' => e = .returned (.int .i64 st.2) ∧ w = w' := by
  rcases h with ⟨rfl, rfl, rfl⟩ | ⟨r, rfl, h⟩
  · go_enter Try.func22, Try.ntmps22
    go_wp2_with fail
    go_ret
    exact ⟨rfl, rfl⟩
  · exact (r_err r s st.1 st.2 w h).mono fun _ _ ⟨a, b⟩ => ⟨a, b.symm⟩
theorem left_q (q : Option Addr) (s : ByteArray) (st : St) (hs : s.size ≤ 1000000) (w : World) (h : RP w q s st) :
    Calls Try.prog 20 #[.pointer q] w fun e w' => e = .returned (.int .i64 (((s.size - st.1 : Nat) : Int))) ∧ Below w.heap.size w w' := by
  rcases h with ⟨rfl, rfl, rfl⟩ | ⟨r, rfl, h⟩
  · go_enter Try.func20, Try.ntmps20
    go_wp2_with fail
    go_ret
    exact ⟨rfl, Below.refl _ _⟩
  · exact (r_left r s st.1 st.2 hs w h).mono fun _ _ ⟨a, b⟩ => ⟨a, by rw [b]; exact Below.drew (Below.refl _ _)⟩
def endE (s : ByteArray) (st : St) : Int := if st.2 = 0 then (if st.1 < s.size then 3 else 0) else st.2
theorem end_q (q : Option Addr) (s : ByteArray) (st : St) (hs : s.size ≤ 1000000) (w : World) (h : RP w q s st) :
    Calls Try.prog 19 #[.pointer q] w fun e w' => e = .returned (.int .i64 (endE s st)) ∧ Below w.heap.size w w' := by
  obtain ⟨pp, er⟩ := st
  have HR := Lib.hid h
  have hle := left_q q s (pp, er) hs w h
  clear h
  by_cases h0 : er = 0
  · subst h0
    by_cases hl : pp < s.size
    · have e : endE s (pp, 0) = 3 := by unfold endE; rw [if_pos rfl, if_pos hl]
      rw [e]
      obtain ⟨n, hn⟩ : ∃ n, n = s.size - pp := ⟨_, rfl⟩
      have hn0 : 0 < n := by omega
      rw [show s.size - (pp, (0 : Int)).1 = n from hn.symm] at hle
      clear hn e hl
      go_enter Try.func19, Try.ntmps19
      go_wp2_with fail
      refine (err_q q s (pp, 0) w HR.out).mono ?_
      rintro e w1 ⟨rfl, rfl⟩
      go_wp2_with fail
      refine hle.mono ?_
      rintro e w1 ⟨rfl, hb⟩
      have HB := Lib.hid hb
      clear hb
      go_wp2_with fail
      go_ret
      exact ⟨rfl, HB.out⟩
    · have e : endE s (pp, 0) = 0 := by unfold endE; rw [if_pos rfl, if_neg hl]
      rw [e]
      rw [show s.size - (pp, (0 : Int)).1 = 0 by show s.size - pp = 0; omega] at hle
      clear e hl
      go_enter Try.func19, Try.ntmps19
      go_wp2_with fail
      refine (err_q q s (pp, 0) w HR.out).mono ?_
      rintro e w1 ⟨rfl, rfl⟩
      go_wp2_with fail
      refine hle.mono ?_
      rintro e w1 ⟨rfl, hb⟩
      have HB := Lib.hid hb
      clear hb
      go_wp2_with fail
      go_ret
      exact ⟨rfl, HB.out⟩
  · have e : endE s (pp, er) = er := by unfold endE; rw [if_neg h0]
    rw [e]
    clear e hle
    go_enter Try.func19, Try.ntmps19
    go_wp2_with fail
    refine (err_q q s (pp, er) w HR.out).mono ?_
    rintro e w1 ⟨rfl, rfl⟩
    go_wp2_with fail
    go_ret
    exact ⟨rfl, Below.refl _ _⟩

set_option maxRecDepth 100000 in
set_option maxHeartbeats 1000000 in
theorem part_int (q : Option Addr) (s : ByteArray) (st : St) (hs : s.size ≤ 1000000) (f : List UInt8 → Int × Int × Int) (hf : Sized f) (w : World) (h : RP w q s st)
    (hsc : ∀ (p : Nat) (W : World), p ≤ s.size → Below w.heap.size w W → Calls Try.prog 55 #[.string (s.extract p s.size)] W fun e W' => e = .returned (.tuple #[.int .i64 (f (s.data.toList.drop p)).1, .int .i64 (f (s.data.toList.drop p)).2.1, .int .i64 (f (s.data.toList.drop p)).2.2]) ∧ Below W.heap.size W W') :
    Calls Try.prog 54 #[.pointer q, .func (.func 55) #[] #[]] w fun e w' => e = .returned (.int .i64 (rdG 0 f s st).1) ∧ RP w' q s (rdG 0 f s st).2 ∧ Gq w w' q := by
  obtain ⟨p, err⟩ := st
  have HR := Lib.hid h
  by_cases he : err = 0
  · subst he
    rcases h with ⟨_, _, h1⟩ | ⟨r, rfl, h⟩
    · simp at h1
    · dsimp only at h
      have hp := h.2
      obtain ⟨x, hx⟩ : ∃ x, x = f (s.data.toList.drop p) := ⟨_, rfl⟩
      have e0 : rdG 0 f s (p, 0) = if x.2.2 = 0 then (x.1, (p + x.2.1.toNat, 0)) else (0, (p, x.2.2)) := by rw [hx]; rfl
      have Hx := Lib.hid (hf (s.data.toList.drop p))
      rw [← hx] at Hx
      have hsc' := fun W => hsc p W hp
      rw [← hx] at hsc'
      have hr := h.lt
      have c0 := cell_of_row w r 0 _ _ _ h.1
      have c1 := cell_of_row w r 1 _ _ _ h.1
      have H := Lib.hid h
      have Hsc := Lib.hid hsc'
      rw [e0]
      clear h e0 hx hsc hsc'
      have cG0 : Hid (∀ d os, (Go.Sort.grow (redrawn w d) os).cell? ⟨r, 0, none⟩ = some (.string s)) := Lib.hid (fun d os => cell_regrown c0 d os)
      have cG1 : ∀ d os, (Go.Sort.grow (redrawn w d) os).cell? ⟨r, 1, none⟩ = some (.int .i64 (p : Int)) := fun d os => cell_regrown c1 d os
      have cG0' := cG0.out
      by_cases hx0 : x.2.2 = 0
      · rw [if_pos hx0]
        obtain ⟨k, hk, hk2⟩ := Hx.out hx0
        rw [List.length_drop] at hk2
        have hk3 : p + k ≤ s.size := by simp at hk2; omega
        have hkw : IntKind.i64.wrap ((p : Int) + (k : Int)) = (p : Int) + (k : Int) := by simp only [IntKind.wrap_i64]; omega
        have CL : Hid (∀ d os, Calls Try.prog 55 #[.string (s.extract p s.size)] (Go.Sort.grow (redrawn w d) os) fun e w'' => e = .returned (.tuple #[.int .i64 x.1, .int .i64 (k : Int), .int .i64 0]) ∧ ∃ p : Regrown, w'' = Go.Sort.grow (redrawn w p.d) p.os) := Lib.hid (fun d os => Calls.regrown_of (by
          have := Hsc.out _ (below_regrown w d os)
          rw [hk, hx0] at this
          exact this))
        simp only [hk, Int.toNat_natCast]
        clear Hx Hsc hk hx0
        go_enter Try.func54, Try.ntmps54
        go_wp2_with fail
        refine (err_q _ s (p, 0) w HR.out).mono ?_
        rintro e w1 ⟨rfl, rfl⟩
        go_wp2_with fail
        refine wp_region_quiet_below (by kernel_rfl) (by kernel_rfl) ?_
        repeat (go_big_quiet_step ((exact CL.out _ _)))
        refine wpQuiet_nil ?_
        intro _ hw'
        obtain ⟨⟨dq, osq⟩, hw''⟩ := hw'
        subst hw''
        have HB := Lib.hid (below_regrown w dq osq)
        have b1 := (HB.out.block r hr).trans H.out.1
        have d1 := cell_of_row _ r 1 _ _ _ b1
        have f1 := frozen_of_row _ r 1 _ _ b1
        have Hb1 := Lib.hid b1
        clear cG0' cG1 b1 c0 c1
        generalize Go.Sort.grow (redrawn w dq) osq = wg at *
        go_wp2_with fail
        go_ret
        refine ⟨rfl, Or.inr ⟨r, rfl, ?_, hk3⟩, put_below HB.out _ _ _⟩
        have := blk_set (w := wg) (off := 1) (.int .i64 ((p : Int) + (k : Int))) Hb1.out
        rw [this]
        rfl
      · rw [if_neg hx0]
        have CL : Hid (∀ d os, Calls Try.prog 55 #[.string (s.extract p s.size)] (Go.Sort.grow (redrawn w d) os) fun e w'' => e = .returned (.tuple #[.int .i64 x.1, .int .i64 x.2.1, .int .i64 x.2.2]) ∧ ∃ p : Regrown, w'' = Go.Sort.grow (redrawn w p.d) p.os) := Lib.hid (fun d os => Calls.regrown_of (Hsc.out _ (below_regrown w d os)))
        clear Hx Hsc
        go_enter Try.func54, Try.ntmps54
        go_wp2_with fail
        refine (err_q _ s (p, 0) w HR.out).mono ?_
        rintro e w1 ⟨rfl, rfl⟩
        go_wp2_with fail
        refine wp_region_quiet_below (by kernel_rfl) (by kernel_rfl) ?_
        repeat (go_big_quiet_step ((exact CL.out _ _)))
        refine wpQuiet_nil ?_
        intro _ hw'
        obtain ⟨⟨dq, osq⟩, hw''⟩ := hw'
        subst hw''
        have HB := Lib.hid (below_regrown w dq osq)
        have b1 := (HB.out.block r hr).trans H.out.1
        have f2 := frozen_of_row _ r 2 _ _ b1
        have d2 := cell_of_row _ r 2 _ _ _ b1
        have Hb1 := Lib.hid b1
        clear cG0' cG1 b1 c0 c1
        generalize Go.Sort.grow (redrawn w dq) osq = wg at *
        go_wp2_with fail
        go_ret
        refine ⟨rfl, Or.inr ⟨r, rfl, ?_, hp⟩, put_below HB.out _ _ _⟩
        have := blk_set (w := wg) (off := 2) (.int .i64 x.2.2) Hb1.out
        rw [this]
        rfl
  · have e0 : rdG 0 f s (p, err) = (0, (p, err)) := by unfold rdG; rw [if_neg he]
    rw [e0]
    clear h e0 hsc
    go_enter Try.func54, Try.ntmps54
    go_wp2_with fail
    refine (err_q q s (p, err) w HR.out).mono ?_
    rintro e w1 ⟨rfl, rfl⟩
    go_wp2_with fail
    go_ret
    exact ⟨rfl, HR.out, Gq.refl _ _⟩

set_option maxRecDepth 100000 in
set_option maxHeartbeats 1000000 in
theorem part_bool (q : Option Addr) (s : ByteArray) (st : St) (hs : s.size ≤ 1000000) (f : List UInt8 → Bool × Int × Int) (hf : Sized f) (w : World) (h : RP w q s st)
    (hsc : ∀ (p : Nat) (W : World), p ≤ s.size → Below w.heap.size w W → Calls Try.prog 92 #[.string (s.extract p s.size)] W fun e W' => e = .returned (.tuple #[.bool (f (s.data.toList.drop p)).1, .int .i64 (f (s.data.toList.drop p)).2.1, .int .i64 (f (s.data.toList.drop p)).2.2]) ∧ Below W.heap.size W W') :
    Calls Try.prog 91 #[.pointer q, .func (.func 92) #[] #[]] w fun e w' => e = .returned (.bool (rdG false f s st).1) ∧ RP w' q s (rdG false f s st).2 ∧ Gq w w' q := by
  obtain ⟨p, err⟩ := st
  have HR := Lib.hid h
  by_cases he : err = 0
  · subst he
    rcases h with ⟨_, _, h1⟩ | ⟨r, rfl, h⟩
    · simp at h1
    · dsimp only at h
      have hp := h.2
      obtain ⟨x, hx⟩ : ∃ x, x = f (s.data.toList.drop p) := ⟨_, rfl⟩
      have e0 : rdG false f s (p, 0) = if x.2.2 = 0 then (x.1, (p + x.2.1.toNat, 0)) else (false, (p, x.2.2)) := by rw [hx]; rfl
      have Hx := Lib.hid (hf (s.data.toList.drop p))
      rw [← hx] at Hx
      have hsc' := fun W => hsc p W hp
      rw [← hx] at hsc'
      have hr := h.lt
      have c0 := cell_of_row w r 0 _ _ _ h.1
      have c1 := cell_of_row w r 1 _ _ _ h.1
      have H := Lib.hid h
      have Hsc := Lib.hid hsc'
      rw [e0]
      clear h e0 hx hsc hsc'
      have cG0 : Hid (∀ d os, (Go.Sort.grow (redrawn w d) os).cell? ⟨r, 0, none⟩ = some (.string s)) := Lib.hid (fun d os => cell_regrown c0 d os)
      have cG1 : ∀ d os, (Go.Sort.grow (redrawn w d) os).cell? ⟨r, 1, none⟩ = some (.int .i64 (p : Int)) := fun d os => cell_regrown c1 d os
      have cG0' := cG0.out
      by_cases hx0 : x.2.2 = 0
      · rw [if_pos hx0]
        obtain ⟨k, hk, hk2⟩ := Hx.out hx0
        rw [List.length_drop] at hk2
        have hk3 : p + k ≤ s.size := by simp at hk2; omega
        have hkw : IntKind.i64.wrap ((p : Int) + (k : Int)) = (p : Int) + (k : Int) := by simp only [IntKind.wrap_i64]; omega
        have CL : Hid (∀ d os, Calls Try.prog 92 #[.string (s.extract p s.size)] (Go.Sort.grow (redrawn w d) os) fun e w'' => e = .returned (.tuple #[.bool x.1, .int .i64 (k : Int), .int .i64 0]) ∧ ∃ p : Regrown, w'' = Go.Sort.grow (redrawn w p.d) p.os) := Lib.hid (fun d os => Calls.regrown_of (by
          have := Hsc.out _ (below_regrown w d os)
          rw [hk, hx0] at this
          exact this))
        simp only [hk, Int.toNat_natCast]
        clear Hx Hsc hk hx0
        go_enter Try.func91, Try.ntmps91
        go_wp2_with fail
        refine (err_q _ s (p, 0) w HR.out).mono ?_
        rintro e w1 ⟨rfl, rfl⟩
        go_wp2_with fail
        refine wp_region_quiet_below (by kernel_rfl) (by kernel_rfl) ?_
        repeat (go_big_quiet_step ((exact CL.out _ _)))
        refine wpQuiet_nil ?_
        intro _ hw'
        obtain ⟨⟨dq, osq⟩, hw''⟩ := hw'
        subst hw''
        have HB := Lib.hid (below_regrown w dq osq)
        have b1 := (HB.out.block r hr).trans H.out.1
        have d1 := cell_of_row _ r 1 _ _ _ b1
        have f1 := frozen_of_row _ r 1 _ _ b1
        have Hb1 := Lib.hid b1
        clear cG0' cG1 b1 c0 c1
        generalize Go.Sort.grow (redrawn w dq) osq = wg at *
        go_wp2_with fail
        go_ret
        refine ⟨rfl, Or.inr ⟨r, rfl, ?_, hk3⟩, put_below HB.out _ _ _⟩
        have := blk_set (w := wg) (off := 1) (.int .i64 ((p : Int) + (k : Int))) Hb1.out
        rw [this]
        rfl
      · rw [if_neg hx0]
        have CL : Hid (∀ d os, Calls Try.prog 92 #[.string (s.extract p s.size)] (Go.Sort.grow (redrawn w d) os) fun e w'' => e = .returned (.tuple #[.bool x.1, .int .i64 x.2.1, .int .i64 x.2.2]) ∧ ∃ p : Regrown, w'' = Go.Sort.grow (redrawn w p.d) p.os) := Lib.hid (fun d os => Calls.regrown_of (Hsc.out _ (below_regrown w d os)))
        clear Hx Hsc
        go_enter Try.func91, Try.ntmps91
        go_wp2_with fail
        refine (err_q _ s (p, 0) w HR.out).mono ?_
        rintro e w1 ⟨rfl, rfl⟩
        go_wp2_with fail
        refine wp_region_quiet_below (by kernel_rfl) (by kernel_rfl) ?_
        repeat (go_big_quiet_step ((exact CL.out _ _)))
        refine wpQuiet_nil ?_
        intro _ hw'
        obtain ⟨⟨dq, osq⟩, hw''⟩ := hw'
        subst hw''
        have HB := Lib.hid (below_regrown w dq osq)
        have b1 := (HB.out.block r hr).trans H.out.1
        have f2 := frozen_of_row _ r 2 _ _ b1
        have d2 := cell_of_row _ r 2 _ _ _ b1
        have Hb1 := Lib.hid b1
        clear cG0' cG1 b1 c0 c1
        generalize Go.Sort.grow (redrawn w dq) osq = wg at *
        go_wp2_with fail
        go_ret
        refine ⟨rfl, Or.inr ⟨r, rfl, ?_, hp⟩, put_below HB.out _ _ _⟩
        have := blk_set (w := wg) (off := 2) (.int .i64 x.2.2) Hb1.out
        rw [this]
        rfl
  · have e0 : rdG false f s (p, err) = (false, (p, err)) := by unfold rdG; rw [if_neg he]
    rw [e0]
    clear h e0 hsc
    go_enter Try.func91, Try.ntmps91
    go_wp2_with fail
    refine (err_q q s (p, err) w HR.out).mono ?_
    rintro e w1 ⟨rfl, rfl⟩
    go_wp2_with fail
    go_ret
    exact ⟨rfl, HR.out, Gq.refl _ _⟩

set_option maxRecDepth 100000 in
set_option maxHeartbeats 1000000 in
theorem part_str (q : Option Addr) (s : ByteArray) (st : St) (hs : s.size ≤ 1000000) (f : List UInt8 → ByteArray × Int × Int) (hf : Sized f) (cp : Addr) (w : World) (h : RP w q s st)
    (hsc : ∀ (p : Nat) (W : World), p ≤ s.size → Below w.heap.size w W → Calls Try.prog 94 #[.string (s.extract p s.size), .pointer (some cp)] W fun e W' => e = .returned (.tuple #[.string (f (s.data.toList.drop p)).1, .int .i64 (f (s.data.toList.drop p)).2.1, .int .i64 (f (s.data.toList.drop p)).2.2]) ∧ Below W.heap.size W W') :
    Calls Try.prog 93 #[.pointer q, .func (.func 94) #[] #[.pointer (some cp)]] w fun e w' => e = .returned (.string (rdG ByteArray.empty f s st).1) ∧ RP w' q s (rdG ByteArray.empty f s st).2 ∧ Gq w w' q := by
  obtain ⟨p, err⟩ := st
  have HR := Lib.hid h
  by_cases he : err = 0
  · subst he
    rcases h with ⟨_, _, h1⟩ | ⟨r, rfl, h⟩
    · simp at h1
    · dsimp only at h
      have hp := h.2
      obtain ⟨x, hx⟩ : ∃ x, x = f (s.data.toList.drop p) := ⟨_, rfl⟩
      have e0 : rdG ByteArray.empty f s (p, 0) = if x.2.2 = 0 then (x.1, (p + x.2.1.toNat, 0)) else (ByteArray.empty, (p, x.2.2)) := by rw [hx]; rfl
      have Hx := Lib.hid (hf (s.data.toList.drop p))
      rw [← hx] at Hx
      have hsc' := fun W => hsc p W hp
      rw [← hx] at hsc'
      have hr := h.lt
      have c0 := cell_of_row w r 0 _ _ _ h.1
      have c1 := cell_of_row w r 1 _ _ _ h.1
      have H := Lib.hid h
      have Hsc := Lib.hid hsc'
      rw [e0]
      clear h e0 hx hsc hsc'
      have cG0 : Hid (∀ d os, (Go.Sort.grow (redrawn w d) os).cell? ⟨r, 0, none⟩ = some (.string s)) := Lib.hid (fun d os => cell_regrown c0 d os)
      have cG1 : ∀ d os, (Go.Sort.grow (redrawn w d) os).cell? ⟨r, 1, none⟩ = some (.int .i64 (p : Int)) := fun d os => cell_regrown c1 d os
      have cG0' := cG0.out
      by_cases hx0 : x.2.2 = 0
      · rw [if_pos hx0]
        obtain ⟨k, hk, hk2⟩ := Hx.out hx0
        rw [List.length_drop] at hk2
        have hk3 : p + k ≤ s.size := by simp at hk2; omega
        have hkw : IntKind.i64.wrap ((p : Int) + (k : Int)) = (p : Int) + (k : Int) := by simp only [IntKind.wrap_i64]; omega
        have CL : Hid (∀ d os, Calls Try.prog 94 #[.string (s.extract p s.size), .pointer (some cp)] (Go.Sort.grow (redrawn w d) os) fun e w'' => e = .returned (.tuple #[.string x.1, .int .i64 (k : Int), .int .i64 0]) ∧ ∃ p : Regrown, w'' = Go.Sort.grow (redrawn w p.d) p.os) := Lib.hid (fun d os => Calls.regrown_of (by
          have := Hsc.out _ (below_regrown w d os)
          rw [hk, hx0] at this
          exact this))
        simp only [hk, Int.toNat_natCast]
        clear Hx Hsc hk hx0
        go_enter Try.func93, Try.ntmps93
        go_wp2_with fail
        refine (err_q _ s (p, 0) w HR.out).mono ?_
        rintro e w1 ⟨rfl, rfl⟩
        go_wp2_with fail
        refine wp_region_quiet_below (by kernel_rfl) (by kernel_rfl) ?_
        repeat (go_big_quiet_step ((exact CL.out _ _)))
        refine wpQuiet_nil ?_
        intro _ hw'
        obtain ⟨⟨dq, osq⟩, hw''⟩ := hw'
        subst hw''
        have HB := Lib.hid (below_regrown w dq osq)
        have b1 := (HB.out.block r hr).trans H.out.1
        have d1 := cell_of_row _ r 1 _ _ _ b1
        have f1 := frozen_of_row _ r 1 _ _ b1
        have Hb1 := Lib.hid b1
        clear cG0' cG1 b1 c0 c1
        generalize Go.Sort.grow (redrawn w dq) osq = wg at *
        go_wp2_with fail
        go_ret
        refine ⟨rfl, Or.inr ⟨r, rfl, ?_, hk3⟩, put_below HB.out _ _ _⟩
        have := blk_set (w := wg) (off := 1) (.int .i64 ((p : Int) + (k : Int))) Hb1.out
        rw [this]
        rfl
      · rw [if_neg hx0]
        have CL : Hid (∀ d os, Calls Try.prog 94 #[.string (s.extract p s.size), .pointer (some cp)] (Go.Sort.grow (redrawn w d) os) fun e w'' => e = .returned (.tuple #[.string x.1, .int .i64 x.2.1, .int .i64 x.2.2]) ∧ ∃ p : Regrown, w'' = Go.Sort.grow (redrawn w p.d) p.os) := Lib.hid (fun d os => Calls.regrown_of (Hsc.out _ (below_regrown w d os)))
        clear Hx Hsc
        go_enter Try.func93, Try.ntmps93
        go_wp2_with fail
        refine (err_q _ s (p, 0) w HR.out).mono ?_
        rintro e w1 ⟨rfl, rfl⟩
        go_wp2_with fail
        refine wp_region_quiet_below (by kernel_rfl) (by kernel_rfl) ?_
        repeat (go_big_quiet_step ((exact CL.out _ _)))
        refine wpQuiet_nil ?_
        intro _ hw'
        obtain ⟨⟨dq, osq⟩, hw''⟩ := hw'
        subst hw''
        have HB := Lib.hid (below_regrown w dq osq)
        have b1 := (HB.out.block r hr).trans H.out.1
        have f2 := frozen_of_row _ r 2 _ _ b1
        have d2 := cell_of_row _ r 2 _ _ _ b1
        have Hb1 := Lib.hid b1
        clear cG0' cG1 b1 c0 c1
        generalize Go.Sort.grow (redrawn w dq) osq = wg at *
        go_wp2_with fail
        go_ret
        refine ⟨rfl, Or.inr ⟨r, rfl, ?_, hp⟩, put_below HB.out _ _ _⟩
        have := blk_set (w := wg) (off := 2) (.int .i64 x.2.2) Hb1.out
        rw [this]
        rfl
  · have e0 : rdG ByteArray.empty f s (p, err) = (ByteArray.empty, (p, err)) := by unfold rdG; rw [if_neg he]
    rw [e0]
    clear h e0 hsc
    go_enter Try.func93, Try.ntmps93
    go_wp2_with fail
    refine (err_q q s (p, err) w HR.out).mono ?_
    rintro e w1 ⟨rfl, rfl⟩
    go_wp2_with fail
    go_ret
    exact ⟨rfl, HR.out, Gq.refl _ _⟩

set_option maxRecDepth 100000 in
set_option maxHeartbeats 1000000 in
theorem part_cnt (q : Option Addr) (s : ByteArray) (st : St) (hs : s.size ≤ 1000000) (f : List UInt8 → Int × Int × Int) (hf : Sized f) (cp : Addr) (w : World) (h : RP w q s st)
    (hsc : ∀ (p : Nat) (W : World), p ≤ s.size → Below w.heap.size w W → Calls Try.prog 97 #[.string (s.extract p s.size), .pointer (some cp)] W fun e W' => e = .returned (.tuple #[.int .i64 (f (s.data.toList.drop p)).1, .int .i64 (f (s.data.toList.drop p)).2.1, .int .i64 (f (s.data.toList.drop p)).2.2]) ∧ Below W.heap.size W W') :
    Calls Try.prog 54 #[.pointer q, .func (.func 97) #[] #[.pointer (some cp)]] w fun e w' => e = .returned (.int .i64 (rdG 0 f s st).1) ∧ RP w' q s (rdG 0 f s st).2 ∧ Gq w w' q := by
  obtain ⟨p, err⟩ := st
  have HR := Lib.hid h
  by_cases he : err = 0
  · subst he
    rcases h with ⟨_, _, h1⟩ | ⟨r, rfl, h⟩
    · simp at h1
    · dsimp only at h
      have hp := h.2
      obtain ⟨x, hx⟩ : ∃ x, x = f (s.data.toList.drop p) := ⟨_, rfl⟩
      have e0 : rdG 0 f s (p, 0) = if x.2.2 = 0 then (x.1, (p + x.2.1.toNat, 0)) else (0, (p, x.2.2)) := by rw [hx]; rfl
      have Hx := Lib.hid (hf (s.data.toList.drop p))
      rw [← hx] at Hx
      have hsc' := fun W => hsc p W hp
      rw [← hx] at hsc'
      have hr := h.lt
      have c0 := cell_of_row w r 0 _ _ _ h.1
      have c1 := cell_of_row w r 1 _ _ _ h.1
      have H := Lib.hid h
      have Hsc := Lib.hid hsc'
      rw [e0]
      clear h e0 hx hsc hsc'
      have cG0 : Hid (∀ d os, (Go.Sort.grow (redrawn w d) os).cell? ⟨r, 0, none⟩ = some (.string s)) := Lib.hid (fun d os => cell_regrown c0 d os)
      have cG1 : ∀ d os, (Go.Sort.grow (redrawn w d) os).cell? ⟨r, 1, none⟩ = some (.int .i64 (p : Int)) := fun d os => cell_regrown c1 d os
      have cG0' := cG0.out
      by_cases hx0 : x.2.2 = 0
      · rw [if_pos hx0]
        obtain ⟨k, hk, hk2⟩ := Hx.out hx0
        rw [List.length_drop] at hk2
        have hk3 : p + k ≤ s.size := by simp at hk2; omega
        have hkw : IntKind.i64.wrap ((p : Int) + (k : Int)) = (p : Int) + (k : Int) := by simp only [IntKind.wrap_i64]; omega
        have CL : Hid (∀ d os, Calls Try.prog 97 #[.string (s.extract p s.size), .pointer (some cp)] (Go.Sort.grow (redrawn w d) os) fun e w'' => e = .returned (.tuple #[.int .i64 x.1, .int .i64 (k : Int), .int .i64 0]) ∧ ∃ p : Regrown, w'' = Go.Sort.grow (redrawn w p.d) p.os) := Lib.hid (fun d os => Calls.regrown_of (by
          have := Hsc.out _ (below_regrown w d os)
          rw [hk, hx0] at this
          exact this))
        simp only [hk, Int.toNat_natCast]
        clear Hx Hsc hk hx0
        go_enter Try.func54, Try.ntmps54
        go_wp2_with fail
        refine (err_q _ s (p, 0) w HR.out).mono ?_
        rintro e w1 ⟨rfl, rfl⟩
        go_wp2_with fail
        refine wp_region_quiet_below (by kernel_rfl) (by kernel_rfl) ?_
        repeat (go_big_quiet_step ((exact CL.out _ _)))
        refine wpQuiet_nil ?_
        intro _ hw'
        obtain ⟨⟨dq, osq⟩, hw''⟩ := hw'
        subst hw''
        have HB := Lib.hid (below_regrown w dq osq)
        have b1 := (HB.out.block r hr).trans H.out.1
        have d1 := cell_of_row _ r 1 _ _ _ b1
        have f1 := frozen_of_row _ r 1 _ _ b1
        have Hb1 := Lib.hid b1
        clear cG0' cG1 b1 c0 c1
        generalize Go.Sort.grow (redrawn w dq) osq = wg at *
        go_wp2_with fail
        go_ret
        refine ⟨rfl, Or.inr ⟨r, rfl, ?_, hk3⟩, put_below HB.out _ _ _⟩
        have := blk_set (w := wg) (off := 1) (.int .i64 ((p : Int) + (k : Int))) Hb1.out
        rw [this]
        rfl
      · rw [if_neg hx0]
        have CL : Hid (∀ d os, Calls Try.prog 97 #[.string (s.extract p s.size), .pointer (some cp)] (Go.Sort.grow (redrawn w d) os) fun e w'' => e = .returned (.tuple #[.int .i64 x.1, .int .i64 x.2.1, .int .i64 x.2.2]) ∧ ∃ p : Regrown, w'' = Go.Sort.grow (redrawn w p.d) p.os) := Lib.hid (fun d os => Calls.regrown_of (Hsc.out _ (below_regrown w d os)))
        clear Hx Hsc
        go_enter Try.func54, Try.ntmps54
        go_wp2_with fail
        refine (err_q _ s (p, 0) w HR.out).mono ?_
        rintro e w1 ⟨rfl, rfl⟩
        go_wp2_with fail
        refine wp_region_quiet_below (by kernel_rfl) (by kernel_rfl) ?_
        repeat (go_big_quiet_step ((exact CL.out _ _)))
        refine wpQuiet_nil ?_
        intro _ hw'
        obtain ⟨⟨dq, osq⟩, hw''⟩ := hw'
        subst hw''
        have HB := Lib.hid (below_regrown w dq osq)
        have b1 := (HB.out.block r hr).trans H.out.1
        have f2 := frozen_of_row _ r 2 _ _ b1
        have d2 := cell_of_row _ r 2 _ _ _ b1
        have Hb1 := Lib.hid b1
        clear cG0' cG1 b1 c0 c1
        generalize Go.Sort.grow (redrawn w dq) osq = wg at *
        go_wp2_with fail
        go_ret
        refine ⟨rfl, Or.inr ⟨r, rfl, ?_, hp⟩, put_below HB.out _ _ _⟩
        have := blk_set (w := wg) (off := 2) (.int .i64 x.2.2) Hb1.out
        rw [this]
        rfl
  · have e0 : rdG 0 f s (p, err) = (0, (p, err)) := by unfold rdG; rw [if_neg he]
    rw [e0]
    clear h e0 hsc
    go_enter Try.func54, Try.ntmps54
    go_wp2_with fail
    refine (err_q q s (p, err) w HR.out).mono ?_
    rintro e w1 ⟨rfl, rfl⟩
    go_wp2_with fail
    go_ret
    exact ⟨rfl, HR.out, Gq.refl _ _⟩

end Go.Proofs.Ytepcihfkkeahhaa
