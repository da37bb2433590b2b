/- The Reader's Ref and Left; the Writer's Len. -/
import Derived.Test.YtepcihfkkeahhaaVa
namespace Go.Proofs.Ytepcihfkkeahhaa
open Go.ChangeShapes Go.WideShapes Go.ChangeAt Go.RowKit En

theorem grown_trans {a b c : World} {o : Option Nat} (h : a.grownBy b o) (k : b.grownBy c o) : a.grownBy c o :=
  ⟨k.os.trans h.os, k.tape.trans h.tape, k.output.trans h.output, Nat.le_trans h.size k.size, fun i hi hne => (k.block i (by have := h.size; omega) hne).trans (h.block i hi hne)⟩
theorem grown_below {a b : World} (h : Below a.heap.size a b) (o : Option Nat) : a.grownBy b o := ⟨h.os, h.tape, h.output, h.size, fun i hi _ => h.block i hi⟩
theorem below_grown {B : Nat} {a b c : World} {g : Nat} (h : Below B a b) (k : b.grownBy c (some g)) (hB : B ≤ g) (hs : B ≤ a.heap.size) : Below B a c :=
  ⟨k.os.trans h.os, k.tape.trans h.tape, k.output.trans h.output, Nat.le_trans h.size k.size, fun i hi => (k.block i (by have := h.size; omega) (fun e => by simp at e; omega)).trans (h.block i hi)⟩
theorem below_drewN {B : Nat} {a w : World} (h : Below B a w) (n : Nat) : Below B a (w.drewN n) := h.trans ⟨rfl, rfl, rfl, Nat.le_refl _, fun _ _ => rfl⟩
theorem complete_ref (r : Nat) (s : ByteArray) (p : Nat) (err : Int) (x y : Int) (w : World) (h : RS w r s p err) :
    Calls Try.prog 100 #[.pointer (some ⟨r, 0, none⟩), .agg #[.int .i64 x, .int .i64 y]] w fun e w' => e = .returned (if err = 0 then .agg #[.int .i64 x, .int .i64 y] else .agg #[.int .i64 0, .int .i64 0]) ∧ Below w.heap.size w w' := by
  have H := Lib.hid h
  have hr := h.lt
  clear h
  by_cases he : err = 0
  · rw [if_pos he]
    go_enter Try.func100, Try.ntmps100
    go_wp2_with fail
    refine (r_err r s p err _ (H.out.below (((Below.refl _ _).alloc (Nat.le_refl _) _).alloc (by simp) _))).mono ?_
    rintro e w1 ⟨rfl, rfl⟩
    go_wp2_with fail
    refine bodyPost_ret (v := .agg #[.int .i64 x, .int .i64 y]) (by simp [results, Try.results100, go_sem, *]) rfl ⟨rfl, ((Below.refl _ _).alloc (Nat.le_refl _) _).alloc (by simp) _⟩
  · rw [if_neg he]
    go_enter Try.func100, Try.ntmps100
    go_wp2_with fail
    refine (r_err r s p err _ (H.out.below (((Below.refl _ _).alloc (Nat.le_refl _) _).alloc (by simp) _))).mono ?_
    rintro e w1 ⟨rfl, rfl⟩
    go_wp2_with fail
    refine bodyPost_ret (v := .agg #[.int .i64 0, .int .i64 0]) (by simp [results, Try.results100, go_sem, *]) rfl ⟨rfl, (((Below.refl _ _).alloc (Nat.le_refl _) _).alloc (by simp) _).alloc (by simp; omega) _⟩

/-- What reading a reference returns, and the state behind it. -/
def rdR (s : ByteArray) (p : Nat) (err : Int) : (Int × Int) × Nat × Int :=
  (if (rdN s (rdN s p err).2.1 (rdN s p err).2.2).2.2 = 0 then ((rdN s p err).1, (rdN s (rdN s p err).2.1 (rdN s p err).2.2).1) else (0, 0),
   (rdN s (rdN s p err).2.1 (rdN s p err).2.2).2.1, (rdN s (rdN s p err).2.1 (rdN s p err).2.2).2.2)
set_option maxRecDepth 100000 in
theorem read_ref (r : Nat) (s : ByteArray) (p : Nat) (err : Int) (hs : s.size ≤ 1000000) (w : World) (h : RS w r s p err) :
    Calls Try.prog 46 #[.pointer (some ⟨r, 0, none⟩)] w fun e w' => e = .returned (.agg #[.int .i64 (rdR s p err).1.1, .int .i64 (rdR s p err).1.2]) ∧ RS w' r s (rdR s p err).2.1 (rdR s p err).2.2 ∧ w.grownBy w' (some r) := by
  obtain ⟨x1, hx1⟩ : ∃ x, x = rdN s p err := ⟨_, rfl⟩
  obtain ⟨x2, hx2⟩ : ∃ x, x = rdN s x1.2.1 x1.2.2 := ⟨_, rfl⟩
  have e0 : rdR s p err = (if x2.2.2 = 0 then (x1.1, x2.1) else (0, 0), x2.2.1, x2.2.2) := by rw [hx2, hx1]; rfl
  have ev : (if x2.2.2 = 0 then Value.agg #[.int .i64 x1.1, .int .i64 x2.1] else .agg #[.int .i64 0, .int .i64 0]) = .agg #[.int .i64 (rdR s p err).1.1, .int .i64 (rdR s p err).1.2] := by
    rw [e0]; by_cases hz : x2.2.2 = 0
    · rw [if_pos hz, if_pos hz]
    · rw [if_neg hz, if_neg hz]
  obtain ⟨R, hR⟩ : ∃ R, R = rdR s p err := ⟨_, rfl⟩
  rw [← hR] at ev e0 ⊢
  have hr := h.lt
  have H := Lib.hid h
  have Hx1 := Lib.hid hx1
  have Hx2 := Lib.hid hx2
  have He0 := Lib.hid e0
  have Hev := Lib.hid ev
  clear h hx1 hx2 e0 ev hR
  go_enter Try.func46, Try.ntmps46
  go_wp2_with fail
  have h0 : RS (w.alloc (.cells #[.int .i64 0, .int .i64 0] 83)) r s p err := H.out.below ((Below.refl _ _).alloc (Nat.le_refl _) _)
  have hc1 := read_number r s p err hs _ h0
  rw [← Hx1.out] at hc1
  clear h0
  refine hc1.mono ?_
  rintro e w1 ⟨rfl, h1, g1⟩
  have hc2 := read_number r s x1.2.1 x1.2.2 hs _ h1
  rw [← Hx2.out] at hc2
  have G1 := Lib.hid g1
  clear h1 g1 hc1
  go_wp2_with fail
  refine hc2.mono ?_
  rintro e w2 ⟨rfl, h2, g2⟩
  have H2 := Lib.hid h2
  have G2 := Lib.hid g2
  clear h2 g2 hc2
  go_wp2_with fail
  refine (complete_ref r s x2.2.1 x2.2.2 x1.1 x2.1 w2 H2.out).mono ?_
  rintro e w3 ⟨rfl, hB3⟩
  rw [Hev.out]
  have H3 := Lib.hid (H2.out.below hB3)
  have G3 := Lib.hid (grown_trans G1.out (grown_trans G2.out (grown_below hB3 _)))
  have hblk := (G3.out.block w.heap.size (by simp) (by simp; omega)).trans (Deep.blk_alloc_new w (.cells #[.int .i64 0, .int .i64 0] 83))
  have c0 := cell_of_row w3 w.heap.size 0 _ _ _ hblk
  have c1 := cell_of_row w3 w.heap.size 1 _ _ _ hblk
  have f0 := frozen_of_row w3 w.heap.size 0 _ _ hblk
  have f1 := frozen_of_row w3 w.heap.size 1 _ _ hblk
  clear hblk hB3
  go_wp2_with fail
  have e1 : R.2.1 = x2.2.1 := by rw [He0.out]
  have e2 : R.2.2 = x2.2.2 := by rw [He0.out]
  refine bodyPost_ret (v := .agg #[.int .i64 R.1.1, .int .i64 R.1.2]) (by simp [results, Try.results46, go_sem, *]) rfl ⟨rfl, ⟨?_, ?_⟩, G3.out.os, G3.out.tape, G3.out.output, ?_, fun i hi hne => ?_⟩
  · rw [e1, e2, Deep.blk_setCell_other _ _ _ _ (show r ≠ w.heap.size by omega), Deep.blk_setCell_other _ _ _ _ (show r ≠ w.heap.size by omega)]
    exact H3.out.1
  · rw [e1]; exact H3.out.2
  · have := G3.out.size
    simp [World.setCell] at this ⊢
    omega
  · rw [Deep.blk_setCell_other _ _ _ _ (show i ≠ w.heap.size by omega), Deep.blk_setCell_other _ _ _ _ (show i ≠ w.heap.size by omega)]
    exact (G3.out.block i (by simp; omega) hne).trans (Deep.blk_alloc_lt w _ i hi)

theorem r_left (r : Nat) (s : ByteArray) (p : Nat) (err : Int) (hs : s.size ≤ 1000000) (w : World) (h : RS w r s p err) :
    Calls Try.prog 20 #[.pointer (some ⟨r, 0, none⟩)] w fun e w' => e = .returned (.int .i64 (((s.size - p : Nat) : Int))) ∧ w' = w.drew := by
  have c0 := cell_of_row w r 0 _ _ _ h.1
  have c1 := cell_of_row w r 1 _ _ _ h.1
  have hp := h.2
  have hw : IntKind.i64.wrap ((s.size : Int) - (p : Int)) = ((s.size - p : Nat) : Int) := by simp only [IntKind.wrap_i64]; omega
  have hw2 : wrap64 ((s.size : Int) - (p : Int)) = ((s.size - p : Nat) : Int) := by unfold wrap64; omega
  clear h
  go_enter Try.func20, Try.ntmps20
  go_wp2_with fail
  go_region
  go_wp2_with fail
  go_ret
  exact ⟨rfl, rfl⟩
end Go.Proofs.Ytepcihfkkeahhaa
