/- What becomes of a boxed set while a region makes several, in any order. -/
import Derived.Test.YtacgomhegjilgaaIv
import Derived.Test.YtacgomhegjilgaaHe
namespace Go.Proofs.Ytacgomhegjilgaa
open Go.ChangeShapes Go.WideShapes Go.ChangeAt Go.RowKit Ts

/-- A call that makes a set R (c: it has returned y), a box for it (al: it is made, at X; x: its pointer), and the store of y into the box (st). -/
structure Jk (B : Nat) (R : List Iv) (c al st : Bool) (x y : Value) (X : Nat) (W : World) : Prop where
  val : c = true → ∃ P p, y = .agg #[.slice P R.length p] ∧ Sl W (.slice P R.length p) R
  box : al = true → x = .pointer (some ⟨X, 0, none⟩) ∧ X < W.heap.size ∧ (st = false → W.heap[X]? = some (.cells #[.slice none 0 0] 26 (0, 0)))
  lo : al = true → B ≤ X
  put : st = true → c = true ∧ al = true ∧ ∃ P p, y = .agg #[.slice P R.length p] ∧ W.heap[X]? = some (.cells #[.slice P R.length p] 26 (0, 0))
section
variable {B : Nat} {R : List Iv} {c al st : Bool} {x y : Value} {X : Nat} {W W' : World}
theorem Jk.start : Jk B R false false false x y X W := ⟨(fun h => nomatch h), (fun h => nomatch h), (fun h => nomatch h), (fun h => nomatch h)⟩
theorem Jk.lt (h : Jk B R c al st x y X W) (ha : al = true) : X < W.heap.size := (h.box ha).2.1
theorem Jk.next (h : Jk B R c al st x y X W) (hb : Below W.heap.size W W') : Jk B R c al st x y X W' := by
  refine ⟨fun hc => ?_, fun ha => ?_, h.lo, fun hs => ?_⟩
  · obtain ⟨P, p, e, hv⟩ := h.val hc
    exact ⟨P, p, e, hv.below hb⟩
  · obtain ⟨e, hl, hz⟩ := h.box ha
    exact ⟨e, Nat.lt_of_lt_of_le hl hb.size, fun h0 => (hb.block X hl).trans (hz h0)⟩
  · obtain ⟨hc, ha, P, p, e, hk⟩ := h.put hs
    exact ⟨hc, ha, P, p, e, (hb.block X (h.lt ha)).trans hk⟩
theorem Jk.call (h : Jk B R c al st x y X W) (hc : c = false) (hb : Below W.heap.size W W') {P : Option Addr} {p : Nat} (hr : Sl W' (.slice P R.length p) R) : Jk B R true al st x (.agg #[.slice P R.length p]) X W' := by
  have hn := h.next hb
  refine ⟨fun _ => ⟨P, p, rfl, hr⟩, hn.box, h.lo, fun hs => ?_⟩
  have := (hn.put hs).1
  rw [hc] at this; cases this
theorem Jk.alloc (h : Jk B R c al st x y X W) (ha : al = false) (hB : B ≤ W.heap.size) : Jk B R c true st (.pointer (some ⟨W.heap.size, 0, none⟩)) y W.heap.size (W.alloc (.cells #[.slice none 0 0] 26)) := by
  have hn := h.next ((Below.refl _ _).alloc (Nat.le_refl _) (.cells #[.slice none 0 0] 26))
  refine ⟨hn.val, fun _ => ⟨rfl, by simp, fun _ => Deep.blk_alloc_new W _⟩, fun _ => hB, fun hs => ?_⟩
  have := (hn.put hs).2.1
  rw [ha] at this; cases this
theorem Jk.other (h : Jk B R c al st x y X W) {Z : Nat} (hZ : W.heap[Z]? = some (.cells #[.slice none 0 0] 26 (0, 0))) (hne : al = true → X ≠ Z) (u : Value) : Jk B R c al st x y X (W.setCell ⟨Z, 0, none⟩ u) := by
  have hb : ∀ Y, Y ≠ Z → (W.setCell ⟨Z, 0, none⟩ u).heap[Y]? = W.heap[Y]? := fun Y hY => Below.heap_setCell W ⟨Z, 0, none⟩ u Y hY
  refine ⟨fun hc => ?_, fun ha => ?_, h.lo, fun hs => ?_⟩
  · obtain ⟨P, p, e, hv⟩ := h.val hc
    exact ⟨P, p, e, sl_store hv hZ u⟩
  · obtain ⟨e, hl, hz⟩ := h.box ha
    exact ⟨e, by simpa [World.setCell] using hl, fun h0 => (hb X (hne ha)).trans (hz h0)⟩
  · obtain ⟨hc, ha, P, p, e, hk⟩ := h.put hs
    exact ⟨hc, ha, P, p, e, (hb X (hne ha)).trans hk⟩
/-- What the store meets, and what it leaves. -/
theorem Jk.store (h : Jk B R c al st x y X W) (hc : c = true) (ha : al = true) (hs : st = false) : ∃ P p, x = .pointer (some ⟨X, 0, none⟩) ∧ y = .agg #[.slice P R.length p] ∧ W.heap[X]? = some (.cells #[.slice none 0 0] 26 (0, 0)) ∧ Jk B R c al true x y X (W.setCell ⟨X, 0, none⟩ (.slice P R.length p)) := by
  obtain ⟨P, p, e, hv⟩ := h.val hc
  obtain ⟨ex, hl, hz⟩ := h.box ha
  have hk := hz hs
  refine ⟨P, p, ex, e, hk, fun _ => ⟨P, p, e, sl_store hv hk _⟩, fun _ => ⟨ex, by simpa [World.setCell] using hl, fun h0 => nomatch h0⟩, h.lo, fun _ => ⟨hc, ha, P, p, e, ?_⟩⟩
  rw [blk_set _ hk]; rfl
theorem Jk.done (h : Jk B R c al st x y X W) (hs : st = true) : ∃ P p, x = .pointer (some ⟨X, 0, none⟩) ∧ y = .agg #[.slice P R.length p] ∧ W.heap[X]? = some (.cells #[.slice P R.length p] 26 (0, 0)) ∧ Sl W (.slice P R.length p) R := by
  obtain ⟨hc, ha, P, p, e, hk⟩ := h.put hs
  obtain ⟨P', p', e', hv⟩ := h.val hc
  rw [e] at e'
  have e2 : (Value.slice P R.length p) = .slice P' R.length p' := by
    injection e' with e'
    have := congrArg (fun a : Array Value => a[0]?) e'
    simpa using this
  rw [← e2] at hv
  exact ⟨P, p, (h.box ha).1, e, hk, hv⟩
end
/-- Two boxes are not the same. -/
def Dj (al al' : Bool) (X X' : Nat) : Prop := al = true → al' = true → X ≠ X'
end Go.Proofs.Ytacgomhegjilgaa
