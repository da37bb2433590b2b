/- What becomes of a boxed summary while a region makes several, in any order. -/
import Derived.Test.YtnpjakgdfjaglaaIv
import Derived.Test.YtnpjakgdfjaglaaHx
namespace Go.Proofs.Ytnpjakgdfjaglaa
open Go.ChangeShapes Go.WideShapes Go.ChangeAt Go.RowKit Go.Joins

def row0 : Array Value := #[.int .i64 0, .int .i64 0, .int .i64 0, .slice none 0 0]
def rowS (s : Su) (A : Option Addr) (p : Nat) : Array Value := #[.int .i64 s.mo, .int .i64 s.to, .int .i64 s.lo, .slice A s.cs.length p]
/-- A call that makes a summary s (c: it has returned y), a box for it (al: it is made, at X; x: its pointer), and the store of y into the box (st). -/
structure Js (B : Nat) (s : Su) (c al st : Bool) (x y : Value) (X : Nat) (W : World) : Prop where
  val : c = true → ∃ A p, y = .agg (rowS s A p) ∧ SlV W (.slice A s.cs.length p) s.cs ∧ Flat A
  box : al = true → x = .pointer (some ⟨X, 0, none⟩) ∧ X < W.heap.size ∧ (st = false → W.heap[X]? = some (.cells row0 24 (0, 0)))
  lo : al = true → B ≤ X
  put : st = true → c = true ∧ al = true ∧ ∃ A p, y = .agg (rowS s A p) ∧ W.heap[X]? = some (.cells (rowS s A p) 24 (0, 0))
section
variable {B : Nat} {s : Su} {c al st : Bool} {x y : Value} {X : Nat} {W W' : World}
theorem Js.start : Js B s false false false x y X W := ⟨(fun h => nomatch h), (fun h => nomatch h), (fun h => nomatch h), (fun h => nomatch h)⟩
theorem Js.lt (h : Js B s c al st x y X W) (ha : al = true) : X < W.heap.size := (h.box ha).2.1
theorem Js.next (h : Js B s c al st x y X W) (hb : Below W.heap.size W W') : Js B s c al st x y X W' := by
  refine ⟨fun hc => ?_, fun ha => ?_, h.lo, fun hs => ?_⟩
  · obtain ⟨P, p, e, hv, hf⟩ := h.val hc
    exact ⟨P, p, e, hv.below hb, hf⟩
  · obtain ⟨e, hl, hz⟩ := h.box ha
    exact ⟨e, Nat.lt_of_lt_of_le hl hb.size, fun h0 => (hb.block X hl).trans (hz h0)⟩
  · obtain ⟨hc, ha, P, p, e, hk⟩ := h.put hs
    exact ⟨hc, ha, P, p, e, (hb.block X (h.lt ha)).trans hk⟩
theorem Js.call (h : Js B s c al st x y X W) (hc : c = false) (hb : Below W.heap.size W W') {A : Option Addr} {p : Nat} (hr : SlV W' (.slice A s.cs.length p) s.cs) (hf : Flat A) : Js B s true al st x (.agg (rowS s A p)) X W' := by
  have hn := h.next hb
  refine ⟨fun _ => ⟨A, p, rfl, hr, hf⟩, hn.box, h.lo, fun hs => ?_⟩
  have := (hn.put hs).1
  rw [hc] at this; cases this
theorem Js.alloc (h : Js B s c al st x y X W) (ha : al = false) (hB : B ≤ W.heap.size) : Js B s c true st (.pointer (some ⟨W.heap.size, 0, none⟩)) y W.heap.size (W.alloc (.cells row0 24)) := by
  have hn := h.next ((Below.refl _ _).alloc (Nat.le_refl _) (.cells row0 24))
  refine ⟨hn.val, fun _ => ⟨rfl, by simp, fun _ => Deep.blk_alloc_new W _⟩, fun _ => hB, fun hs => ?_⟩
  have := (hn.put hs).2.1
  rw [ha] at this; cases this
theorem Js.other (h : Js B s c al st x y X W) {Z : Nat} {old : Array Value} (hZ : W.heap[Z]? = some (.cells old 24 (0, 0))) (hne : al = true → X ≠ Z) (cs : Array Value) : Js B s c al st x y X (W.setRow Z cs) := by
  have hb : ∀ Y, Y ≠ Z → (W.setRow Z cs).heap[Y]? = W.heap[Y]? := fun Y hY => setRow_other W Z Y cs (by first | exact hY | exact hY.symm)
  refine ⟨fun hc => ?_, fun ha => ?_, h.lo, fun hs => ?_⟩
  · obtain ⟨P, p, e, hv, hf⟩ := h.val hc
    exact ⟨P, p, e, slv_setRow hv hZ, hf⟩
  · obtain ⟨e, hl, hz⟩ := h.box ha
    exact ⟨e, by simpa using hl, fun h0 => (hb X (hne ha)).trans (hz h0)⟩
  · obtain ⟨hc, ha, P, p, e, hk⟩ := h.put hs
    exact ⟨hc, ha, P, p, e, (hb X (hne ha)).trans hk⟩
/-- What the store meets, and what it leaves. -/
theorem Js.store (h : Js B s c al st x y X W) (hc : c = true) (ha : al = true) (hs : st = false) : ∃ A p, x = .pointer (some ⟨X, 0, none⟩) ∧ y = .agg (rowS s A p) ∧ W.heap[X]? = some (.cells row0 24 (0, 0)) ∧ Js B s c al true x y X (W.setRow X (rowS s A p)) := by
  obtain ⟨P, p, e, hv, hf⟩ := h.val hc
  obtain ⟨ex, hl, hz⟩ := h.box ha
  have hk := hz hs
  exact ⟨P, p, ex, e, hk, fun _ => ⟨P, p, e, slv_setRow hv hk, hf⟩, fun _ => ⟨ex, by simpa using hl, fun h0 => nomatch h0⟩, h.lo, fun _ => ⟨hc, ha, P, p, e, setRow_heap W X _ _ _ _ hk⟩⟩
theorem Js.done (h : Js B s c al st x y X W) (hs : st = true) : ∃ A p, x = .pointer (some ⟨X, 0, none⟩) ∧ y = .agg (rowS s A p) ∧ W.heap[X]? = some (.cells (rowS s A p) 24 (0, 0)) ∧ SlV W (.slice A s.cs.length p) s.cs ∧ Flat A := by
  obtain ⟨hc, ha, P, p, e, hk⟩ := h.put hs
  obtain ⟨P', p', e', hv, hf⟩ := h.val hc
  rw [e] at e'
  have e2 : (Value.slice P s.cs.length p) = .slice P' s.cs.length p' := by
    injection e' with e'
    have := congrArg (fun a : Array Value => a[3]?) e'
    simpa [rowS] using this
  injection e2 with e3 e4 e5
  subst e3 e5
  exact ⟨P, p, (h.box ha).1, e, hk, hv, hf⟩
end
/-- Two boxes are not the same. -/
def Dj (al al' : Bool) (X X' : Nat) : Prop := al = true → al' = true → X ≠ X'
end Go.Proofs.Ytnpjakgdfjaglaa
