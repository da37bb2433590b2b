/- Facts that are carried through a region that draws its order and holds calls, allocations and stores: by steps. -/
import Derived.Test.YtacgomhegjilgaaRow
import Derived.Deep.DeepCutAuto
namespace Go.Proofs.Ytacgomhegjilgaa
open Go.ChangeShapes Go.WideShapes Go.ChangeAt Go.RowKit Ts

/-- A call led from one world to the other. -/
structure Fr (a W : World) : Prop where
  out : Below a.heap.size a W
/-- Some steps led from one world to the other. -/
structure Gb (a W : World) : Prop where
  out : Below a.heap.size a W
/-- A block holds an object. -/
structure Bk1 (X : Nat) (o : Obj) (W : World) : Prop where
  out : W.heap[X]? = some o
/-- A value reads as runs. -/
structure St (v : Value) (L : List Iv) (W : World) : Prop where
  out : Sl W v L
/-- A slice reads as cells of ints. -/
structure Rt (A : Option Addr) (l : List Int) (W : World) : Prop where
  out : Rs W W.heap.size A (nC l)
section
variable {a W W' : World}
theorem Gb.refl (a : World) : Gb a a := ⟨Below.refl _ _⟩
theorem Gb.call (h : Gb a W) (f : Fr W W') : Gb a W' := ⟨h.out.trans (f.out.mono h.out.size)⟩
theorem Gb.alloc (h : Gb a W) (o : Obj) : Gb a (W.alloc o) := ⟨h.out.alloc h.out.size o⟩
theorem Gb.drew (h : Gb a W) : Gb a W.drew := ⟨Below.drew h.out⟩
theorem Gb.setCell (h : Gb a W) {X : Nat} (hX : a.heap.size ≤ X) (u : Value) : Gb a (W.setCell ⟨X, 0, none⟩ u) := ⟨h.out.setCell (p := ⟨X, 0, none⟩) hX u⟩
theorem Bk1.new {X : Nat} {o : Obj} (h : X = W.heap.size) (ho : ∀ w : World, (w.alloc o).heap[w.heap.size]? = some o) : Bk1 X o (W.alloc o) := ⟨by rw [h]; exact ho W⟩
theorem Bk1.old {X : Nat} {o : Obj} (h : Bk1 X o W) (o' : Obj) : Bk1 X o (W.alloc o') := ⟨(Below.heap_alloc _ _ _ (Array.getElem?_eq_some_iff.1 h.out).1).trans h.out⟩
theorem Bk1.call {X : Nat} {o : Obj} (h : Bk1 X o W) (f : Fr W W') : Bk1 X o W' := ⟨(f.out.block X (Array.getElem?_eq_some_iff.1 h.out).1).trans h.out⟩
theorem Bk1.drew {X : Nat} {o : Obj} (h : Bk1 X o W) : Bk1 X o W.drew := ⟨h.out⟩
theorem Bk1.same {X : Nat} {u : Value} {t : TypeId} (h : Bk1 X (.cells #[.slice none 0 0] t (0, 0)) W) : Bk1 X (.cells #[u] t (0, 0)) (W.setCell ⟨X, 0, none⟩ u) := ⟨by rw [blk_set u h.out]; rfl⟩
theorem Bk1.other {X Y : Nat} {o : Obj} (h : Bk1 X o W) (hne : X ≠ Y) (u : Value) : Bk1 X o (W.setCell ⟨Y, 0, none⟩ u) := ⟨(Below.heap_setCell W ⟨Y, 0, none⟩ u X hne).trans h.out⟩
theorem St.call {v : Value} {L : List Iv} (h : St v L W) (f : Fr W W') : St v L W' := ⟨h.out.below f.out⟩
theorem St.alloc {v : Value} {L : List Iv} (h : St v L W) (o : Obj) : St v L (W.alloc o) := ⟨h.out.below ((Below.refl _ _).alloc (Nat.le_refl _) o)⟩
theorem St.drew {v : Value} {L : List Iv} (h : St v L W) : St v L W.drew := ⟨h.out.below (Below.drew (Below.refl _ _))⟩
theorem St.store {v : Value} {L : List Iv} (h : St v L W) {X : Nat} {b : Option Addr} {n c : Nat} {t : TypeId} (hX : Bk1 X (.cells #[.slice b n c] t (0, 0)) W) (u : Value) : St v L (W.setCell ⟨X, 0, none⟩ u) := ⟨sl_store h.out hX.out u⟩
theorem Rt.call {A : Option Addr} {l : List Int} (h : Rt A l W) (f : Fr W W') : Rt A l W' := ⟨(h.out.below f.out).more f.out.size⟩
theorem Rt.alloc {A : Option Addr} {l : List Int} (h : Rt A l W) (o : Obj) : Rt A l (W.alloc o) := Rt.call h ⟨(Below.refl _ _).alloc (Nat.le_refl _) o⟩
theorem Rt.drew {A : Option Addr} {l : List Int} (h : Rt A l W) : Rt A l W.drew := Rt.call h ⟨Below.drew (Below.refl _ _)⟩
theorem Rt.store {A : Option Addr} {l : List Int} (h : Rt A l W) {X : Nat} {b : Option Addr} {n c : Nat} {t : TypeId} (hX : Bk1 X (.cells #[.slice b n c] t (0, 0)) W) (u : Value) : Rt A l (W.setCell ⟨X, 0, none⟩ u) := by
  refine ⟨fun j hj => ?_⟩
  obtain ⟨g, off, eA, hg, hc⟩ := h.out j hj
  refine ⟨g, off, eA, by simpa [World.setCell] using hg, ?_⟩
  by_cases hgX : g = X
  · exfalso
    subst hgX
    rw [cell_of_row W g (off + j) _ _ _ hX.out] at hc
    have h0 : off + j = 0 := by
      rcases Nat.eq_zero_or_pos (off + j) with h | h
      · exact h
      · rw [Array.getElem?_eq_none (by simp; omega)] at hc; cases hc
    rw [h0] at hc
    have hm : (nC l)[j] ∈ nC l := List.getElem_mem hj
    obtain ⟨x, _, hx⟩ := List.mem_map.1 hm
    rw [← hx] at hc; injection hc with hc; cases hc
  · have hh : (W.setCell ⟨X, 0, none⟩ u).heap[g]? = W.heap[g]? := Below.heap_setCell W ⟨X, 0, none⟩ u g hgX
    rw [World.cell?_of_block (w := W) (a := ⟨g, off + j, none⟩) hh]
    exact hc
theorem Fr.size1 (f : Fr a W) : a.heap.size ≤ W.heap.size := f.out.size
end
theorem new_bm (u : Value) (w : World) : (w.alloc (.cells #[u] 26)).heap[w.heap.size]? = some (.cells #[u] 26 (0, 0)) := Deep.blk_alloc_new w _
end Go.Proofs.Ytacgomhegjilgaa
