/- What is held between the calls of a walk: blocks, sets and slices. -/
import Derived.Test.YtacgomhegjilgaaDa
namespace Go.Proofs.Ytacgomhegjilgaa
open Go.ChangeShapes Go.WideShapes Go.ChangeAt Go.RowKit Ts

/-- Behind w0: these blocks hold these objects, these values read as these runs, and these slices as these cells. -/
structure Hold (w0 : World) (B : List (Nat × Obj)) (V : List (Value × List Iv)) (N : List (Option Addr × List Value)) (W : World) : Prop where
  out : Below w0.heap.size w0 W
  blk : ∀ p ∈ B, W.heap[p.1]? = some p.2
  set : ∀ p ∈ V, Sl W p.1 p.2
  row : ∀ p ∈ N, Rs W W.heap.size p.1 p.2
section
variable {w0 W W' : World} {B : List (Nat × Obj)} {V : List (Value × List Iv)} {N : List (Option Addr × List Value)}
theorem Hold.start (w0 : World) : Hold w0 [] [] [] w0 := ⟨Below.refl _ _, (fun _ h => nomatch h), (fun _ h => nomatch h), (fun _ h => nomatch h)⟩
theorem Hold.next (h : Hold w0 B V N W) (hb : Below W.heap.size W W') : Hold w0 B V N W' :=
  ⟨h.out.trans (hb.mono h.out.size), (fun p hp => (hb.block p.1 (Array.getElem?_eq_some_iff.1 (h.blk p hp)).1).trans (h.blk p hp)), (fun p hp => (h.set p hp).below hb), (fun p hp => ((h.row p hp).below hb).more hb.size)⟩
theorem Hold.alloc (h : Hold w0 B V N W) (o : Obj) (ho : (W.alloc o).heap[W.heap.size]? = some o) : Hold w0 ((W.heap.size, o) :: B) V N (W.alloc o) := by
  have h2 := h.next ((Below.refl _ _).alloc (Nat.le_refl _) o)
  exact ⟨h2.out, (fun p hp => by rcases List.mem_cons.1 hp with rfl | hp; exact ho; exact h2.blk p hp), h2.set, h2.row⟩
theorem Hold.drew (h : Hold w0 B V N W) : Hold w0 B V N W.drew := h.next (Below.drew (Below.refl _ _))
theorem Hold.addB (h : Hold w0 B V N W) {b : Nat} {o : Obj} (ho : W.heap[b]? = some o) : Hold w0 ((b, o) :: B) V N W :=
  ⟨h.out, (fun p hp => by rcases List.mem_cons.1 hp with rfl | hp; exact ho; exact h.blk p hp), h.set, h.row⟩
theorem Hold.addV (h : Hold w0 B V N W) {v : Value} {L : List Iv} (hv : Sl W v L) : Hold w0 B ((v, L) :: V) N W :=
  ⟨h.out, h.blk, (fun p hp => by rcases List.mem_cons.1 hp with rfl | hp; exact hv; exact h.set p hp), h.row⟩
theorem Hold.addN (h : Hold w0 B V N W) {A : Option Addr} {cs : List Value} (hv : Rs W W.heap.size A cs) : Hold w0 B V ((A, cs) :: N) W :=
  ⟨h.out, h.blk, h.set, (fun p hp => by rcases List.mem_cons.1 hp with rfl | hp; exact hv; exact h.row p hp)⟩
theorem Hold.cell (h : Hold w0 B V N W) {b : Nat} {cs : Array Value} {t : TypeId} (hp : (b, Obj.cells cs t (0, 0)) ∈ B) (j : Nat) : W.cell? ⟨b, j, none⟩ = cs[j]? := cell_of_row W b j cs t (0, 0) (h.blk _ hp)
theorem Hold.lt (h : Hold w0 B V N W) {b : Nat} {o : Obj} (hp : (b, o) ∈ B) : b < W.heap.size := (Array.getElem?_eq_some_iff.1 (h.blk _ hp)).1
end
/-- The cells of a bitmap. -/
abbrev bmO (v : Value) : Obj := .cells #[v] 26 (0, 0)
end Go.Proofs.Ytacgomhegjilgaa
