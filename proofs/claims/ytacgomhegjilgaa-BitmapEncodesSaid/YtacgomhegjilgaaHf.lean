/- A row of the call's own, carried through a region. -/
import Derived.Test.YtacgomhegjilgaaHe
namespace Go.Proofs.Ytacgomhegjilgaa
open Go.ChangeShapes Go.WideShapes Go.ChangeAt Go.RowKit Ts

theorem le_gb {a W : World} (g : Gb a W) : a.heap.size ≤ W.heap.size := g.out.size
/-- A row of ints of the call's own. -/
structure Ow (base : Nat) (A : Option Addr) (q : Nat) (l : List Int) (W : World) : Prop where
  out : W.ownsRow base 3 1 (.slice A l.length q) l.length (nC l)
section
variable {W W' : World} {base : Nat} {A : Option Addr} {q : Nat} {l : List Int}
theorem Ow.call (h : Ow base A q l W) (f : Fr W W') : Ow base A q l W' := ⟨own_belowk h.out f.out⟩
theorem Ow.alloc (h : Ow base A q l W) (o : Obj) : Ow base A q l (W.alloc o) := ⟨h.out.alloc o⟩
theorem Ow.drew (h : Ow base A q l W) : Ow base A q l W.drew := ⟨h.out.drew⟩
theorem Ow.store (h : Ow base A q l W) {X : Nat} {cs : Array Value} (hX : Bk1 X (.cells cs 26 (0, 0)) W) (u : Value) : Ow base A q l (W.setCell ⟨X, 0, none⟩ u) := by
  refine ⟨h.out.kept (grownBy_setCell' W X u) ?_⟩
  rcases h.out.2 with ⟨e, _⟩ | ⟨g, cap, cur, e, _, hg, _⟩
  · left; rw [e]; rfl
  · right
    rw [e]
    intro he
    have he2 : g = X := by simpa [Value.ownBlock] using he
    rw [he2, hX.out] at hg
    injection hg with hg
    injection hg with _ hg2 _
    exact absurd hg2 (by decide)
theorem Ow.nil (h : Ow base A q l W) : A = none → l.length = 0 ∧ q = 0 := by
  intro hA
  obtain ⟨A', c', e, _, _, h2⟩ := rs_ownn h.out
  injection e with e1 e2 e3
  subst e1 e3
  rcases h2 with ⟨_, h3, h4⟩ | ⟨g, h3, _⟩
  · exact ⟨h3, h4⟩
  · rw [hA] at h3; cases h3
theorem Ow.of {base' : Nat} (h : W.ownsRow base' 3 1 (.slice A l.length q) l.length (nC l)) (hb : base ≤ base') : Ow base A q l W := ⟨own_base h hb⟩
end
end Go.Proofs.Ytacgomhegjilgaa
