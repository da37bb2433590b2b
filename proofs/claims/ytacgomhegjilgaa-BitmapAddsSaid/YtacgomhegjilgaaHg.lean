/- A set and a box kept where a row of the call's own grows. -/
import Derived.Test.YtacgomhegjilgaaHf
namespace Go.Proofs.Ytacgomhegjilgaa
open Go.ChangeShapes Go.WideShapes Go.ChangeAt Go.RowKit Ts

theorem ow_lt {base q : Nat} {A : Option Addr} {l : List Int} {W : World} (h : Ow base A q l W) (g : Nat) (hg : (Value.slice A l.length q).ownBlock = some g) : g < W.heap.size := by
  rcases h.out.2 with ⟨e, _⟩ | ⟨g', cap, cur, e, _, hh, _⟩
  · rw [e] at hg; simp [Value.ownBlock] at hg
  · rw [e] at hg
    have : g' = g := by simpa [Value.ownBlock] using hg
    rw [← this]; exact (Array.getElem?_eq_some_iff.1 hh).1
theorem hold5 {w W w5 vk : World} {A : Option Addr} {q X B n d : Nat} {l : List Int} {o : Obj} {D : Option Addr} {N : List Iv}
    (hg : W.grownBy w5 (Value.slice A l.length q).ownBlock) (hO : Ow w.heap.size A q l W) (g0 : Gb w W) (gk : Gb vk W) (hX : vk.heap[X]? = some o) (hn : n = N.length)
    (hN : vk.ownsRow B 39 2 (.slice D n d) n (ivCells N)) (hl : ∀ g, (Value.slice A l.length q).ownBlock = some g → g < B ∧ g ≠ X) : Hold w [(X, o)] [(.slice D n d, N)] [] w5 := by
  have hXl := (Array.getElem?_eq_some_iff.1 hX).1
  have hXW := gk.out.block X hXl
  refine ⟨below_grownk g0.out hO.out hg (Nat.le_refl _) (Nat.le_refl _), fun p hp => ?_, fun p hp => ?_, fun p hp => (nomatch hp)⟩
  · obtain rfl := List.mem_singleton.1 hp
    exact ((hg.block X (by have := gk.out.size; omega) (fun e => (hl X e.symm).2 rfl)).trans hXW).trans hX
  · obtain rfl := List.mem_singleton.1 hp
    subst hn
    refine sl_own ((own_belowk hN gk.out).kept hg ?_)
    cases ho : (Value.slice A l.length q).ownBlock with
    | none =>
      rcases hN.2 with ⟨e, _⟩ | ⟨g', cap, cur, e, hb, _⟩
      · left; rw [e]; rfl
      · right; rw [e]; simp [Value.ownBlock]
    | some g =>
      right
      rcases hN.2 with ⟨e, _⟩ | ⟨g', cap, cur, e, hb, _⟩
      · rw [e]; simp [Value.ownBlock]
      · rw [e]
        have := (hl g ho).1
        simp [Value.ownBlock]; omega
end Go.Proofs.Ytacgomhegjilgaa
