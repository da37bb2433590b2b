/- An array of three numbers, or of two, as an argument. -/
import Derived.Test.YtkjpficpkpfkdaaRow
import Derived.Laws.IdiomArrays
namespace Go.Proofs.Ytkjpficpkpfkdaa
open Go.ChangeShapes Go.WideShapes Go.ChangeAt Go.RowKit Go.Joins

section
variable {H : Type} {enc : TypeId × Value → H} {P : Program} {w : World} {base : Nat} {spare : Nat → Bool} {held : Bool}
theorem open_row3 {r : Reach} {b0 : Nat} {t e : TypeId} {k : IntKind} {v : Value} {d : DataW H} {p : List MemPlace} (ht : P.underlying t = some (.array 3 e)) (he : P.underlying e = some (.int k)) (hce : P.cellsOf e = 1) (hC : P.cellsOf t = 3)
    (hv : Value.okWide P w r b0 t v) (h : DataW.Trod enc P w base spare held t v d p) :
    ∃ m0 m1 m2 : Int, v = .agg #[.int k m0, .int k m1, .int k m2] ∧ d = .agg [.lit (.int k m0), .lit (.int k m1), .lit (.int k m2)] ∧ p = [] ∧ (Lit.int k m0).wf = true ∧ (Lit.int k m1).wf = true ∧ (Lit.int k m2).wf = true := by
  obtain ⟨cs, rfl, hsz⟩ : ∃ cs, v = .agg cs ∧ cs.size = P.cellsOf t := by
    simp only [Value.okWide, ht] at hv
    obtain ⟨cs, h1, h2, _⟩ := hv
    exact ⟨cs, h1, h2⟩
  obtain ⟨c0, c1, c2, rfl⟩ := array3 (hsz.trans hC)
  obtain ⟨fuel, hf⟩ := h
  obtain ⟨y0, y1, y2, n, hx, h0, h1, h2⟩ := trod_array3 ht hce hf
  obtain ⟨m0, e0, rfl, w0⟩ := DataW.trod_int he h0
  obtain ⟨m1, e1, rfl, w1⟩ := DataW.trod_int he h1
  obtain ⟨m2, e2, rfl, w2⟩ := DataW.trod_int he h2
  simp only [Prod.mk.injEq, List.append_nil] at hx
  simp only [List.cons.injEq, and_true] at e0 e1 e2
  subst e0 e1 e2
  exact ⟨m0, m1, m2, rfl, hx.1, hx.2, w0, w1, w2⟩
theorem shut_row3 {t e : TypeId} {k : IntKind} {m0 m1 m2 : Int} (ht : P.underlying t = some (.array 3 e)) (he : P.underlying e = some (.int k)) (hce : P.cellsOf e = 1) (hC : P.cellsOf t = 3)
    (w0 : (Lit.int k m0).wf = true) (w1 : (Lit.int k m1).wf = true) (w2 : (Lit.int k m2).wf = true) :
    DataW.Trod enc P w base spare held t (.agg #[.int k m0, .int k m1, .int k m2]) (.agg [.lit (.int k m0), .lit (.int k m1), .lit (.int k m2)]) [] := by
  refine ⟨2, ?_⟩
  have r3 : List.range 3 = [0, 1, 2] := rfl
  simp [DataW.trod, ht, he, hce, hC, r3, Value.cells, w0, w1, w2]
end
end Go.Proofs.Ytkjpficpkpfkdaa
