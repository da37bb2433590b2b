/- Pairs of numbers as arguments. -/
import Derived.Test.YtnpjakgdfjaglaaHo
namespace Go.Proofs.Ytnpjakgdfjaglaa
open Go.ChangeShapes Go.WideShapes Go.ChangeAt Go.RowKit Go.Joins

theorem laidOut : laidOutB Try.prog = true := by kernel_rfl
theorem array2 {α : Type} {cs : Array α} (h : cs.size = 2) : ∃ c0 c1, cs = #[c0, c1] := by
  obtain ⟨l⟩ := cs
  match l, h with
  | [a, b], _ => exact ⟨a, b, rfl⟩
theorem open_row2 {H : Type} {enc : TypeId × Value → H} {P : Program} {w : World} {base : Nat} {spare : Nat → Bool} {held : Bool} {r : Reach} {b0 : Nat} {t e : TypeId} {k : IntKind} {v : Value} {d : DataW H} {p : List MemPlace}
    (ht : P.underlying t = some (.array 2 e)) (he : P.underlying e = some (.int k)) (hce : P.cellsOf e = 1) (hC : P.cellsOf t = 2)
    (hv : Value.okWide P w r b0 t v) (h : DataW.Trod enc P w base spare held t v d p) :
    ∃ m0 m1 : Int, v = .agg #[.int k m0, .int k m1] ∧ d = .agg [.lit (.int k m0), .lit (.int k m1)] ∧ p = [] ∧ (Lit.int k m0).wf = true ∧ (Lit.int k m1).wf = true := by
  obtain ⟨cs, rfl, hsz⟩ : ∃ cs, v = .agg cs ∧ cs.size = P.cellsOf t := by
    simp only [Value.okWide, ht] at hv
    obtain ⟨cs, h1, h2, _⟩ := hv
    exact ⟨cs, h1, h2⟩
  obtain ⟨c0, c1, rfl⟩ := array2 (hsz.trans hC)
  obtain ⟨fuel, hf⟩ := h
  obtain ⟨xs, m, _, hx, _, hn, hel⟩ := DataW.trod_array ht hf
  have h0 := hel 0 (by omega)
  have h1 := hel 1 (by omega)
  simp only [hce, Value.cells] at h0 h1
  match xs, hn, hx, h0, h1 with
  | [y0, y1], _, hx, h0, h1 =>
    obtain ⟨m0, e0, rfl, w0⟩ := DataW.trod_int he (show DataW.trod enc P w base spare held m e [c0] = some y0 from h0)
    obtain ⟨m1, e1, rfl, w1⟩ := DataW.trod_int he (show DataW.trod enc P w base spare held m e [c1] = some y1 from h1)
    simp only [List.cons.injEq, and_true] at e0 e1
    subst e0 e1
    simp only [Prod.mk.injEq, List.map_cons, List.map_nil] at hx
    exact ⟨m0, m1, rfl, hx.1, by rw [hx.2]; rfl, w0, w1⟩
theorem shut_row2 {H : Type} {enc : TypeId × Value → H} {P : Program} {w : World} {base : Nat} {spare : Nat → Bool} {held : Bool} {t e : TypeId} {k : IntKind} {m0 m1 : Int} (ht : P.underlying t = some (.array 2 e)) (he : P.underlying e = some (.int k)) (hce : P.cellsOf e = 1) (hC : P.cellsOf t = 2)
    (w0 : (Lit.int k m0).wf = true) (w1 : (Lit.int k m1).wf = true) :
    DataW.Trod enc P w base spare held t (.agg #[.int k m0, .int k m1]) (.agg [.lit (.int k m0), .lit (.int k m1)]) [] := by
  refine ⟨2, ?_⟩
  have r2 : List.range 2 = [0, 1] := rfl
  simp [DataW.trod, ht, he, hce, hC, r2, Value.cells, w0, w1]
end Go.Proofs.Ytnpjakgdfjaglaa
