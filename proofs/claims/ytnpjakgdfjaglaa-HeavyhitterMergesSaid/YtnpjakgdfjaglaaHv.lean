/- A summary's row is stored as a whole. -/
import Derived.Test.YtnpjakgdfjaglaaGl
namespace Go.Proofs.Ytnpjakgdfjaglaa
open Go.ChangeShapes Go.WideShapes Go.ChangeAt Go.RowKit Go.Joins

theorem slv_one {w : World} {v : Value} {L : List Ct} (h : SlV w v L) : v.oneCell' = true := by
  obtain ⟨A, c, rfl, _⟩ := h; rfl
theorem one_rows {v : Value} (h : v.oneCell' = true) (a b c : Int) : (#[Value.int .i64 a, .int .i64 b, .int .i64 c, v] : Array Value).all (·.oneCell') = true := by simp [h]; simp [Value.oneCell']
theorem slv_setRow {w : World} {v : Value} {L : List Ct} {g : Nat} {old cs : Array Value} (h : SlV w v L) (ho : w.heap[g]? = some (.cells old 24 (0, 0))) : SlV (w.setRow g cs) v L := by
  obtain ⟨A, c, rfl, h1, h2, h3⟩ := h
  refine ⟨A, c, rfl, h1, h2, h3.keep (fun b cs2 hb => setRow_other _ _ _ _ (fun e => ?_))⟩
  subst e
  rw [ho] at hb
  injection hb with hb
  injection hb with _ hb
  exact absurd hb (by decide)
end Go.Proofs.Ytnpjakgdfjaglaa
