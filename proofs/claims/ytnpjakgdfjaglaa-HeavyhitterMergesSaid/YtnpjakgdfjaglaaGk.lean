/- Summaries in memory; New. -/
import Derived.Test.YtnpjakgdfjaglaaGj
namespace Go.Proofs.Ytnpjakgdfjaglaa
open Go.ChangeShapes Go.WideShapes Go.ChangeAt Go.RowKit Go.Joins

theorem CRempty {w : World} : SlV w (.slice none 0 0) [] := ⟨none, 0, rfl, Nat.le_refl _, fun _ => rfl, CR.nil⟩
theorem SlV.below {w w' : World} {v : Value} {L : List Ct} (h : SlV w v L) (hb : Below w.heap.size w w') : SlV w' v L := by
  obtain ⟨A, c, rfl, h1, h2, h3⟩ := h
  exact ⟨A, c, rfl, h1, h2, h3.below hb⟩
/-- A value that reads as a summary. -/
def SuV (w : World) (v : Value) (s : Su) : Prop := ∃ u, v = .agg #[.int .i64 s.mo, .int .i64 s.to, .int .i64 s.lo, u] ∧ SlV w u s.cs
theorem SuV.below {w w' : World} {v : Value} {s : Su} (h : SuV w v s) (hb : Below w.heap.size w w') : SuV w' v s := by
  obtain ⟨u, rfl, h⟩ := h
  exact ⟨u, rfl, h.below hb⟩
def su0 : Su := ⟨0, 0, 0, []⟩
/-- New's answer. -/
def neS (n : Int) : Su × Int := if 1 ≤ n ∧ n ≤ 256 then (⟨n, 0, 0, []⟩, 0) else (su0, 2)
theorem frz {w : World} {g : Nat} {cs : Array Value} {t : TypeId} (h : w.heap[g]? = some (.cells cs t (0, 0))) (k : Nat) : w.frozen? ⟨g, k, none⟩ = false := by simp [World.frozen?, h]
set_option maxRecDepth 100000 in
set_option maxHeartbeats 1000000 in
theorem new_any (n : Int) (w : World) : Calls Try.prog 14 #[.int .i64 n] w fun e w' => (∃ v, e = .returned (.tuple #[v, .int .i64 (neS n).2]) ∧ SuV w' v (neS n).1) ∧ Below w.heap.size w w' := by
  have HBt := Lib.hid (fun W => between22_any n 1 256 W)
  have HB0 := Lib.hid ((Below.refl w.heap.size w).alloc (Nat.le_refl _) (.cells #[.int .i64 0, .int .i64 0, .int .i64 0, .slice none 0 0] 24))
  go_enter Try.func14, Try.ntmps14
  go_wp2_with fail
  refine (HBt.out _).mono ?_
  rintro e w1 ⟨rfl, rfl⟩
  by_cases h : 1 ≤ n ∧ n ≤ 256
  · have d1 : decide (1 ≤ n) = true := by simpa using h.1
    have d2 : decide (n ≤ 256) = true := by simpa using h.2
    go_wp2_with fail
    refine bodyPost_ret (v := .tuple #[.agg #[.int .i64 n, .int .i64 0, .int .i64 0, .slice none 0 0], .int .i64 0]) ?_ rfl ⟨⟨_, by rw [neS, if_pos h], ?_⟩, ?_⟩
    · rw [results_cell_tmp1 rfl]; go_simp <;> rfl
    · rw [neS, if_pos h]; exact ⟨_, rfl, CRempty⟩
    · first | exact HB0.out | skip
      first | exact (Below.refl _ _).alloc (Nat.le_refl _) _ | skip
  · have d1 : (decide (1 ≤ n) && decide (n ≤ 256)) = false := by simpa using h
    go_wp2_with fail
    refine bodyPost_ret (v := .tuple #[.agg #[.int .i64 0, .int .i64 0, .int .i64 0, .slice none 0 0], .int .i64 2]) ?_ rfl ⟨⟨_, by rw [neS, if_neg h], ?_⟩, ?_⟩
    · rw [results_cell_tmp1 rfl]; go_simp <;> rfl
    · rw [neS, if_neg h]; exact ⟨_, rfl, CRempty⟩
    · first | exact HB0.out | skip
      first | exact (Below.refl _ _).alloc (Nat.le_refl _) _ | skip
end Go.Proofs.Ytnpjakgdfjaglaa
