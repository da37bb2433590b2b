/- What a law's walk carries: boxes; a stream's summary in letters. -/
import Derived.Test.YtnpjakgdfjaglaaHg
import Derived.Test.YtnpjakgdfjaglaaHh
import Derived.Test.YtnpjakgdfjaglaaHi
import Derived.Test.YtnpjakgdfjaglaaGv
namespace Go.Proofs.Ytnpjakgdfjaglaa
open Go.ChangeShapes Go.WideShapes Go.ChangeAt Go.RowKit Go.Joins

theorem blk_carry {w w' : World} {g : Nat} {o : Obj} (h : w.heap[g]? = some o) (hb : Below w.heap.size w w') : w'.heap[g]? = some o := (hb.block g (Array.getElem?_eq_some_iff.1 h).1).trans h
/-- A stream's summary in letters. -/
theorem stream_let (m : Int) (h1 : 1 ≤ m ∧ m ≤ 256) (A : Option Addr) (c : Nat) (L : List It) (hL : L.length ≤ 9223372036854775807) (hI : ∀ x ∈ L, ItOk x) (w : World) (hR : IR w A L) :
    ∃ mo to lo cs, (⟨mo, to, lo, cs⟩ : Su) = stL (m) (L.take 60) ∧ Sl22 ⟨mo, to, lo, cs⟩ ∧ Gd ⟨mo, to, lo, cs⟩ (exL (L.take 60)) ∧ mo = m ∧ to = toL (L.take 60) ∧ to ≤ 1920 ∧
    Calls Try.prog 18 #[.int .i64 (m), .slice A L.length c] w fun e w' => (∃ A' c', e = .returned (.agg #[.int .i64 mo, .int .i64 to, .int .i64 lo, .slice A' cs.length c']) ∧ SlV w' (.slice A' cs.length c') cs ∧ Flat A') ∧ Below w.heap.size w w' := by
  have hc := stream_any (m) h1 A c L hL hI w hR
  have hs := st_small (mo := m) h1 (L.take 60) (by rw [List.length_take]; omega)
  have hg := st_gd (mo := m) h1.1 (L.take 60)
  have hm := st_mo (m) (L.take 60)
  have ht := st_to (m) (L.take 60)
  have hb := toL_bd (L.take 60)
  rw [List.length_take] at hb
  obtain ⟨s, hs'⟩ : ∃ s, s = stL (m) (L.take 60) := ⟨_, rfl⟩
  rw [← hs'] at hc hs hg hm ht
  obtain ⟨mo, to, lo, cs⟩ := s
  refine ⟨mo, to, lo, cs, hs', hs, hg, hm, ht, by have ht : to = _ := ht; omega, hc.mono ?_⟩
  rintro e w' ⟨⟨u, rfl, A', c', rfl, h1, h2⟩, hb⟩
  exact ⟨⟨A', c', rfl, h1, h2⟩, hb⟩
end Go.Proofs.Ytnpjakgdfjaglaa
