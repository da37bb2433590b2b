/- A slice of parts that came in. -/
import Derived.Test.YtnblechnalnghaaPu
import Derived.Test.YtnblechnalnghaaRow
import Derived.Deep.Slices
import Derived.OpenShut
import Derived.ChangeArms
import Derived.Carry
import Derived.ChangeSlices
namespace Go.Proofs.Ytnblechnalnghaa
open Go.ChangeShapes Go.WideShapes Go.ChangeAt Go.RowKit Go.Joins En

def ptCells (L : List Pt) : List Value := L.flatMap Pt.cells
theorem ptCells_len (L : List Pt) : (ptCells L).length = 11 * L.length := by
  induction L with
  | nil => rfl
  | cons a L ih => simp only [ptCells, List.flatMap_cons, List.length_append, List.length_cons] at ih ⊢; rw [ih]; simp [Pt.cells]; omega
theorem ptCells_get (L : List Pt) (k : Nat) (h : k < L.length) (j : Nat) (hj : j < 11) : (ptCells L)[k * 11 + j]? = (L[k]).cells[j]? := by
  induction L generalizing k with
  | nil => simp at h
  | cons a L ih =>
    simp only [ptCells, List.flatMap_cons] at ih ⊢
    have hl : a.cells.length = 11 := rfl
    cases k with
    | zero =>
      rw [List.getElem?_append_left (by rw [hl]; omega)]; simp
    | succ k =>
      rw [List.getElem?_append_right (by rw [hl]; omega), hl, show (k + 1) * 11 + j - 11 = k * 11 + j by omega, ih k (by simpa using h)]
      rfl
theorem pt_cells {w : World} {B : Nat} {A : Option Addr} {L : List Pt} (h : Rs w B A (ptCells L)) (k : Nat) (hk : k < L.length) : ∃ b off, A = some ⟨b, off, none⟩ ∧ b < B ∧ ∀ j v, (L[k]).cells[j]? = some v → w.cell? ⟨b, off + k * 11 + j, none⟩ = some v := by
  have hl := ptCells_len L
  have g : ∀ j, j < 11 → ∃ v, (L[k]).cells[j]? = some v ∧ ∃ b off, A = some ⟨b, off, none⟩ ∧ b < B ∧ w.cell? ⟨b, off + (k * 11 + j), none⟩ = some v := fun j hj => by
    have hlt : k * 11 + j < (ptCells L).length := by omega
    obtain ⟨b, off, e, hb, hc⟩ := h (k * 11 + j) hlt
    have hg := ptCells_get L k hk j hj
    rw [List.getElem?_eq_getElem hlt] at hg
    exact ⟨_, hg.symm, b, off, e, hb, hc⟩
  obtain ⟨v0, e0, b, off, rfl, hb, h0⟩ := g 0 (by omega)
  refine ⟨b, off, rfl, hb, fun j v hv => ?_⟩
  have hj : j < 11 := by
    have := (List.getElem?_eq_some_iff.1 hv).1
    exact this
  obtain ⟨v1, e1, b1, off1, ea, _, h1⟩ := g j hj
  simp only [Option.some.injEq, Addr.mk.injEq, and_true] at ea
  obtain ⟨rfl, rfl⟩ := ea
  rw [e1] at hv
  injection hv with hv
  rw [← hv, Nat.add_assoc]; exact h1
section
variable {H : Type} {enc : TypeId × Value → H} {w : World} {base : Nat} {spare : Nat → Bool} {held : Bool} {fuel : Nat}
theorem eight {P : Program} {e t : TypeId} (ht : P.underlying t = some (.array 8 e)) (he : P.underlying e = some (.int .i64)) (hce : P.cellsOf e = 1) (hct : P.cellsOf t = 8) {cs : List Value} {x : DataW H × List MemPlace} (h : DataW.trod enc P w base spare held fuel t cs = some x) :
    ∃ n0 n1 n2 n3 n4 n5 n6 n7 : Int, cs = [.int .i64 n0, .int .i64 n1, .int .i64 n2, .int .i64 n3, .int .i64 n4, .int .i64 n5, .int .i64 n6, .int .i64 n7] ∧ ∀ n ∈ [n0, n1, n2, n3, n4, n5, n6, n7], In64 n := by
  obtain ⟨xs, m, _, _, hl, hxl, hg⟩ := DataW.trod_array ht h
  rw [hct] at hl
  have each : ∀ i, (hi : i < 8) → ∃ n : Int, cs[i]? = some (.int .i64 n) ∧ In64 n := fun i hi => by
    have h1 := hg i hi
    rw [hce, Nat.mul_one, List.getElem?_eq_getElem (by omega)] at h1
    obtain ⟨n, hn, _, hw⟩ := DataW.trod_int he h1
    refine ⟨n, ?_, bd64 hw⟩
    have h2 : ((cs.drop i).take 1)[0]? = some (.int .i64 n) := by rw [hn]; rfl
    rw [List.getElem?_take_of_lt (by omega), List.getElem?_drop, Nat.add_zero] at h2
    exact h2
  obtain ⟨n0, e0, i0⟩ := each 0 (by omega)
  obtain ⟨n1, e1, i1⟩ := each 1 (by omega)
  obtain ⟨n2, e2, i2⟩ := each 2 (by omega)
  obtain ⟨n3, e3, i3⟩ := each 3 (by omega)
  obtain ⟨n4, e4, i4⟩ := each 4 (by omega)
  obtain ⟨n5, e5, i5⟩ := each 5 (by omega)
  obtain ⟨n6, e6, i6⟩ := each 6 (by omega)
  obtain ⟨n7, e7, i7⟩ := each 7 (by omega)
  refine ⟨n0, n1, n2, n3, n4, n5, n6, n7, ?_, ?_⟩
  · obtain ⟨a0, a1, a2, a3, a4, a5, a6, a7, rfl⟩ : ∃ a0 a1 a2 a3 a4 a5 a6 a7, cs = [a0, a1, a2, a3, a4, a5, a6, a7] := by
      match cs, hl with
      | [a0, a1, a2, a3, a4, a5, a6, a7], _ => exact ⟨_, _, _, _, _, _, _, _, rfl⟩
    simp at e0 e1 e2 e3 e4 e5 e6 e7
    subst e0 e1 e2 e3 e4 e5 e6 e7
    rfl
  · intro n hn
    simp at hn
    rcases hn with rfl | rfl | rfl | rfl | rfl | rfl | rfl | rfl <;> assumption
set_option maxRecDepth 100000 in
theorem one_part {cs : List Value} {x : DataW H × List MemPlace} (h : DataW.trod enc Try.prog w base spare held fuel 47 cs = some x) :
    ∃ a : Pt, a.Ok ∧ cs = a.cells ∧ a.key.size ≤ 9223372036854775807 ∧ a.s.size ≤ 9223372036854775807 := by
  obtain ⟨xs, n, _, _, hl, hxl, hg⟩ := DataW.trod_struct Try.underlying47 h
  rw [show Try.prog.cellsOf 47 = 11 by kernel_rfl] at hl
  have h0 : DataW.trod enc Try.prog w base spare held n 5 ((cs.drop 0).take (Try.prog.cellsOf 5)) = xs[0]? := hg 0 _ rfl
  have h1 : DataW.trod enc Try.prog w base spare held n 45 ((cs.drop 1).take (Try.prog.cellsOf 45)) = xs[1]? := hg 1 _ rfl
  have h2 : DataW.trod enc Try.prog w base spare held n 9 ((cs.drop 9).take (Try.prog.cellsOf 9)) = xs[2]? := hg 2 _ rfl
  have h3 : DataW.trod enc Try.prog w base spare held n 9 ((cs.drop 10).take (Try.prog.cellsOf 9)) = xs[3]? := hg 3 _ rfl
  have hx : xs.length = 4 := hxl
  rw [List.getElem?_eq_getElem (by omega)] at h0 h1 h2 h3
  rw [show Try.prog.cellsOf 5 = 1 by kernel_rfl] at h0
  rw [show Try.prog.cellsOf 45 = 8 by kernel_rfl] at h1
  rw [show Try.prog.cellsOf 9 = 1 by kernel_rfl] at h2 h3
  obtain ⟨k, ek, _, wk⟩ := DataW.trod_int Try.underlying5 h0
  obtain ⟨n0, n1, n2, n3, n4, n5, n6, n7, en, hn⟩ := eight Try.underlying45 Try.underlying3 (by kernel_rfl) (by kernel_rfl) h1
  obtain ⟨key, eky, _, wkey⟩ := DataW.trod_string Try.underlying9 h2
  obtain ⟨s, es, _, ws⟩ := DataW.trod_string Try.underlying9 h3
  refine ⟨⟨k, n0, n1, n2, n3, n4, n5, n6, n7, key, s⟩, ?_, ?_, wkey, ws⟩
  · have hk : 0 ≤ k ∧ k ≤ 255 := by simpa [Lit.wf, IntKind.min, IntKind.max, IntKind.signed, IntKind.bits] using wk
    exact ⟨hk.1, hk.2, hn⟩
  · obtain ⟨a0, a1, a2, a3, a4, a5, a6, a7, a8, a9, a10, rfl⟩ : ∃ a0 a1 a2 a3 a4 a5 a6 a7 a8 a9 a10, cs = [a0, a1, a2, a3, a4, a5, a6, a7, a8, a9, a10] := by
      match cs, hl with
      | [a0, a1, a2, a3, a4, a5, a6, a7, a8, a9, a10], _ => exact ⟨_, _, _, _, _, _, _, _, _, _, _, rfl⟩
    simp at ek en eky es
    obtain ⟨rfl, rfl, rfl, rfl, rfl, rfl, rfl, rfl⟩ := en
    subst ek eky es
    rfl
end
set_option maxRecDepth 100000 in
/-- A slice of parts that came in. -/
theorem open_parts {H : Type} {enc : TypeId × Value → H} {W : World} {base : Nat} {v : Value} {d : DataW H} {p : List MemPlace} {r : Reach}
    (hv : Value.okWide Try.prog W r base 44 v) (h : DataW.Trod enc Try.prog W 0 (fun _ => true) true 44 v d p) (lt : ∀ x ∈ p, x.block < W.heap.size) :
    ∃ (A : Option Addr) (c : Nat) (L : List Pt), v = .slice A L.length c ∧ L.length ≤ 9223372036854775807 ∧ (∀ a ∈ L, a.Ok ∧ a.key.size ≤ 9223372036854775807 ∧ a.s.size ≤ 9223372036854775807) ∧ Rs W W.heap.size A (ptCells L) := by
  obtain ⟨A, n, c, rfl⟩ := okWide_slice Try.underlying44 hv
  obtain ⟨fuel, hf⟩ := h
  rcases Deep.open_slice Try.underlying44 hf with ⟨hcs, hx⟩ | ⟨a, len, cap, m, n', D, Pl, hcs, _, hl, hm, hz, hx, hi⟩
  · simp only [Value.cells, List.cons.injEq, Value.slice.injEq, and_true] at hcs
    obtain ⟨rfl, rfl, rfl⟩ := hcs
    exact ⟨none, 0, [], rfl, Nat.zero_le _, fun x hx => absurd hx (by simp), Rs.nil⟩
  · simp only [Value.cells, List.cons.injEq, Value.slice.injEq, and_true] at hcs
    obtain ⟨rfl, rfl, rfl⟩ := hcs
    simp only [Prod.mk.injEq] at hx
    unfold maxLen at hm
    simp only [if_true] at hz
    have hC : Try.prog.cellsOf 47 = 11 := by kernel_rfl
    have each : ∀ i, ∃ q : Pt, i < n → (q.Ok ∧ q.key.size ≤ 9223372036854775807 ∧ q.s.size ≤ 9223372036854775807 ∧ ∀ j, j < 11 → W.cell? ((a.add (i * 11)).add j) = q.cells[j]?) := fun i => by
      by_cases hin : i < n
      · obtain ⟨cs', hc, ht⟩ := hi i (by omega)
        obtain ⟨q, hq, hcq, hk, hs⟩ := one_part ht
        rw [hC] at hc
        obtain ⟨_, _, hat⟩ := World.cells?_some hc
        exact ⟨q, fun _ => ⟨hq, hk, hs, fun j hj => by rw [hat j hj, hcq]⟩⟩
      · exact ⟨⟨0, 0, 0, 0, 0, 0, 0, 0, 0, ⟨#[]⟩, ⟨#[]⟩⟩, fun h => absurd h hin⟩
    obtain ⟨f, hf'⟩ := Classical.axiomOfChoice each
    refine ⟨some a, c, (List.range n).map f, by simp, by simp; omega, fun q hq => ?_, fun j hj => ?_⟩
    · obtain ⟨i, hi2, rfl⟩ := List.mem_map.1 hq
      have := hf' i (List.mem_range.1 hi2)
      exact ⟨this.1, this.2.1, this.2.2.1⟩
    · rw [ptCells_len] at hj
      simp only [List.length_map, List.length_range] at hj
      have hk : j / 11 < n := by omega
      have hkl : j / 11 < ((List.range n).map f).length := by simpa using hk
      have hg := ptCells_get ((List.range n).map f) (j / 11) hkl (j % 11) (by omega)
      rw [show j / 11 * 11 + j % 11 = j by omega] at hg
      rw [List.getElem?_eq_getElem (by rw [ptCells_len]; simp; omega)] at hg
      obtain ⟨_, _, _, hcell⟩ := hf' (j / 11) hk
      have hc := hcell (j % 11) (by omega)
      have hel : ((List.range n).map f)[j / 11] = f (j / 11) := by simp
      rw [hel] at hg
      rw [← hg] at hc
      obtain ⟨b, off, spot⟩ := a
      have hspot : spot = none := by
        have h0 := (hf' 0 (by omega)).2.2.2 0 (by omega)
        have e0 : (f 0).cells[0]? = some (.int .u8 (f 0).k) := rfl
        rw [e0] at h0
        simpa [Addr.add] using World.cell?_spot h0
      subst hspot
      refine ⟨b, off, rfl, lt (.cell b off) (by rw [hx.2]; exact List.mem_append_left _ (MemPlace.mem_row.2 ⟨0, by rw [hC]; omega, by simp⟩)), ?_⟩
      rw [add_flat, add_flat, show off + j / 11 * 11 + j % 11 = off + j by omega] at hc
      rw [hc]
end Go.Proofs.Ytnblechnalnghaa
