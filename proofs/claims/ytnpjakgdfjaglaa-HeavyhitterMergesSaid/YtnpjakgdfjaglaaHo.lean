/- Lists of items in memory; items and lists of them as arguments. -/
import Derived.Test.YtnpjakgdfjaglaaHc
import Derived.Deep.Heap
import Derived.Deep.Slices
import Derived.OpenShut
import Derived.RowKit3
namespace Go.Proofs.Ytnpjakgdfjaglaa
open Go.ChangeShapes Go.WideShapes Go.ChangeAt Go.RowKit Go.Joins
section
variable {H : Type} {enc : TypeId × Value → H} {P : Program} {W : World}
/-- A slice of structs (of some cells each) that came in. -/
theorem open_rows {α : Type} (a0 : α) {t e : TypeId} (ht : P.underlying t = some (.slice e)) (k : Nat) (hk : 0 < k) (hC : P.cellsOf e = k) (C : α → List Value) (hCl : ∀ a, (C a).length = k) (Q : α → Prop)
    (hel : ∀ n cs x, DataW.trod enc P W 0 (fun _ => true) true n e cs = some x → ∃ a, Q a ∧ cs = C a) {fuel : Nat} {cs : List Value} {x : DataW H × List MemPlace} (h : DataW.trod enc P W 0 (fun _ => true) true fuel t cs = some x) (lt : ∀ p ∈ x.2, p.block < W.heap.size) :
    ∃ (A : Option Addr) (c : Nat) (L : List α), cs = [.slice A L.length c] ∧ L.length ≤ 9223372036854775807 ∧ L.length ≤ c ∧ (A = none → c = 0) ∧ (∀ a ∈ L, Q a) ∧ Rs W W.heap.size A (L.flatMap C) := by
  rcases Deep.open_slice ht h with ⟨rfl, hx⟩ | ⟨a, n, c, m, n', D, Pl, rfl, _, hl, hm, hz, hx, hi⟩
  · exact ⟨none, 0, [], rfl, Nat.zero_le _, Nat.zero_le _, fun _ => rfl, fun x hx => absurd hx (by simp), Rs.nil⟩
  · unfold maxLen at hm
    simp only [if_true] at hz
    rw [hC] at hi
    have each : ∀ i, ∃ q : α, i < n → (Q q ∧ ∀ j, j < k → W.cell? ((a.add (i * k)).add j) = (C q)[j]?) := fun i => by
      by_cases hin : i < n
      · obtain ⟨cs', hc, ht'⟩ := hi i (by omega)
        obtain ⟨q, hq, hcq⟩ := hel _ _ _ ht'
        obtain ⟨_, _, hat⟩ := World.cells?_some hc
        exact ⟨q, fun _ => ⟨hq, fun j hj => by rw [hat j hj, hcq]⟩⟩
      · exact ⟨a0, fun h => absurd h hin⟩
    obtain ⟨f, hf⟩ := Classical.axiomOfChoice each
    refine ⟨some a, c, (List.range n).map f, by simp, by simp; omega, by simp; omega, (fun e => nomatch e), fun q hq => ?_, fun j hj => ?_⟩
    · obtain ⟨i, hi2, rfl⟩ := List.mem_map.1 hq
      exact (hf i (List.mem_range.1 hi2)).1
    · have hj2 := hj
      rw [flat_len C k hCl] at hj2
      simp only [List.length_map, List.length_range] at hj2
      have hjk : j / k < n := (Nat.div_lt_iff_lt_mul hk).2 hj2
      have hn0 : 0 < n := Nat.lt_of_le_of_lt (Nat.zero_le _) hjk
      have hg := flat_get C k hCl ((List.range n).map f) (j / k) (by simpa using hjk) (j % k) (Nat.mod_lt _ hk)
      have hdm : j / k * k + j % k = j := by rw [Nat.mul_comm]; exact Nat.div_add_mod j k
      rw [hdm, List.getElem?_eq_getElem hj] at hg
      have hc := (hf (j / k) hjk).2 (j % k) (Nat.mod_lt _ hk)
      have hel2 : ((List.range n).map f)[j / k]'(by simpa using hjk) = f (j / k) := by simp
      rw [hel2] at hg
      rw [← hg] at hc
      obtain ⟨b, off, spot⟩ := a
      have hspot : spot = none := by
        have h0 := (hf 0 hn0).2 0 hk
        rw [List.getElem?_eq_getElem (by rw [hCl]; exact hk)] at h0
        simpa [Addr.add] using World.cell?_spot h0
      subst hspot
      refine ⟨b, off, rfl, lt (.cell b off) (by rw [hx]; exact List.mem_append_left _ (MemPlace.mem_row.2 ⟨0, by rw [hC, hz]; exact Nat.mul_pos (by omega) hk, by simp⟩)), ?_⟩
      rw [add_flat, add_flat, show off + j / k * k + j % k = off + j by omega] at hc
      rw [hc]
end
def itC (x : It) : List Value := [.int .u8 (x.1 : Int), .int .u8 (x.2 : Int)]
def itCells (L : List It) : List Value := L.flatMap itC
/-- An item is of two bytes. -/
def ItOk (x : It) : Prop := x.1 ≤ 255 ∧ x.2 ≤ 255
/-- The slice at A reads as the items L. -/
def IR (w : World) (A : Option Addr) (L : List It) : Prop :=
  ∀ j (h : j < L.length), ∃ b off, A = some ⟨b, off, none⟩ ∧ b < w.heap.size ∧ w.cell? ⟨b, off + j * 2, none⟩ = some (.int .u8 (L[j].1 : Int)) ∧ w.cell? ⟨b, off + j * 2 + 1, none⟩ = some (.int .u8 (L[j].2 : Int))
theorem IR.of {w : World} {A : Option Addr} {L : List It} (h : Rs w w.heap.size A (itCells L)) : IR w A L := fun j hj => by
  have hl : (itCells L).length = L.length * 2 := flat_len itC 2 (fun _ => rfl) L
  have g0 := flat_get itC 2 (fun _ => rfl) L j hj 0 (by decide)
  have g1 := flat_get itC 2 (fun _ => rfl) L j hj 1 (by decide)
  obtain ⟨b, off, e, hb, h0⟩ := h (j * 2) (by omega)
  obtain ⟨b', off', e', _, h1⟩ := h (j * 2 + 1) (by omega)
  rw [e] at e'
  injection e' with e'
  injection e' with e1 e2
  subst e1 e2
  refine ⟨b, off, e, hb, ?_, ?_⟩
  · rw [h0]
    rw [show L.flatMap itC = itCells L from rfl, List.getElem?_eq_getElem (by omega)] at g0
    exact g0
  · rw [show off + j * 2 + 1 = off + (j * 2 + 1) by omega, h1]
    rw [show L.flatMap itC = itCells L from rfl, List.getElem?_eq_getElem (by omega)] at g1
    exact g1
theorem IR.below {w w' : World} {A : Option Addr} {L : List It} (h : IR w A L) (hb : Below w.heap.size w w') : IR w' A L := fun j hj => by
  obtain ⟨b, off, e, hl, h0, h1⟩ := h j hj
  exact ⟨b, off, e, Nat.lt_of_lt_of_le hl hb.size, (hb.cell (p := ⟨b, off + j * 2, none⟩) hl).trans h0, (hb.cell (p := ⟨b, off + j * 2 + 1, none⟩) hl).trans h1⟩
theorem IR.nil {w : World} {A : Option Addr} : IR w A [] := fun j hj => absurd hj (by simp)
theorem IR.take {w : World} {A : Option Addr} {L : List It} (h : IR w A L) (n : Nat) : IR w A (L.take n) := fun j hj => by
  rw [List.length_take] at hj
  obtain ⟨b, off, e, hl, h0, h1⟩ := h j (by omega)
  rw [List.getElem_take]
  exact ⟨b, off, e, hl, h0, h1⟩
theorem IR.drop {w : World} {b off : Nat} {L : List It} (h : IR w (some ⟨b, off, none⟩) L) (n : Nat) : IR w (some ⟨b, off + n * 2, none⟩) (L.drop n) := fun j hj => by
  rw [List.length_drop] at hj
  obtain ⟨b', off', e, hl, h0, h1⟩ := h (n + j) (by omega)
  injection e with e
  injection e with e1 e2
  subst e1 e2
  rw [List.getElem_drop]
  refine ⟨_, _, rfl, hl, ?_, ?_⟩
  · rw [← h0]; congr 2; omega
  · rw [← h1]; congr 2; omega
theorem bd8 {a : Int} (w : (Lit.int .u8 a).wf = true) : 0 ≤ a ∧ a ≤ 255 := by
  simpa [Lit.wf, IntKind.min, IntKind.max, IntKind.signed, IntKind.bits] using w
theorem bd64 {a : Int} (w : (Lit.int .i64 a).wf = true) : -9223372036854775808 ≤ a ∧ a ≤ 9223372036854775807 := by
  simpa [Lit.wf, IntKind.min, IntKind.max, IntKind.signed, IntKind.bits] using w
set_option maxRecDepth 100000 in
theorem one_it {H : Type} {enc : TypeId × Value → H} {w : World} {base : Nat} {spare : Nat → Bool} {held : Bool} {fuel : Nat} {cs : List Value} {x : DataW H × List MemPlace} (h : DataW.trod enc Try.prog w base spare held fuel 44 cs = some x) : ∃ a : It, ItOk a ∧ cs = itC a := by
  obtain ⟨xs, n, _, _, hl, hxl, hg⟩ := DataW.trod_struct Try.underlying44 h
  rw [show Try.prog.cellsOf 44 = 2 by kernel_rfl] at hl
  have hx : xs.length = 2 := hxl
  have h0 : DataW.trod enc Try.prog w base spare held n 5 ((cs.drop 0).take (Try.prog.cellsOf 5)) = xs[0]? := hg 0 _ rfl
  have h1 : DataW.trod enc Try.prog w base spare held n 5 ((cs.drop 1).take (Try.prog.cellsOf 5)) = xs[1]? := hg 1 _ rfl
  rw [List.getElem?_eq_getElem (by omega)] at h0 h1
  rw [show Try.prog.cellsOf 5 = 1 by kernel_rfl] at h0 h1
  obtain ⟨k, e0, _, w0⟩ := DataW.trod_int Try.underlying5 h0
  obtain ⟨m, e1, _, w1⟩ := DataW.trod_int Try.underlying5 h1
  have b0 := bd8 w0
  have b1 := bd8 w1
  obtain ⟨k, rfl⟩ : ∃ u : Nat, k = (u : Int) := ⟨k.toNat, by omega⟩
  obtain ⟨m, rfl⟩ : ∃ u : Nat, m = (u : Int) := ⟨m.toNat, by omega⟩
  refine ⟨(k, m), ⟨by show k ≤ 255; omega, by show m ≤ 255; omega⟩, ?_⟩
  obtain ⟨a0, a1, rfl⟩ : ∃ a0 a1, cs = [a0, a1] := by
    match cs, hl with
    | [a0, a1], _ => exact ⟨_, _, rfl⟩
  simp at e0 e1
  subst e0 e1
  rfl
set_option maxRecDepth 100000 in
/-- A slice of items that came in. -/
theorem open_its {H : Type} {enc : TypeId × Value → H} {W : World} {base : Nat} {v : Value} {d : DataW H} {p : List MemPlace} {r : Reach}
    (hv : Value.okWide Try.prog W r base 34 v) (h : DataW.Trod enc Try.prog W 0 (fun _ => true) true 34 v d p) (lt : ∀ x ∈ p, x.block < W.heap.size) :
    ∃ (A : Option Addr) (c : Nat) (L : List It), v = .slice A L.length c ∧ L.length ≤ 9223372036854775807 ∧ L.length ≤ c ∧ (A = none → c = 0) ∧ (∀ x ∈ L, ItOk x) ∧ IR W A L := by
  obtain ⟨A, n, c, rfl⟩ := okWide_slice Try.underlying34 hv
  obtain ⟨fuel, hf⟩ := h
  obtain ⟨A', c', L, e, hl, hc, hn, hok, hR⟩ := open_rows ((0, 0) : It) Try.underlying34 2 (by decide) (by kernel_rfl) itC (fun _ => rfl) ItOk (fun _ _ _ h => one_it h) hf lt
  simp only [Value.cells, List.cons.injEq, Value.slice.injEq, and_true] at e
  obtain ⟨rfl, rfl, rfl⟩ := e
  exact ⟨_, _, L, rfl, hl, hc, hn, hok, IR.of hR⟩
end Go.Proofs.Ytnpjakgdfjaglaa
