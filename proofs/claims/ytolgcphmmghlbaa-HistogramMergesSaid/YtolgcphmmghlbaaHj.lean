/- Slices of buckets that come in; Check, and the law's check. -/
import Derived.Test.YtolgcphmmghlbaaHi
import Derived.Below
import Derived.BigQuiet
import Derived.Carry
import Derived.ChangeAlike
import Derived.ChangeArms
import Derived.ChangeSame
import Derived.ChangeSlices
import Derived.Deep.Heap
import Derived.Deep.QuietTactic
import Derived.Deep.Slices
import Derived.Handy
import Derived.IntWalk
import Derived.JoinedAt
import Derived.JoinedOf
import Derived.Lib.Hide
import Derived.Lib.SmallJoins
import Derived.OpenShut
import Derived.Outline
import Derived.OwnWalk
import Derived.ProofKit
import Derived.RegionTactic
import Derived.RowKit3
import Derived.SliceStrings
import Derived.WalkKit
namespace Go.Proofs.Ytolgcphmmghlbaa
open Go.ChangeShapes Go.WideShapes Go.ChangeAt Go.RowKit Go.Joins
section
variable {H : Type} {enc : TypeId × Value → H} {P : Program} {W : World}
/-- A slice of structs (of some cells each) that came in. -/
theorem open_rows {α : Type} (a0 : α) {t e : TypeId} (ht : P.underlying t = some (.slice e)) (k : Nat) (hk : 0 < k) (hC : P.cellsOf e = k) (C : α → List Value) (hCl : ∀ a, (C a).length = k) (Q : α → Prop)
    (hel : ∀ n cs x, DataW.trod enc P W 0 (fun _ => true) true n e cs = some x → ∃ a, Q a ∧ cs = C a) {fuel : Nat} {cs : List Value} {x : DataW H × List MemPlace} (h : DataW.trod enc P W 0 (fun _ => true) true fuel t cs = some x) (lt : ∀ p ∈ x.2, p.block < W.heap.size) :
    ∃ (A : Option Addr) (c : Nat) (L : List α), cs = [.slice A L.length c] ∧ L.length ≤ 9223372036854775807 ∧ (∀ a ∈ L, Q a) ∧ Rs W W.heap.size A (L.flatMap C) := by
  rcases Deep.open_slice ht h with ⟨rfl, hx⟩ | ⟨a, n, c, m, n', D, Pl, rfl, _, hl, hm, hz, hx, hi⟩
  · exact ⟨none, 0, [], rfl, Nat.zero_le _, fun x hx => absurd hx (by simp), Rs.nil⟩
  · unfold maxLen at hm
    simp only [if_true] at hz
    rw [hC] at hi
    have each : ∀ i, ∃ q : α, i < n → (Q q ∧ ∀ j, j < k → W.cell? ((a.add (i * k)).add j) = (C q)[j]?) := fun i => by
      by_cases hin : i < n
      · obtain ⟨cs', hc, ht'⟩ := hi i (by omega)
        obtain ⟨q, hq, hcq⟩ := hel _ _ _ ht'
        obtain ⟨_, _, hat⟩ := World.cells?_some hc
        exact ⟨q, fun _ => ⟨hq, fun j hj => by rw [hat j hj, hcq]⟩⟩
      · exact ⟨a0, fun h => absurd h hin⟩
    obtain ⟨f, hf⟩ := Classical.axiomOfChoice each
    refine ⟨some a, c, (List.range n).map f, by simp, by simp; omega, fun q hq => ?_, fun j hj => ?_⟩
    · obtain ⟨i, hi2, rfl⟩ := List.mem_map.1 hq
      exact (hf i (List.mem_range.1 hi2)).1
    · have hj2 := hj
      rw [flat_len C k hCl] at hj2
      simp only [List.length_map, List.length_range] at hj2
      have hjk : j / k < n := (Nat.div_lt_iff_lt_mul hk).2 hj2
      have hn0 : 0 < n := Nat.lt_of_le_of_lt (Nat.zero_le _) hjk
      have hg := flat_get C k hCl ((List.range n).map f) (j / k) (by simpa using hjk) (j % k) (Nat.mod_lt _ hk)
      have hdm : j / k * k + j % k = j := by rw [Nat.mul_comm]; exact Nat.div_add_mod j k
      rw [hdm, List.getElem?_eq_getElem hj] at hg
      have hc := (hf (j / k) hjk).2 (j % k) (Nat.mod_lt _ hk)
      have hel2 : ((List.range n).map f)[j / k]'(by simpa using hjk) = f (j / k) := by simp
      rw [hel2] at hg
      rw [← hg] at hc
      obtain ⟨b, off, spot⟩ := a
      have hspot : spot = none := by
        have h0 := (hf 0 hn0).2 0 hk
        rw [List.getElem?_eq_getElem (by rw [hCl]; exact hk)] at h0
        simpa [Addr.add] using World.cell?_spot h0
      subst hspot
      refine ⟨b, off, rfl, lt (.cell b off) (by rw [hx]; exact List.mem_append_left _ (MemPlace.mem_row.2 ⟨0, by rw [hC, hz]; exact Nat.mul_pos (by omega) hk, by simp⟩)), ?_⟩
      rw [add_flat, add_flat, show off + j / k * k + j % k = off + j by omega] at hc
      rw [hc]
end
end Go.Proofs.Ytolgcphmmghlbaa
namespace Go.Proofs.Ytolgcphmmghlbaa
open Go.ChangeShapes Go.WideShapes Go.ChangeAt Go.RowKit Go.Joins
theorem bd64 {a : Int} (w : (Lit.int .i64 a).wf = true) : -9223372036854775808 ≤ a ∧ a ≤ 9223372036854775807 := by
  simpa [Lit.wf, IntKind.min, IntKind.max, IntKind.signed, IntKind.bits] using w
def IvOk (x : Iv) : Prop := (-9223372036854775808 ≤ x.1 ∧ x.1 ≤ 9223372036854775807) ∧ (-9223372036854775808 ≤ x.2 ∧ x.2 ≤ 9223372036854775807)

set_option maxRecDepth 100000 in
theorem one_bk {H : Type} {enc : TypeId × Value → H} {w : World} {base : Nat} {spare : Nat → Bool} {held : Bool} {fuel : Nat} {cs : List Value} {x : DataW H × List MemPlace} (h : DataW.trod enc Try.prog w base spare held fuel 66 cs = some x) : ∃ a : Iv, IvOk a ∧ cs = ivC a := by
  obtain ⟨xs, n, _, _, hl, hxl, hg⟩ := DataW.trod_struct Try.underlying66 h
  rw [show Try.prog.cellsOf 66 = 2 by kernel_rfl] at hl
  have hx : xs.length = 2 := hxl
  have h0 : DataW.trod enc Try.prog w base spare held n 3 ((cs.drop 0).take (Try.prog.cellsOf 3)) = xs[0]? := hg 0 _ rfl
  have h1 : DataW.trod enc Try.prog w base spare held n 3 ((cs.drop 1).take (Try.prog.cellsOf 3)) = xs[1]? := hg 1 _ rfl
  rw [List.getElem?_eq_getElem (by omega)] at h0 h1
  rw [show Try.prog.cellsOf 3 = 1 by kernel_rfl] at h0 h1
  obtain ⟨k, e0, _, w0⟩ := DataW.trod_int Try.underlying3 h0
  obtain ⟨m, e1, _, w1⟩ := DataW.trod_int Try.underlying3 h1
  refine ⟨(k, m), ⟨bd64 w0, bd64 w1⟩, ?_⟩
  obtain ⟨a0, a1, rfl⟩ : ∃ a0 a1, cs = [a0, a1] := by
    match cs, hl with
    | [a0, a1], _ => exact ⟨_, _, rfl⟩
  simp at e0 e1
  subst e0 e1
  rfl
set_option maxRecDepth 100000 in
/-- A slice of buckets that came in. -/
theorem open_bks {H : Type} {enc : TypeId × Value → H} {W : World} {base : Nat} {v : Value} {d : DataW H} {p : List MemPlace} {r : Reach}
    (hv : Value.okWide Try.prog W r base 30 v) (h : DataW.Trod enc Try.prog W 0 (fun _ => true) true 30 v d p) (lt : ∀ x ∈ p, x.block < W.heap.size) :
    ∃ (A : Option Addr) (c : Nat) (L : List Iv), v = .slice A L.length c ∧ L.length ≤ 9223372036854775807 ∧ (∀ x ∈ L, IvOk x) ∧ Rs W W.heap.size A (ivCells L) := by
  obtain ⟨A, n, c, rfl⟩ := okWide_slice Try.underlying30 hv
  obtain ⟨fuel, hf⟩ := h
  obtain ⟨A', c', L, e, hl, hok, hR⟩ := open_rows ((0, 0) : Iv) Try.underlying30 2 (by decide) (by kernel_rfl) ivC (fun _ => rfl) IvOk (fun _ _ _ h => one_bk h) hf lt
  simp only [Value.cells, List.cons.injEq, Value.slice.injEq, and_true] at e
  obtain ⟨rfl, rfl, rfl⟩ := e
  exact ⟨_, _, L, rfl, hl, hok, hR⟩
/-- The first error of buckets, behind an index, with a total. -/
def chkL (p : Option Int) (t : Int) : List Iv → Int
  | [] => if 1048576 < t then 20 else 0
  | x :: L => if (decide (0 ≤ x.1) && decide (x.1 < 305)) = false then 2 else if (p.any fun q => decide (x.1 ≤ q)) = true then 8 else if x.2 < 1 ∨ 1048576 < x.2 then 2 else chkL (some x.1) (t + x.2) L
/-- The index before a bucket. -/
def prevE (L : List Iv) : Nat → Option Int
  | 0 => none
  | j + 1 => (L[j]?).map Prod.fst
theorem chk_step (L : List Iv) (t : Int) (j : Nat) (h : j < L.length) : chkL (prevE L j) t (L.drop j) = if (decide (0 ≤ L[j].1) && decide (L[j].1 < 305)) = false then 2 else if ((prevE L j).any fun q => decide (L[j].1 ≤ q)) = true then 8 else if L[j].2 < 1 ∨ 1048576 < L[j].2 then 2 else chkL (prevE L (j + 1)) (t + L[j].2) (L.drop (j + 1)) := by
  rw [List.drop_eq_getElem_cons h]
  have e : prevE L (j + 1) = some L[j].1 := by show (L[j]?).map Prod.fst = _; rw [List.getElem?_eq_getElem h]; rfl
  rw [e]; rfl
end Go.Proofs.Ytolgcphmmghlbaa
