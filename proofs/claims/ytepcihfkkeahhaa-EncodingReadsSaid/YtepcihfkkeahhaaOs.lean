/- A span that came in. -/
import Derived.Test.YtepcihfkkeahhaaSh
import Derived.Test.YtepcihfkkeahhaaRm
import Derived.Deep.Slices
import Derived.OpenShut
import Derived.ChangeArms
import Derived.Lib.SmallJoins
namespace Go.Proofs.Ytepcihfkkeahhaa
open Go.ChangeShapes Go.WideShapes Go.ChangeAt Go.RowKit Go.Joins En

theorem flat_len {α : Type} (C : α → List Value) (k : Nat) (hC : ∀ a, (C a).length = k) (L : List α) : (L.flatMap C).length = L.length * k := by
  induction L with
  | nil => simp
  | cons a L ih => rw [List.flatMap_cons, List.length_append, hC, ih, List.length_cons, Nat.succ_mul]; omega
theorem flat_get {α : Type} (C : α → List Value) (k : Nat) (hC : ∀ a, (C a).length = k) (L : List α) (i : Nat) (h : i < L.length) (j : Nat) (hj : j < k) : (L.flatMap C)[i * k + j]? = (C L[i])[j]? := by
  induction L generalizing i with
  | nil => simp at h
  | cons a L ih =>
    rw [List.flatMap_cons]
    cases i with
    | zero => rw [Nat.zero_mul, Nat.zero_add, List.getElem?_append_left (by rw [hC]; exact hj)]; rfl
    | succ i =>
      rw [List.getElem?_append_right (by rw [hC, Nat.succ_mul]; omega), hC, show (i + 1) * k + j - k = i * k + j by rw [Nat.succ_mul]; omega, ih i (by simpa using h)]
      rfl
section
variable {H : Type} {enc : TypeId × Value → H} {P : Program} {W : World}
/-- A slice of structs (of some cells each) that came in. -/
theorem open_rows {α : Type} (a0 : α) {t e : TypeId} (ht : P.underlying t = some (.slice e)) (k : Nat) (hk : 0 < k) (hC : P.cellsOf e = k) (C : α → List Value) (hCl : ∀ a, (C a).length = k) (Q : α → Prop)
    (hel : ∀ n cs x, DataW.trod enc P W 0 (fun _ => true) true n e cs = some x → ∃ a, Q a ∧ cs = C a) {fuel : Nat} {cs : List Value} {x : DataW H × List MemPlace} (h : DataW.trod enc P W 0 (fun _ => true) true fuel t cs = some x) (lt : ∀ p ∈ x.2, p.block < W.heap.size) :
    ∃ (A : Option Addr) (c : Nat) (L : List α), cs = [.slice A L.length c] ∧ L.length ≤ 9223372036854775807 ∧ (∀ a ∈ L, Q a) ∧ Rs W W.heap.size A (L.flatMap C) := by
  rcases Deep.open_slice ht h with ⟨rfl, hx⟩ | ⟨a, n, c, m, n', D, Pl, rfl, _, hl, hm, hz, hx, hi⟩
  · exact ⟨none, 0, [], rfl, Nat.zero_le _, fun x hx => absurd hx (by simp), Rs.nil⟩
  · unfold maxLen at hm
    simp only [if_true] at hz
    rw [hC] at hi
    have each : ∀ i, ∃ q : α, i < n → (Q q ∧ ∀ j, j < k → W.cell? ((a.add (i * k)).add j) = (C q)[j]?) := fun i => by
      by_cases hin : i < n
      · obtain ⟨cs', hc, ht'⟩ := hi i (by omega)
        obtain ⟨q, hq, hcq⟩ := hel _ _ _ ht'
        obtain ⟨_, _, hat⟩ := World.cells?_some hc
        exact ⟨q, fun _ => ⟨hq, fun j hj => by rw [hat j hj, hcq]⟩⟩
      · exact ⟨a0, fun h => absurd h hin⟩
    obtain ⟨f, hf⟩ := Classical.axiomOfChoice each
    refine ⟨some a, c, (List.range n).map f, by simp, by simp; omega, fun q hq => ?_, fun j hj => ?_⟩
    · obtain ⟨i, hi2, rfl⟩ := List.mem_map.1 hq
      exact (hf i (List.mem_range.1 hi2)).1
    · have hj2 := hj
      rw [flat_len C k hCl] at hj2
      simp only [List.length_map, List.length_range] at hj2
      have hjk : j / k < n := (Nat.div_lt_iff_lt_mul hk).2 hj2
      have hn0 : 0 < n := Nat.lt_of_le_of_lt (Nat.zero_le _) hjk
      have hg := flat_get C k hCl ((List.range n).map f) (j / k) (by simpa using hjk) (j % k) (Nat.mod_lt _ hk)
      have hdm : j / k * k + j % k = j := by rw [Nat.mul_comm]; exact Nat.div_add_mod j k
      rw [hdm, List.getElem?_eq_getElem hj] at hg
      have hc := (hf (j / k) hjk).2 (j % k) (Nat.mod_lt _ hk)
      have hel2 : ((List.range n).map f)[j / k]'(by simpa using hjk) = f (j / k) := by simp
      rw [hel2] at hg
      rw [← hg] at hc
      obtain ⟨b, off, spot⟩ := a
      have hspot : spot = none := by
        have h0 := (hf 0 hn0).2 0 hk
        rw [List.getElem?_eq_getElem (by rw [hCl]; exact hk)] at h0
        simpa [Addr.add] using World.cell?_spot h0
      subst hspot
      refine ⟨b, off, rfl, lt (.cell b off) (by rw [hx]; exact List.mem_append_left _ (MemPlace.mem_row.2 ⟨0, by rw [hC, hz]; exact Nat.mul_pos (by omega) hk, by simp⟩)), ?_⟩
      rw [add_flat, add_flat, show off + j / k * k + j % k = off + j by omega] at hc
      rw [hc]
end
section
variable {H : Type} {enc : TypeId × Value → H} {w : World} {base : Nat} {spare : Nat → Bool} {held : Bool} {fuel : Nat}
def At.Fine (a : At) : Prop := (In64 a.kind ∧ In64 a.int) ∧ a.key.size ≤ 9223372036854775807 ∧ a.text.size ≤ 9223372036854775807
set_option maxRecDepth 100000 in
theorem one_value {cs : List Value} {x : DataW H × List MemPlace} (h : DataW.trod enc Try.prog w base spare held fuel 88 cs = some x) :
    ∃ (k n : Int) (s : ByteArray), cs = [.int .i64 k, .string s, .int .i64 n] ∧ In64 k ∧ In64 n ∧ s.size ≤ 9223372036854775807 := by
  obtain ⟨xs, n, _, _, hl, hxl, hg⟩ := DataW.trod_struct Try.underlying88 h
  rw [show Try.prog.cellsOf 88 = 3 by kernel_rfl] at hl
  have hx : xs.length = 3 := hxl
  have h0 : DataW.trod enc Try.prog w base spare held n 3 ((cs.drop 0).take (Try.prog.cellsOf 3)) = xs[0]? := hg 0 _ rfl
  have h1 : DataW.trod enc Try.prog w base spare held n 9 ((cs.drop 1).take (Try.prog.cellsOf 9)) = xs[1]? := hg 1 _ rfl
  have h2 : DataW.trod enc Try.prog w base spare held n 3 ((cs.drop 2).take (Try.prog.cellsOf 3)) = xs[2]? := hg 2 _ rfl
  rw [List.getElem?_eq_getElem (by omega)] at h0 h1 h2
  rw [show Try.prog.cellsOf 3 = 1 by kernel_rfl] at h0 h2
  rw [show Try.prog.cellsOf 9 = 1 by kernel_rfl] at h1
  obtain ⟨k, e0, _, w0⟩ := DataW.trod_int Try.underlying3 h0
  obtain ⟨s, e1, _, w1⟩ := DataW.trod_string Try.underlying9 h1
  obtain ⟨m, e2, _, w2⟩ := DataW.trod_int Try.underlying3 h2
  refine ⟨k, m, s, ?_, bd64 w0, bd64 w2, w1⟩
  obtain ⟨a0, a1, a2, rfl⟩ : ∃ a0 a1 a2, cs = [a0, a1, a2] := by
    match cs, hl with
    | [a0, a1, a2], _ => exact ⟨_, _, _, rfl⟩
  simp at e0 e1 e2
  subst e0 e1 e2
  rfl
set_option maxRecDepth 100000 in
theorem one_attr {cs : List Value} {x : DataW H × List MemPlace} (h : DataW.trod enc Try.prog w base spare held fuel 91 cs = some x) : ∃ a : At, a.Fine ∧ cs = a.cells := by
  obtain ⟨xs, n, _, _, hl, hxl, hg⟩ := DataW.trod_struct Try.underlying91 h
  rw [show Try.prog.cellsOf 91 = 4 by kernel_rfl] at hl
  have hx : xs.length = 2 := hxl
  have h0 : DataW.trod enc Try.prog w base spare held n 9 ((cs.drop 0).take (Try.prog.cellsOf 9)) = xs[0]? := hg 0 _ rfl
  have h1 : DataW.trod enc Try.prog w base spare held n 88 ((cs.drop 1).take (Try.prog.cellsOf 88)) = xs[1]? := hg 1 _ rfl
  rw [List.getElem?_eq_getElem (by omega)] at h0 h1
  rw [show Try.prog.cellsOf 9 = 1 by kernel_rfl] at h0
  rw [show Try.prog.cellsOf 88 = 3 by kernel_rfl] at h1
  obtain ⟨key, e0, _, w0⟩ := DataW.trod_string Try.underlying9 h0
  obtain ⟨k, m, s, e1, i1, i2, w1⟩ := one_value h1
  refine ⟨⟨key, k, s, m⟩, ⟨⟨i1, i2⟩, w0, w1⟩, ?_⟩
  obtain ⟨a0, a1, a2, a3, rfl⟩ : ∃ a0 a1 a2 a3, cs = [a0, a1, a2, a3] := by
    match cs, hl with
    | [a0, a1, a2, a3], _ => exact ⟨_, _, _, _, rfl⟩
  simp at e0 e1
  obtain ⟨rfl, rfl, rfl⟩ := e1
  subst e0
  rfl
set_option maxRecDepth 100000 in
theorem one_ref {cs : List Value} {x : DataW H × List MemPlace} (h : DataW.trod enc Try.prog w base spare held fuel 83 cs = some x) : ∃ a : Int × Int, RfOk a ∧ cs = rfC a := by
  obtain ⟨xs, n, _, _, hl, hxl, hg⟩ := DataW.trod_struct Try.underlying83 h
  rw [show Try.prog.cellsOf 83 = 2 by kernel_rfl] at hl
  have hx : xs.length = 2 := hxl
  have h0 : DataW.trod enc Try.prog w base spare held n 3 ((cs.drop 0).take (Try.prog.cellsOf 3)) = xs[0]? := hg 0 _ rfl
  have h1 : DataW.trod enc Try.prog w base spare held n 3 ((cs.drop 1).take (Try.prog.cellsOf 3)) = xs[1]? := hg 1 _ rfl
  rw [List.getElem?_eq_getElem (by omega)] at h0 h1
  rw [show Try.prog.cellsOf 3 = 1 by kernel_rfl] at h0 h1
  obtain ⟨k, e0, _, w0⟩ := DataW.trod_int Try.underlying3 h0
  obtain ⟨m, e1, _, w1⟩ := DataW.trod_int Try.underlying3 h1
  refine ⟨(k, m), ⟨bd64 w0, bd64 w1⟩, ?_⟩
  obtain ⟨a0, a1, rfl⟩ : ∃ a0 a1, cs = [a0, a1] := by
    match cs, hl with
    | [a0, a1], _ => exact ⟨_, _, rfl⟩
  simp at e0 e1
  subst e0 e1
  rfl
end
set_option maxRecDepth 100000 in
set_option maxHeartbeats 1000000 in
/-- A span that came in. -/
theorem open_span {H : Type} {enc : TypeId × Value → H} {W : World} {base : Nat} {v : Value} {d : DataW H} {p : List MemPlace} {rch : Reach}
    (hv : Value.okWide Try.prog W rch base 54 v) (h : DataW.Trod enc Try.prog W 0 (fun _ => true) true 54 v d p) (lt : ∀ x ∈ p, x.block < W.heap.size) :
    ∃ (s : Sp) (va vl : Value), v = .agg (s.cells va vl) ∧ s.Lim ∧ s.Ints ∧ s.Has W W.heap.size va vl := by
  obtain ⟨cs0, rfl, hsz⟩ := okWide_struct Try.underlying54 hv
  obtain ⟨fuel, hf⟩ := h
  obtain ⟨cs⟩ := cs0
  have hf' : DataW.trod enc Try.prog W 0 (fun _ => true) true fuel 54 cs = some (d, p) := hf
  obtain ⟨xs, n, _, hxd, hl, hxl, hg⟩ := DataW.trod_struct Try.underlying54 hf'
  rw [show Try.prog.cellsOf 54 = 14 by kernel_rfl] at hl
  have hx : xs.length = 14 := hxl
  simp only [Prod.mk.injEq] at hxd
  have ltx : ∀ j, (hj : j < xs.length) → ∀ q ∈ xs[j].2, q.block < W.heap.size := fun j hj q hq => lt q (by rw [hxd.2]; exact List.mem_flatMap.2 ⟨xs[j], List.getElem_mem hj, hq⟩)
  have h0 : DataW.trod enc Try.prog W 0 (fun _ => true) true n 3 ((cs.drop 0).take (Try.prog.cellsOf 3)) = xs[0]? := hg 0 _ rfl
  have h1 : DataW.trod enc Try.prog W 0 (fun _ => true) true n 3 ((cs.drop 1).take (Try.prog.cellsOf 3)) = xs[1]? := hg 1 _ rfl
  have h2 : DataW.trod enc Try.prog W 0 (fun _ => true) true n 3 ((cs.drop 2).take (Try.prog.cellsOf 3)) = xs[2]? := hg 2 _ rfl
  have h3 : DataW.trod enc Try.prog W 0 (fun _ => true) true n 3 ((cs.drop 3).take (Try.prog.cellsOf 3)) = xs[3]? := hg 3 _ rfl
  have h4 : DataW.trod enc Try.prog W 0 (fun _ => true) true n 3 ((cs.drop 4).take (Try.prog.cellsOf 3)) = xs[4]? := hg 4 _ rfl
  have h5 : DataW.trod enc Try.prog W 0 (fun _ => true) true n 3 ((cs.drop 5).take (Try.prog.cellsOf 3)) = xs[5]? := hg 5 _ rfl
  have h6 : DataW.trod enc Try.prog W 0 (fun _ => true) true n 9 ((cs.drop 6).take (Try.prog.cellsOf 9)) = xs[6]? := hg 6 _ rfl
  have h7 : DataW.trod enc Try.prog W 0 (fun _ => true) true n 9 ((cs.drop 7).take (Try.prog.cellsOf 9)) = xs[7]? := hg 7 _ rfl
  have h8 : DataW.trod enc Try.prog W 0 (fun _ => true) true n 9 ((cs.drop 8).take (Try.prog.cellsOf 9)) = xs[8]? := hg 8 _ rfl
  have h9 : DataW.trod enc Try.prog W 0 (fun _ => true) true n 3 ((cs.drop 9).take (Try.prog.cellsOf 3)) = xs[9]? := hg 9 _ rfl
  have h10 : DataW.trod enc Try.prog W 0 (fun _ => true) true n 3 ((cs.drop 10).take (Try.prog.cellsOf 3)) = xs[10]? := hg 10 _ rfl
  have h11 : DataW.trod enc Try.prog W 0 (fun _ => true) true n 4 ((cs.drop 11).take (Try.prog.cellsOf 4)) = xs[11]? := hg 11 _ rfl
  have h12 : DataW.trod enc Try.prog W 0 (fun _ => true) true n 51 ((cs.drop 12).take (Try.prog.cellsOf 51)) = xs[12]? := hg 12 _ rfl
  have h13 : DataW.trod enc Try.prog W 0 (fun _ => true) true n 52 ((cs.drop 13).take (Try.prog.cellsOf 52)) = xs[13]? := hg 13 _ rfl
  rw [List.getElem?_eq_getElem (by omega)] at h0 h1 h2 h3 h4 h5 h6 h7 h8 h9 h10 h11 h12 h13
  rw [show Try.prog.cellsOf 3 = 1 by kernel_rfl] at h0 h1 h2 h3 h4 h5 h9 h10
  rw [show Try.prog.cellsOf 9 = 1 by kernel_rfl] at h6 h7 h8
  rw [show Try.prog.cellsOf 4 = 1 by kernel_rfl] at h11
  rw [show Try.prog.cellsOf 51 = 1 by kernel_rfl] at h12
  rw [show Try.prog.cellsOf 52 = 1 by kernel_rfl] at h13
  obtain ⟨t, e0, _, w0⟩ := DataW.trod_int Try.underlying3 h0
  obtain ⟨i, e1, _, w1⟩ := DataW.trod_int Try.underlying3 h1
  obtain ⟨p_, e2, _, w2⟩ := DataW.trod_int Try.underlying3 h2
  obtain ⟨r, e3, _, w3⟩ := DataW.trod_int Try.underlying3 h3
  obtain ⟨c, e4, _, w4⟩ := DataW.trod_int Try.underlying3 h4
  obtain ⟨k, e5, _, w5⟩ := DataW.trod_int Try.underlying3 h5
  obtain ⟨sv, e6, _, w6⟩ := DataW.trod_string Try.underlying9 h6
  obtain ⟨ve, e7, _, w7⟩ := DataW.trod_string Try.underlying9 h7
  obtain ⟨op, e8, _, w8⟩ := DataW.trod_string Try.underlying9 h8
  obtain ⟨st, e9, _, w9⟩ := DataW.trod_int Try.underlying3 h9
  obtain ⟨en, e10, _, w10⟩ := DataW.trod_int Try.underlying3 h10
  obtain ⟨er, e11, _⟩ := DataW.trod_bool Try.underlying4 h11
  obtain ⟨A, ca, al, e12, l12, q12, r12⟩ := open_rows (⟨⟨#[]⟩, 0, ⟨#[]⟩, 0⟩ : At) Try.underlying51 4 (by decide) (by kernel_rfl) At.cells (fun _ => rfl) At.Fine (fun _ _ _ h => one_attr h) h12 (ltx 12 (by omega))
  obtain ⟨A2, cl, ls, e13, l13, q13, r13⟩ := open_rows ((0, 0) : Int × Int) Try.underlying52 2 (by decide) (by kernel_rfl) rfC (fun _ => rfl) RfOk (fun _ _ _ h => one_ref h) h13 (ltx 13 (by omega))
  refine ⟨⟨t, i, p_, r, c, k, sv, ve, op, st, en, er, al, ls⟩, .slice A al.length ca, .slice A2 ls.length cl, ?_, ⟨l12, l13, w6, w7, w8, fun a ha => (q12 a ha).2⟩, ⟨?_, ?_, fun a ha => (q12 a ha).1, q13⟩, ⟨A, ca, A2, cl, rfl, rfl, r12, r13⟩⟩
  · have hcs : ∃ b0 b1 b2 b3 b4 b5 b6 b7 b8 b9 b10 b11 b12 b13, cs = [b0, b1, b2, b3, b4, b5, b6, b7, b8, b9, b10, b11, b12, b13] := by
      match cs, hl with
      | [b0, b1, b2, b3, b4, b5, b6, b7, b8, b9, b10, b11, b12, b13], _ => exact ⟨_, _, _, _, _, _, _, _, _, _, _, _, _, _, rfl⟩
    obtain ⟨b0, b1, b2, b3, b4, b5, b6, b7, b8, b9, b10, b11, b12, b13, rfl⟩ := hcs
    simp at e0 e1 e2 e3 e4 e5 e6 e7 e8 e9 e10 e11 e12 e13
    subst e0 e1 e2 e3 e4 e5 e6 e7 e8 e9 e10 e11 e12 e13
    rfl
  · intro n hn
    simp at hn
    rcases hn with rfl | rfl | rfl | rfl | rfl | rfl
    · exact bd64 w0
    · exact bd64 w1
    · exact bd64 w2
    · exact bd64 w3
    · exact bd64 w4
    · exact bd64 w5
  · intro n hn
    simp at hn
    rcases hn with rfl | rfl
    · exact bd64 w9
    · exact bd64 w10
end Go.Proofs.Ytepcihfkkeahhaa
