/- Lists of operations as arguments (written by wip/bin/gen_dv26.py). -/
import Derived.Test.YtjajmlamlmnljaaDs
import Derived.Deep.Heap
import Derived.Deep.Slices
import Derived.OpenShut
import Derived.RowKit3
namespace Go.Proofs.Ytjajmlamlmnljaa
open Go.ChangeShapes Go.WideShapes Go.ChangeAt Go.RowKit Go.Joins
section
variable {H : Type} {enc : TypeId × Value → H} {P : Program} {W : World}
/-- A slice of structs (of some cells each) that came in. -/
theorem open_rows2 {α : Type} (a0 : α) {t e : TypeId} (ht : P.underlying t = some (.slice e)) (k : Nat) (hk : 0 < k) (hC : P.cellsOf e = k) (C : α → List Value) (hCl : ∀ a, (C a).length = k) (Q : α → Prop)
    (hel : ∀ n cs x, DataW.trod enc P W 0 (fun _ => true) true n e cs = some x → (∀ p ∈ x.2, p.block < W.heap.size) → ∃ a, Q a ∧ cs = C a) {fuel : Nat} {cs : List Value} {x : DataW H × List MemPlace} (h : DataW.trod enc P W 0 (fun _ => true) true fuel t cs = some x) (lt : ∀ p ∈ x.2, p.block < W.heap.size) :
    ∃ (A : Option Addr) (c : Nat) (L : List α), cs = [.slice A L.length c] ∧ L.length ≤ 9223372036854775807 ∧ L.length ≤ c ∧ (A = none → c = 0) ∧ (∀ a ∈ L, Q a) ∧ Rs W W.heap.size A (L.flatMap C) := by
  rcases Deep.open_slice ht h with ⟨rfl, hx⟩ | ⟨a, n, c, m, n', D, Pl, rfl, _, hl, hm, hz, hx, hi⟩
  · exact ⟨none, 0, [], rfl, Nat.zero_le _, Nat.zero_le _, fun _ => rfl, fun x hx => absurd hx (by simp), Rs.nil⟩
  · unfold maxLen at hm
    simp only [if_true] at hz
    rw [hC] at hi
    have each : ∀ i, ∃ q : α, i < n → (Q q ∧ ∀ j, j < k → W.cell? ((a.add (i * k)).add j) = (C q)[j]?) := fun i => by
      by_cases hin : i < n
      · obtain ⟨cs', hc, ht'⟩ := hi i (by omega)
        obtain ⟨q, hq, hcq⟩ := hel _ _ _ ht' (fun p hp => lt p (by rw [hx]; exact List.mem_append_right _ (List.mem_flatMap.2 ⟨i, List.mem_range.2 (by omega), hp⟩)))
        obtain ⟨_, _, hat⟩ := World.cells?_some hc
        exact ⟨q, fun _ => ⟨hq, fun j hj => by rw [hat j hj, hcq]⟩⟩
      · exact ⟨a0, fun h => absurd h hin⟩
    obtain ⟨f, hf⟩ := Classical.axiomOfChoice each
    refine ⟨some a, c, (List.range n).map f, by simp, by simp; omega, by simp; omega, (fun e => nomatch e), fun q hq => ?_, fun j hj => ?_⟩
    · obtain ⟨i, hi2, rfl⟩ := List.mem_map.1 hq
      exact (hf i (List.mem_range.1 hi2)).1
    · have hj2 := hj
      rw [flat_len C k hCl] at hj2
      simp only [List.length_map, List.length_range] at hj2
      have hjk : j / k < n := (Nat.div_lt_iff_lt_mul hk).2 hj2
      have hn0 : 0 < n := Nat.lt_of_le_of_lt (Nat.zero_le _) hjk
      have hg := flat_get C k hCl ((List.range n).map f) (j / k) (by simpa using hjk) (j % k) (Nat.mod_lt _ hk)
      have hdm : j / k * k + j % k = j := by rw [Nat.mul_comm]; exact Nat.div_add_mod j k
      rw [hdm, List.getElem?_eq_getElem hj] at hg
      have hc := (hf (j / k) hjk).2 (j % k) (Nat.mod_lt _ hk)
      have hel2 : ((List.range n).map f)[j / k]'(by simpa using hjk) = f (j / k) := by simp
      rw [hel2] at hg
      rw [← hg] at hc
      obtain ⟨b, off, spot⟩ := a
      have hspot : spot = none := by
        have h0 := (hf 0 hn0).2 0 hk
        rw [List.getElem?_eq_getElem (by rw [hCl]; exact hk)] at h0
        simpa [Addr.add] using World.cell?_spot h0
      subst hspot
      refine ⟨b, off, rfl, lt (.cell b off) (by rw [hx]; exact List.mem_append_left _ (MemPlace.mem_row.2 ⟨0, by rw [hC, hz]; exact Nat.mul_pos (by omega) hk, by simp⟩)), ?_⟩
      rw [add_flat, add_flat, show off + j / k * k + j % k = off + j by omega] at hc
      rw [hc]
end

theorem bd8 {a : Int} (w : (Lit.int .u8 a).wf = true) : 0 ≤ a ∧ a ≤ 255 := by
  simpa [Lit.wf, IntKind.min, IntKind.max, IntKind.signed, IntKind.bits] using w
theorem bd64 {a : Int} (w : (Lit.int .i64 a).wf = true) : -9223372036854775808 ≤ a ∧ a ≤ 9223372036854775807 := by
  simpa [Lit.wf, IntKind.min, IntKind.max, IntKind.signed, IntKind.bits] using w

/-- An operation of the law: its kind, two names, data, a number and a script. -/
structure Oq where
  kd : Nat
  nm : Nat
  ot : Nat
  data : ByteArray
  num : Int
  A : Option Addr
  c : Nat
  L : List Int
def Oq.C (x : Oq) : List Value := [.int .u8 (x.kd : Int), .int .u8 (x.nm : Int), .int .u8 (x.ot : Int), .string x.data, .int .i64 x.num, .slice x.A x.L.length x.c]
structure Oq.Ok (W : World) (x : Oq) : Prop where
  kd : x.kd ≤ 255
  nm : x.nm ≤ 255
  ot : x.ot ≤ 255
  data : x.data.size ≤ 9223372036854775807
  num : -9223372036854775808 ≤ x.num ∧ x.num ≤ 9223372036854775807
  len : x.L.length ≤ 9223372036854775807
  cap : x.L.length ≤ x.c
  rd : Rd (Value.int .i64) W x.A x.L
theorem Oq.Ok.below {W W' : World} {x : Oq} (h : x.Ok W) (hb : Below W.heap.size W W') : x.Ok W' := ⟨h.kd, h.nm, h.ot, h.data, h.num, h.len, h.cap, h.rd.below hb⟩
def intC (n : Int) : List Value := [.int .i64 n]
set_option maxRecDepth 100000 in
theorem one_int {H : Type} {enc : TypeId × Value → H} {w : World} {base : Nat} {spare : Nat → Bool} {held : Bool} {fuel : Nat} {cs : List Value} {x : DataW H × List MemPlace} (h : DataW.trod enc Try.prog w base spare held fuel 3 cs = some x) : ∃ a : Int, True ∧ cs = intC a := by
  obtain ⟨k, e0, _, _⟩ := DataW.trod_int Try.underlying3 h
  exact ⟨k, trivial, e0⟩
theorem rd_of {w : World} {base : Nat} {A : Option Addr} {L : List Int} (h : Rs w base A (L.flatMap intC)) (hb : base ≤ w.heap.size) : Rd (Value.int .i64) w A L := fun k hk => by
  have e : L.flatMap intC = L.map (Value.int .i64) := by
    clear h hk
    induction L with
    | nil => rfl
    | cons x L ih => rw [List.flatMap_cons, ih]; rfl
  rw [e] at h
  obtain ⟨b, off, e2, hl, hc⟩ := h k (by rw [List.length_map]; exact hk)
  exact ⟨b, off, e2, by omega, by rw [hc, List.getElem_map]⟩
set_option maxRecDepth 100000 in
theorem one_op {H : Type} {enc : TypeId × Value → H} {W : World} {fuel : Nat} {cs : List Value} {x : DataW H × List MemPlace} (h : DataW.trod enc Try.prog W 0 (fun _ => true) true fuel 38 cs = some x) (lt : ∀ p ∈ x.2, p.block < W.heap.size) : ∃ a : Oq, a.Ok W ∧ cs = a.C := by
  obtain ⟨xs, n, _, hxd, hl, hxl, hg⟩ := DataW.trod_struct Try.underlying38 h
  rw [show Try.prog.cellsOf 38 = 6 by kernel_rfl] at hl
  have hx : xs.length = 6 := hxl
  have ltx : ∀ j, (hj : j < xs.length) → ∀ q ∈ xs[j].2, q.block < W.heap.size := fun j hj q hq => lt q (by rw [hxd]; exact List.mem_flatMap.2 ⟨xs[j], List.getElem_mem hj, hq⟩)
  have h0 : DataW.trod enc Try.prog W 0 (fun _ => true) true n 5 ((cs.drop 0).take (Try.prog.cellsOf 5)) = xs[0]? := hg 0 _ rfl
  have h1 : DataW.trod enc Try.prog W 0 (fun _ => true) true n 5 ((cs.drop 1).take (Try.prog.cellsOf 5)) = xs[1]? := hg 1 _ rfl
  have h2 : DataW.trod enc Try.prog W 0 (fun _ => true) true n 5 ((cs.drop 2).take (Try.prog.cellsOf 5)) = xs[2]? := hg 2 _ rfl
  have h3 : DataW.trod enc Try.prog W 0 (fun _ => true) true n 9 ((cs.drop 3).take (Try.prog.cellsOf 9)) = xs[3]? := hg 3 _ rfl
  have h4 : DataW.trod enc Try.prog W 0 (fun _ => true) true n 3 ((cs.drop 4).take (Try.prog.cellsOf 3)) = xs[4]? := hg 4 _ rfl
  have h5 : DataW.trod enc Try.prog W 0 (fun _ => true) true n 36 ((cs.drop 5).take (Try.prog.cellsOf 36)) = xs[5]? := hg 5 _ rfl
  rw [List.getElem?_eq_getElem (by omega)] at h0 h1 h2 h3 h4 h5
  rw [show Try.prog.cellsOf 5 = 1 by kernel_rfl] at h0 h1 h2
  rw [show Try.prog.cellsOf 9 = 1 by kernel_rfl] at h3
  rw [show Try.prog.cellsOf 3 = 1 by kernel_rfl] at h4
  rw [show Try.prog.cellsOf 36 = 1 by kernel_rfl] at h5
  obtain ⟨k, e0, _, w0⟩ := DataW.trod_int Try.underlying5 h0
  obtain ⟨m, e1, _, w1⟩ := DataW.trod_int Try.underlying5 h1
  obtain ⟨o, e2, _, w2⟩ := DataW.trod_int Try.underlying5 h2
  obtain ⟨s, e3, _, w3⟩ := DataW.trod_string Try.underlying9 h3
  obtain ⟨i, e4, _, w4⟩ := DataW.trod_int Try.underlying3 h4
  obtain ⟨A, c, L, e5, l5, c5, _, _, r5⟩ := open_rows2 (0 : Int) Try.underlying36 1 (by decide) (by kernel_rfl) intC (fun _ => rfl) (fun _ => True) (fun _ _ _ h _ => one_int h) h5 (ltx 5 (by omega))
  have b0 := bd8 w0
  have b1 := bd8 w1
  have b2 := bd8 w2
  have b4 := bd64 w4
  obtain ⟨k, rfl⟩ : ∃ u : Nat, k = (u : Int) := ⟨k.toNat, by omega⟩
  obtain ⟨m, rfl⟩ : ∃ u : Nat, m = (u : Int) := ⟨m.toNat, by omega⟩
  obtain ⟨o, rfl⟩ : ∃ u : Nat, o = (u : Int) := ⟨o.toNat, by omega⟩
  refine ⟨⟨k, m, o, s, i, A, c, L⟩, ⟨by show k ≤ 255; omega, by show m ≤ 255; omega, by show o ≤ 255; omega, w3, b4, l5, c5, rd_of r5 (Nat.le_refl _)⟩, ?_⟩
  obtain ⟨a0, a1, a2, a3, a4, a5, rfl⟩ : ∃ a0 a1 a2 a3 a4 a5, cs = [a0, a1, a2, a3, a4, a5] := by
    match cs, hl with
    | [a0, a1, a2, a3, a4, a5], _ => exact ⟨_, _, _, _, _, _, rfl⟩
  simp at e0 e1 e2 e3 e4 e5
  subst e0 e1 e2 e3 e4 e5
  rfl
/-- The slice at A reads as the operations L. -/
def OR (w : World) (A : Option Addr) (L : List Oq) : Prop :=
  ∀ j (h : j < L.length), ∃ b off, A = some ⟨b, off, none⟩ ∧ b < w.heap.size ∧ ∀ i, i < 6 → w.cell? ⟨b, off + j * 6 + i, none⟩ = (L[j].C)[i]?
theorem OR.of {w : World} {A : Option Addr} {L : List Oq} (h : Rs w w.heap.size A (L.flatMap Oq.C)) : OR w A L := fun j hj => by
  have hl : (L.flatMap Oq.C).length = L.length * 6 := flat_len Oq.C 6 (fun _ => rfl) L
  obtain ⟨b, off, e, hb, _⟩ := h (j * 6) (by omega)
  refine ⟨b, off, e, hb, fun i hi => ?_⟩
  have g := flat_get Oq.C 6 (fun _ => rfl) L j hj i hi
  obtain ⟨b', off', e', _, h1⟩ := h (j * 6 + i) (by omega)
  rw [e] at e'
  injection e' with e'
  injection e' with e1 e2
  subst e1 e2
  rw [List.getElem?_eq_getElem (by omega)] at g
  rw [← g, show off + j * 6 + i = off + (j * 6 + i) by omega, h1]
theorem OR.below {w w' : World} {A : Option Addr} {L : List Oq} (h : OR w A L) (hb : Below w.heap.size w w') : OR w' A L := fun j hj => by
  obtain ⟨b, off, e, hl, hc⟩ := h j hj
  exact ⟨b, off, e, Nat.lt_of_lt_of_le hl hb.size, fun i hi => (hb.cell (p := ⟨b, off + j * 6 + i, none⟩) hl).trans (hc i hi)⟩
set_option maxRecDepth 100000 in
/-- A slice of operations that came in. -/
theorem open_oqs {H : Type} {enc : TypeId × Value → H} {W : World} {base : Nat} {v : Value} {d : DataW H} {p : List MemPlace} {r : Reach}
    (hv : Value.okWide Try.prog W r base 33 v) (h : DataW.Trod enc Try.prog W 0 (fun _ => true) true 33 v d p) (lt : ∀ x ∈ p, x.block < W.heap.size) :
    ∃ (A : Option Addr) (c : Nat) (L : List Oq), v = .slice A L.length c ∧ L.length ≤ 9223372036854775807 ∧ (∀ x ∈ L, x.Ok W) ∧ OR W A L := by
  obtain ⟨A, n, c, rfl⟩ := okWide_slice Try.underlying33 hv
  obtain ⟨fuel, hf⟩ := h
  obtain ⟨A', c', L, e, hl, _, _, hok, hR⟩ := open_rows2 (⟨0, 0, 0, ⟨#[]⟩, 0, none, 0, []⟩ : Oq) Try.underlying33 6 (by decide) (by kernel_rfl) Oq.C (fun _ => rfl) (Oq.Ok W) (fun _ _ _ h hlt => one_op h hlt) hf lt
  simp only [Value.cells, List.cons.injEq, Value.slice.injEq, and_true] at e
  obtain ⟨rfl, rfl, rfl⟩ := e
  exact ⟨_, _, L, rfl, hl, hok, OR.of hR⟩
end Go.Proofs.Ytjajmlamlmnljaa
