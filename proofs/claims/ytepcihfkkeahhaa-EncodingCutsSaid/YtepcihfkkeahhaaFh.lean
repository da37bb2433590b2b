/- A fragment that came in (written by wip/bin/gen_fh.py). -/
import Derived.Test.YtepcihfkkeahhaaFf
namespace Go.Proofs.Ytepcihfkkeahhaa
open Go.ChangeShapes Go.WideShapes Go.ChangeAt Go.RowKit Go.Joins En

section
variable {H : Type} {enc : TypeId × Value → H} {P : Program} {W : World}
/-- A slice of structs (of some cells each) that came in. -/
theorem open_rows2 {α : Type} (a0 : α) {t e : TypeId} (ht : P.underlying t = some (.slice e)) (k : Nat) (hk : 0 < k) (hC : P.cellsOf e = k) (C : α → List Value) (hCl : ∀ a, (C a).length = k) (Q : α → Prop)
    (hel : ∀ n cs x, DataW.trod enc P W 0 (fun _ => true) true n e cs = some x → (∀ p ∈ x.2, p.block < W.heap.size) → ∃ a, Q a ∧ cs = C a) {fuel : Nat} {cs : List Value} {x : DataW H × List MemPlace} (h : DataW.trod enc P W 0 (fun _ => true) true fuel t cs = some x) (lt : ∀ p ∈ x.2, p.block < W.heap.size) :
    ∃ (A : Option Addr) (c : Nat) (L : List α), cs = [.slice A L.length c] ∧ L.length ≤ 9223372036854775807 ∧ (∀ a ∈ L, Q a) ∧ Rs W W.heap.size A (L.flatMap C) := by
  rcases Deep.open_slice ht h with ⟨rfl, hx⟩ | ⟨a, n, c, m, n', D, Pl, rfl, _, hl, hm, hz, hx, hi⟩
  · exact ⟨none, 0, [], rfl, Nat.zero_le _, fun x hx => absurd hx (by simp), Rs.nil⟩
  · unfold maxLen at hm
    simp only [if_true] at hz
    rw [hC] at hi
    have each : ∀ i, ∃ q : α, i < n → (Q q ∧ ∀ j, j < k → W.cell? ((a.add (i * k)).add j) = (C q)[j]?) := fun i => by
      by_cases hin : i < n
      · obtain ⟨cs', hc, ht'⟩ := hi i (by omega)
        obtain ⟨q, hq, hcq⟩ := hel _ _ _ ht' (fun p hp => lt p (by rw [hx]; exact List.mem_append_right _ (List.mem_flatMap.2 ⟨i, List.mem_range.2 (by omega), hp⟩)))
        obtain ⟨_, _, hat⟩ := World.cells?_some hc
        exact ⟨q, fun _ => ⟨hq, fun j hj => by rw [hat j hj, hcq]⟩⟩
      · exact ⟨a0, fun h => absurd h hin⟩
    obtain ⟨f, hf⟩ := Classical.axiomOfChoice each
    refine ⟨some a, c, (List.range n).map f, by simp, by simp; omega, fun q hq => ?_, fun j hj => ?_⟩
    · obtain ⟨i, hi2, rfl⟩ := List.mem_map.1 hq
      exact (hf i (List.mem_range.1 hi2)).1
    · have hj2 := hj
      rw [flat_len C k hCl] at hj2
      simp only [List.length_map, List.length_range] at hj2
      have hjk : j / k < n := (Nat.div_lt_iff_lt_mul hk).2 hj2
      have hn0 : 0 < n := Nat.lt_of_le_of_lt (Nat.zero_le _) hjk
      have hg := flat_get C k hCl ((List.range n).map f) (j / k) (by simpa using hjk) (j % k) (Nat.mod_lt _ hk)
      have hdm : j / k * k + j % k = j := by rw [Nat.mul_comm]; exact Nat.div_add_mod j k
      rw [hdm, List.getElem?_eq_getElem hj] at hg
      have hc := (hf (j / k) hjk).2 (j % k) (Nat.mod_lt _ hk)
      have hel2 : ((List.range n).map f)[j / k]'(by simpa using hjk) = f (j / k) := by simp
      rw [hel2] at hg
      rw [← hg] at hc
      obtain ⟨b, off, spot⟩ := a
      have hspot : spot = none := by
        have h0 := (hf 0 hn0).2 0 hk
        rw [List.getElem?_eq_getElem (by rw [hCl]; exact hk)] at h0
        simpa [Addr.add] using World.cell?_spot h0
      subst hspot
      refine ⟨b, off, rfl, lt (.cell b off) (by rw [hx]; exact List.mem_append_left _ (MemPlace.mem_row.2 ⟨0, by rw [hC, hz]; exact Nat.mul_pos (by omega) hk, by simp⟩)), ?_⟩
      rw [add_flat, add_flat, show off + j / k * k + j % k = off + j by omega] at hc
      rw [hc]
end
set_option maxRecDepth 100000 in
theorem one_exch {H : Type} {enc : TypeId × Value → H} {w : World} {base : Nat} {spare : Nat → Bool} {held : Bool} {fuel : Nat} {cs : List Value} {x : DataW H × List MemPlace} (h : DataW.trod enc Try.prog w base spare held fuel 95 cs = some x) : ∃ a : Ex, ExOk a ∧ cs = exC a := by
  obtain ⟨xs, n, _, _, hl, hxl, hg⟩ := DataW.trod_struct Try.underlying95 h
  rw [show Try.prog.cellsOf 95 = 5 by kernel_rfl] at hl
  have hx : xs.length = 5 := hxl
  have h0 : DataW.trod enc Try.prog w base spare held n 3 ((cs.drop 0).take (Try.prog.cellsOf 3)) = xs[0]? := hg 0 _ rfl
  have h1 : DataW.trod enc Try.prog w base spare held n 3 ((cs.drop 1).take (Try.prog.cellsOf 3)) = xs[1]? := hg 1 _ rfl
  have h2 : DataW.trod enc Try.prog w base spare held n 3 ((cs.drop 2).take (Try.prog.cellsOf 3)) = xs[2]? := hg 2 _ rfl
  have h3 : DataW.trod enc Try.prog w base spare held n 3 ((cs.drop 3).take (Try.prog.cellsOf 3)) = xs[3]? := hg 3 _ rfl
  have h4 : DataW.trod enc Try.prog w base spare held n 3 ((cs.drop 4).take (Try.prog.cellsOf 3)) = xs[4]? := hg 4 _ rfl
  rw [List.getElem?_eq_getElem (by omega)] at h0 h1 h2 h3 h4
  rw [show Try.prog.cellsOf 3 = 1 by kernel_rfl] at h0 h1 h2 h3 h4
  obtain ⟨k0, e0, _, w0⟩ := DataW.trod_int Try.underlying3 h0
  obtain ⟨k1, e1, _, w1⟩ := DataW.trod_int Try.underlying3 h1
  obtain ⟨k2, e2, _, w2⟩ := DataW.trod_int Try.underlying3 h2
  obtain ⟨k3, e3, _, w3⟩ := DataW.trod_int Try.underlying3 h3
  obtain ⟨k4, e4, _, w4⟩ := DataW.trod_int Try.underlying3 h4
  refine ⟨⟨k0, k1, k2, k3, k4⟩, ?_, ?_⟩
  · intro n hn
    simp at hn
    rcases hn with rfl | rfl | rfl | rfl | rfl
    · exact bd64 w0
    · exact bd64 w1
    · exact bd64 w2
    · exact bd64 w3
    · exact bd64 w4
  obtain ⟨a0, a1, a2, a3, a4, rfl⟩ : ∃ a0 a1 a2 a3 a4, cs = [a0, a1, a2, a3, a4] := by
    match cs, hl with
    | [a0, a1, a2, a3, a4], _ => exact ⟨_, _, _, _, _, rfl⟩
  simp at e0 e1 e2 e3 e4
  subst e0 e1 e2 e3 e4
  rfl
set_option maxRecDepth 100000 in
set_option maxHeartbeats 1000000 in
/-- The cells of a span that came in. -/
theorem one_span {H : Type} {enc : TypeId × Value → H} {W : World} {fuel : Nat} {cs : List Value} {x : DataW H × List MemPlace} (h : DataW.trod enc Try.prog W 0 (fun _ => true) true fuel 54 cs = some x) (lt : ∀ p ∈ x.2, p.block < W.heap.size) :
    ∃ s : Sv, (s.1.Lim ∧ s.1.Ints ∧ s.1.Has W W.heap.size s.2.1 s.2.2) ∧ cs = spC s := by
  obtain ⟨d, p⟩ := x
  have hf' := h
  obtain ⟨xs, n, _, hxd, hl, hxl, hg⟩ := DataW.trod_struct Try.underlying54 hf'
  rw [show Try.prog.cellsOf 54 = 14 by kernel_rfl] at hl
  have hx : xs.length = 14 := hxl
  simp only [Prod.mk.injEq] at hxd
  have ltx : ∀ j, (hj : j < xs.length) → ∀ q ∈ xs[j].2, q.block < W.heap.size := fun j hj q hq => lt q (by rw [hxd.2]; exact List.mem_flatMap.2 ⟨xs[j], List.getElem_mem hj, hq⟩)
  have h0 : DataW.trod enc Try.prog W 0 (fun _ => true) true n 3 ((cs.drop 0).take (Try.prog.cellsOf 3)) = xs[0]? := hg 0 _ rfl
  have h1 : DataW.trod enc Try.prog W 0 (fun _ => true) true n 3 ((cs.drop 1).take (Try.prog.cellsOf 3)) = xs[1]? := hg 1 _ rfl
  have h2 : DataW.trod enc Try.prog W 0 (fun _ => true) true n 3 ((cs.drop 2).take (Try.prog.cellsOf 3)) = xs[2]? := hg 2 _ rfl
  have h3 : DataW.trod enc Try.prog W 0 (fun _ => true) true n 3 ((cs.drop 3).take (Try.prog.cellsOf 3)) = xs[3]? := hg 3 _ rfl
  have h4 : DataW.trod enc Try.prog W 0 (fun _ => true) true n 3 ((cs.drop 4).take (Try.prog.cellsOf 3)) = xs[4]? := hg 4 _ rfl
  have h5 : DataW.trod enc Try.prog W 0 (fun _ => true) true n 3 ((cs.drop 5).take (Try.prog.cellsOf 3)) = xs[5]? := hg 5 _ rfl
  have h6 : DataW.trod enc Try.prog W 0 (fun _ => true) true n 9 ((cs.drop 6).take (Try.prog.cellsOf 9)) = xs[6]? := hg 6 _ rfl
  have h7 : DataW.trod enc Try.prog W 0 (fun _ => true) true n 9 ((cs.drop 7).take (Try.prog.cellsOf 9)) = xs[7]? := hg 7 _ rfl
  have h8 : DataW.trod enc Try.prog W 0 (fun _ => true) true n 9 ((cs.drop 8).take (Try.prog.cellsOf 9)) = xs[8]? := hg 8 _ rfl
  have h9 : DataW.trod enc Try.prog W 0 (fun _ => true) true n 3 ((cs.drop 9).take (Try.prog.cellsOf 3)) = xs[9]? := hg 9 _ rfl
  have h10 : DataW.trod enc Try.prog W 0 (fun _ => true) true n 3 ((cs.drop 10).take (Try.prog.cellsOf 3)) = xs[10]? := hg 10 _ rfl
  have h11 : DataW.trod enc Try.prog W 0 (fun _ => true) true n 4 ((cs.drop 11).take (Try.prog.cellsOf 4)) = xs[11]? := hg 11 _ rfl
  have h12 : DataW.trod enc Try.prog W 0 (fun _ => true) true n 51 ((cs.drop 12).take (Try.prog.cellsOf 51)) = xs[12]? := hg 12 _ rfl
  have h13 : DataW.trod enc Try.prog W 0 (fun _ => true) true n 52 ((cs.drop 13).take (Try.prog.cellsOf 52)) = xs[13]? := hg 13 _ rfl
  rw [List.getElem?_eq_getElem (by omega)] at h0 h1 h2 h3 h4 h5 h6 h7 h8 h9 h10 h11 h12 h13
  rw [show Try.prog.cellsOf 3 = 1 by kernel_rfl] at h0 h1 h2 h3 h4 h5 h9 h10
  rw [show Try.prog.cellsOf 9 = 1 by kernel_rfl] at h6 h7 h8
  rw [show Try.prog.cellsOf 4 = 1 by kernel_rfl] at h11
  rw [show Try.prog.cellsOf 51 = 1 by kernel_rfl] at h12
  rw [show Try.prog.cellsOf 52 = 1 by kernel_rfl] at h13
  obtain ⟨t, e0, _, w0⟩ := DataW.trod_int Try.underlying3 h0
  obtain ⟨i, e1, _, w1⟩ := DataW.trod_int Try.underlying3 h1
  obtain ⟨p_, e2, _, w2⟩ := DataW.trod_int Try.underlying3 h2
  obtain ⟨r, e3, _, w3⟩ := DataW.trod_int Try.underlying3 h3
  obtain ⟨c, e4, _, w4⟩ := DataW.trod_int Try.underlying3 h4
  obtain ⟨k, e5, _, w5⟩ := DataW.trod_int Try.underlying3 h5
  obtain ⟨sv, e6, _, w6⟩ := DataW.trod_string Try.underlying9 h6
  obtain ⟨ve, e7, _, w7⟩ := DataW.trod_string Try.underlying9 h7
  obtain ⟨op, e8, _, w8⟩ := DataW.trod_string Try.underlying9 h8
  obtain ⟨st, e9, _, w9⟩ := DataW.trod_int Try.underlying3 h9
  obtain ⟨en, e10, _, w10⟩ := DataW.trod_int Try.underlying3 h10
  obtain ⟨er, e11, _⟩ := DataW.trod_bool Try.underlying4 h11
  obtain ⟨A, ca, al, e12, l12, q12, r12⟩ := open_rows (⟨⟨#[]⟩, 0, ⟨#[]⟩, 0⟩ : At) Try.underlying51 4 (by decide) (by kernel_rfl) At.cells (fun _ => rfl) At.Fine (fun _ _ _ h => one_attr h) h12 (ltx 12 (by omega))
  obtain ⟨A2, cl, ls, e13, l13, q13, r13⟩ := open_rows ((0, 0) : Int × Int) Try.underlying52 2 (by decide) (by kernel_rfl) rfC (fun _ => rfl) RfOk (fun _ _ _ h => one_ref h) h13 (ltx 13 (by omega))
  refine ⟨(⟨t, i, p_, r, c, k, sv, ve, op, st, en, er, al, ls⟩, .slice A al.length ca, .slice A2 ls.length cl), ⟨⟨l12, l13, w6, w7, w8, fun a ha => (q12 a ha).2⟩, ⟨?_, ?_, fun a ha => (q12 a ha).1, q13⟩, ⟨A, ca, A2, cl, rfl, rfl, r12, r13⟩⟩, ?_⟩
  rotate_left 2
  · have hcs : ∃ b0 b1 b2 b3 b4 b5 b6 b7 b8 b9 b10 b11 b12 b13, cs = [b0, b1, b2, b3, b4, b5, b6, b7, b8, b9, b10, b11, b12, b13] := by
      match cs, hl with
      | [b0, b1, b2, b3, b4, b5, b6, b7, b8, b9, b10, b11, b12, b13], _ => exact ⟨_, _, _, _, _, _, _, _, _, _, _, _, _, _, rfl⟩
    obtain ⟨b0, b1, b2, b3, b4, b5, b6, b7, b8, b9, b10, b11, b12, b13, rfl⟩ := hcs
    simp at e0 e1 e2 e3 e4 e5 e6 e7 e8 e9 e10 e11 e12 e13
    subst e0 e1 e2 e3 e4 e5 e6 e7 e8 e9 e10 e11 e12 e13
    rfl
  · intro n hn
    simp at hn
    rcases hn with rfl | rfl | rfl | rfl | rfl | rfl
    · exact bd64 w0
    · exact bd64 w1
    · exact bd64 w2
    · exact bd64 w3
    · exact bd64 w4
    · exact bd64 w5
  · intro n hn
    simp at hn
    rcases hn with rfl | rfl
    · exact bd64 w9
    · exact bd64 w10
set_option maxRecDepth 100000 in
set_option maxHeartbeats 1000000 in
/-- A fragment that came in. -/
theorem open_frag {H : Type} {enc : TypeId × Value → H} {W : World} {base : Nat} {v : Value} {d : DataW H} {p : List MemPlace} {rch : Reach}
    (hv : Value.okWide Try.prog W rch base 62 v) (h : DataW.Trod enc Try.prog W 0 (fun _ => true) true 62 v d p) (lt : ∀ x ∈ p, x.block < W.heap.size) :
    ∃ (a q : Int) (A : Option Addr) (c : Nat) (L : List Sv) (A2 : Option Addr) (c2 : Nat) (M : List Ex), v = .agg #[.int .i64 a, .int .i64 q, .slice A L.length c, .slice A2 M.length c2] ∧ In64 a ∧ In64 q ∧ L.length ≤ 9223372036854775807 ∧ M.length ≤ 9223372036854775807 ∧ (∀ x ∈ L, x.1.Lim) ∧ (∀ x ∈ L, x.1.Ints) ∧ (∀ x ∈ M, ExOk x) ∧ Fr W A L A2 M := by
  obtain ⟨cs0, rfl, hsz⟩ := okWide_struct Try.underlying62 hv
  obtain ⟨fuel, hf⟩ := h
  obtain ⟨cs⟩ := cs0
  have hf' : DataW.trod enc Try.prog W 0 (fun _ => true) true fuel 62 cs = some (d, p) := hf
  obtain ⟨xs, n, _, hxd, hl, hxl, hg⟩ := DataW.trod_struct Try.underlying62 hf'
  rw [show Try.prog.cellsOf 62 = 4 by kernel_rfl] at hl
  have hx : xs.length = 4 := hxl
  simp only [Prod.mk.injEq] at hxd
  have ltx : ∀ j, (hj : j < xs.length) → ∀ q ∈ xs[j].2, q.block < W.heap.size := fun j hj q hq => lt q (by rw [hxd.2]; exact List.mem_flatMap.2 ⟨xs[j], List.getElem_mem hj, hq⟩)
  have h0 : DataW.trod enc Try.prog W 0 (fun _ => true) true n 3 ((cs.drop 0).take (Try.prog.cellsOf 3)) = xs[0]? := hg 0 _ rfl
  have h1 : DataW.trod enc Try.prog W 0 (fun _ => true) true n 3 ((cs.drop 1).take (Try.prog.cellsOf 3)) = xs[1]? := hg 1 _ rfl
  have h2 : DataW.trod enc Try.prog W 0 (fun _ => true) true n 59 ((cs.drop 2).take (Try.prog.cellsOf 59)) = xs[2]? := hg 2 _ rfl
  have h3 : DataW.trod enc Try.prog W 0 (fun _ => true) true n 60 ((cs.drop 3).take (Try.prog.cellsOf 60)) = xs[3]? := hg 3 _ rfl
  rw [List.getElem?_eq_getElem (by omega)] at h0 h1 h2 h3
  rw [show Try.prog.cellsOf 3 = 1 by kernel_rfl] at h0 h1
  rw [show Try.prog.cellsOf 59 = 1 by kernel_rfl] at h2
  rw [show Try.prog.cellsOf 60 = 1 by kernel_rfl] at h3
  obtain ⟨a, e0, _, w0⟩ := DataW.trod_int Try.underlying3 h0
  obtain ⟨q, e1, _, w1⟩ := DataW.trod_int Try.underlying3 h1
  obtain ⟨A, c, L, e2, l2, q2, r2⟩ := open_rows2 ((spZ, .slice none 0 0, .slice none 0 0) : Sv) Try.underlying59 14 (by decide) (by kernel_rfl) spC (fun _ => rfl) (fun s : Sv => s.1.Lim ∧ s.1.Ints ∧ s.1.Has W W.heap.size s.2.1 s.2.2) (fun _ _ _ h hl => one_span h hl) h2 (ltx 2 (by omega))
  obtain ⟨A2, c2, M, e3, l3, q3, r3⟩ := open_rows (⟨0, 0, 0, 0, 0⟩ : Ex) Try.underlying60 5 (by decide) (by kernel_rfl) exC (fun _ => rfl) ExOk (fun _ _ _ h => one_exch h) h3 (ltx 3 (by omega))
  refine ⟨a, q, A, c, L, A2, c2, M, ?_, bd64 w0, bd64 w1, l2, l3, fun x hx => (q2 x hx).1, fun x hx => (q2 x hx).2.1, q3, fun x hx => (q2 x hx).2.2, r2, r3⟩
  obtain ⟨b0, b1, b2, b3, rfl⟩ : ∃ b0 b1 b2 b3, cs = [b0, b1, b2, b3] := by
    match cs, hl with
    | [b0, b1, b2, b3], _ => exact ⟨_, _, _, _, rfl⟩
  simp at e0 e1 e2 e3
  subst e0 e1 e2 e3
  rfl
end Go.Proofs.Ytepcihfkkeahhaa
