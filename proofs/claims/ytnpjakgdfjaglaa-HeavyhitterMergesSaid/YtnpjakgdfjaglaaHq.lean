/- Summaries as arguments; New and equal at no counters. -/
import Derived.Test.YtnpjakgdfjaglaaHm
import Derived.Test.YtnpjakgdfjaglaaHr
import Derived.Test.YtnpjakgdfjaglaaHj
namespace Go.Proofs.Ytnpjakgdfjaglaa
open Go.ChangeShapes Go.WideShapes Go.ChangeAt Go.RowKit Go.Joins

def CtOk (x : Ct) : Prop := x.1.size ≤ 9223372036854775807 ∧ -9223372036854775808 ≤ x.2 ∧ x.2 ≤ 9223372036854775807
theorem CW.ofRs {w : World} {A : Option Addr} {L : List Ct} (h : Rs w w.heap.size A (ctCells L)) : CW w A L := fun j hj => by
  have hl := ct_len L
  obtain ⟨g0, g1⟩ := ct_get L j hj
  obtain ⟨b, off, e, hb, h0⟩ := h (j * 2) (by omega)
  obtain ⟨b', off', e', _, h1⟩ := h (j * 2 + 1) (by omega)
  rw [e] at e'
  injection e' with e'
  injection e' with e1 e2
  subst e1 e2
  refine ⟨b, off, e, hb, ?_, ?_⟩
  · rw [h0]
    rw [List.getElem?_eq_getElem (by omega)] at g0
    exact g0
  · rw [show off + j * 2 + 1 = off + (j * 2 + 1) by omega, h1]
    rw [List.getElem?_eq_getElem (by omega)] at g1
    exact g1
set_option maxRecDepth 100000 in
theorem one_ct {H : Type} {enc : TypeId × Value → H} {w : World} {base : Nat} {spare : Nat → Bool} {held : Bool} {fuel : Nat} {cs : List Value} {x : DataW H × List MemPlace} (h : DataW.trod enc Try.prog w base spare held fuel 27 cs = some x) : ∃ a : Ct, CtOk a ∧ cs = ctC a := by
  obtain ⟨xs, n, _, _, hl, hxl, hg⟩ := DataW.trod_struct Try.underlying27 h
  rw [show Try.prog.cellsOf 27 = 2 by kernel_rfl] at hl
  have hx : xs.length = 2 := hxl
  have h0 : DataW.trod enc Try.prog w base spare held n 9 ((cs.drop 0).take (Try.prog.cellsOf 9)) = xs[0]? := hg 0 _ rfl
  have h1 : DataW.trod enc Try.prog w base spare held n 3 ((cs.drop 1).take (Try.prog.cellsOf 3)) = xs[1]? := hg 1 _ rfl
  rw [List.getElem?_eq_getElem (by omega)] at h0 h1
  rw [show Try.prog.cellsOf 9 = 1 by kernel_rfl] at h0
  rw [show Try.prog.cellsOf 3 = 1 by kernel_rfl] at h1
  obtain ⟨key, e0, _, w0⟩ := DataW.trod_string Try.underlying9 h0
  obtain ⟨m, e1, _, w1⟩ := DataW.trod_int Try.underlying3 h1
  refine ⟨(key, m), ⟨w0, bd64 w1⟩, ?_⟩
  obtain ⟨a0, a1, rfl⟩ : ∃ a0 a1, cs = [a0, a1] := by
    match cs, hl with
    | [a0, a1], _ => exact ⟨_, _, rfl⟩
  simp at e0 e1
  subst e0 e1
  rfl
set_option maxRecDepth 100000 in
/-- A summary that came in. -/
theorem open_sum {H : Type} {enc : TypeId × Value → H} {W : World} {base : Nat} {v : Value} {d : DataW H} {p : List MemPlace} {rch : Reach}
    (hv : Value.okWide Try.prog W rch base 24 v) (h : DataW.Trod enc Try.prog W 0 (fun _ => true) true 24 v d p) (lt : ∀ x ∈ p, x.block < W.heap.size) :
    ∃ (m t l : Int) (A : Option Addr) (c : Nat) (L : List Ct), v = .agg #[.int .i64 m, .int .i64 t, .int .i64 l, .slice A L.length c] ∧ (-9223372036854775808 ≤ m ∧ m ≤ 9223372036854775807) ∧ (-9223372036854775808 ≤ t ∧ t ≤ 9223372036854775807) ∧ (-9223372036854775808 ≤ l ∧ l ≤ 9223372036854775807) ∧ L.length ≤ 9223372036854775807 ∧ L.length ≤ c ∧ (A = none → c = 0) ∧ (∀ x ∈ L, CtOk x) ∧ CW W A L := by
  obtain ⟨cs0, rfl, hsz⟩ := okWide_struct Try.underlying24 hv
  obtain ⟨fuel, hf⟩ := h
  obtain ⟨cs⟩ := cs0
  have hf' : DataW.trod enc Try.prog W 0 (fun _ => true) true fuel 24 cs = some (d, p) := hf
  obtain ⟨xs, n, _, hxd, hl, hxl, hg⟩ := DataW.trod_struct Try.underlying24 hf'
  rw [show Try.prog.cellsOf 24 = 4 by kernel_rfl] at hl
  have hx : xs.length = 4 := hxl
  simp only [Prod.mk.injEq] at hxd
  have ltx : ∀ j, (hj : j < xs.length) → ∀ q ∈ xs[j].2, q.block < W.heap.size := fun j hj q hq => lt q (by rw [hxd.2]; exact List.mem_flatMap.2 ⟨xs[j], List.getElem_mem hj, hq⟩)
  have h0 : DataW.trod enc Try.prog W 0 (fun _ => true) true n 3 ((cs.drop 0).take (Try.prog.cellsOf 3)) = xs[0]? := hg 0 _ rfl
  have h1 : DataW.trod enc Try.prog W 0 (fun _ => true) true n 3 ((cs.drop 1).take (Try.prog.cellsOf 3)) = xs[1]? := hg 1 _ rfl
  have h2 : DataW.trod enc Try.prog W 0 (fun _ => true) true n 3 ((cs.drop 2).take (Try.prog.cellsOf 3)) = xs[2]? := hg 2 _ rfl
  have h3 : DataW.trod enc Try.prog W 0 (fun _ => true) true n 22 ((cs.drop 3).take (Try.prog.cellsOf 22)) = xs[3]? := hg 3 _ rfl
  rw [List.getElem?_eq_getElem (by omega)] at h0 h1 h2 h3
  rw [show Try.prog.cellsOf 3 = 1 by kernel_rfl] at h0 h1 h2
  rw [show Try.prog.cellsOf 22 = 1 by kernel_rfl] at h3
  obtain ⟨m, e0, _, w0⟩ := DataW.trod_int Try.underlying3 h0
  obtain ⟨t, e1, _, w1⟩ := DataW.trod_int Try.underlying3 h1
  obtain ⟨l, e2, _, w2⟩ := DataW.trod_int Try.underlying3 h2
  obtain ⟨A, c, L, e3, hL, hc, hn, hok, hR⟩ := open_rows ((ByteArray.empty, 0) : Ct) Try.underlying22 2 (by decide) (by kernel_rfl) ctC (fun _ => rfl) CtOk (fun _ _ _ h => one_ct h) h3 (ltx 3 (by omega))
  obtain ⟨a0, a1, a2, a3, rfl⟩ : ∃ a0 a1 a2 a3, cs = [a0, a1, a2, a3] := by
    match cs, hl with
    | [a0, a1, a2, a3], _ => exact ⟨_, _, _, _, rfl⟩
  simp at e0 e1 e2 e3
  subst e0 e1 e2 e3
  exact ⟨m, t, l, A, c, L, rfl, bd64 w0, bd64 w1, bd64 w2, hL, hc, hn, hok, CW.ofRs hR⟩
theorem new_bad (n : Int) (h : ¬(1 ≤ n ∧ n ≤ 256)) (w : World) : Calls Try.prog 14 #[.int .i64 n] w fun e w' => (∃ A c, e = .returned (.tuple #[.agg #[.int .i64 0, .int .i64 0, .int .i64 0, .slice A 0 c], .int .i64 2]) ∧ SlV w' (.slice A 0 c) []) ∧ Below w.heap.size w w' := by
  have := new_any n w
  rw [neS, if_neg h] at this
  refine this.mono ?_
  rintro e w' ⟨⟨v, rfl, u, rfl, h⟩, hb⟩
  obtain ⟨A, c, rfl, _⟩ := id h
  exact ⟨⟨A, c, rfl, h⟩, hb⟩
theorem new_good (n : Int) (h : 1 ≤ n ∧ n ≤ 256) (w : World) : Calls Try.prog 14 #[.int .i64 n] w fun e w' => (∃ A c, e = .returned (.tuple #[.agg #[.int .i64 n, .int .i64 0, .int .i64 0, .slice A 0 c], .int .i64 0]) ∧ SlV w' (.slice A 0 c) []) ∧ Below w.heap.size w w' := by
  have := new_any n w
  rw [neS, if_pos h] at this
  refine this.mono ?_
  rintro e w' ⟨⟨v, rfl, u, rfl, h⟩, hb⟩
  obtain ⟨A, c, rfl, _⟩ := id h
  exact ⟨⟨A, c, rfl, h⟩, hb⟩
theorem eq_none (n : Int) (A : Option Addr) (c : Nat) (w : World) (h : SlV w (.slice A 0 c) []) : Calls Try.prog 15 #[.agg #[.int .i64 n, .int .i64 0, .int .i64 0, .slice A 0 c], .agg #[.int .i64 n, .int .i64 0, .int .i64 0, .slice none 0 0]] w fun e w' => e = .returned (.bool true) ∧ Below w.heap.size w w' := by
  have := equal_any _ _ ⟨n, 0, 0, []⟩ ⟨n, 0, 0, []⟩ (by simp) w ⟨_, rfl, h⟩ ⟨_, rfl, CRempty⟩
  rwa [show eqS ⟨n, 0, 0, []⟩ ⟨n, 0, 0, []⟩ = true by simp [eqS]] at this
end Go.Proofs.Ytnpjakgdfjaglaa
