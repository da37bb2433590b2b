/- From a walk to a row, where arguments lead to memory that the call leaves as it was: sets, slices of runs, of ints. -/
import Derived.Test.YtacgomhegjilgaaGf
import Derived.ChangeSame
import Derived.JoinedOf
import Derived.JoinedAt
import Derived.RowKit3
import Derived.Lib.SmallJoins
import Derived.Carry
import Derived.SliceStrings
import Derived.ChangeSlices
import Derived.Deep.Slices
import Derived.OpenShut
import Derived.ChangeArms
namespace Go.Proofs.Ytacgomhegjilgaa
open Go.ChangeShapes Go.WideShapes Go.ChangeAt Go.RowKit Go.Joins Ts

theorem own : ownKnob Try.prog.godebug = none := by kernel_rfl
theorem laidOut : laidOutB Try.prog = true := by kernel_rfl
section
variable {H : Type} {enc : TypeId × Value → H} {P : Program}
/-- An argument reads behind the call as before, in each mode that holds its places. -/
theorem carry {t : TypeId} (hl : laidOutB P = true) (hr : P.readableRec t = true) (hrow : t < P.types.size) {W W' : World} {v : Value} {d : DataW H} {ps : List MemPlace}
    (h : DataW.Trod enc P W 0 (fun _ => true) true t v d ps) (below : Below W.heap.size W W') (lt : ∀ x ∈ ps, x.block < W.heap.size) (sp : Nat → Bool) (hsp : ∀ x ∈ ps, sp x.block = true) :
    DataW.Trod enc P W' 0 sp true t v d ps :=
  WideElems.Trod_stays hl hr hrow h (fun x hx => below.same (lt x hx)) hsp
/-- The last step of a row whose call has turned nothing of the memory that was there. -/
theorem post_mem {f : Func} {s : ChangeSpec} {apart fresh handsOn again : Bool} {W W' : World} {args : Array Value} {v : Value} {ds gs : List (DataW H)} {pa : List MemPlace}
    (whole : DataW.Whole enc P f.params.toList s.vars apart W args.toList ds gs pa) (below : Below W.heap.size W W')
    (res : ∀ (b : Nat) (sp : Nat → Bool) (hd : Bool), DataW.TrodAll enc P W' b sp hd f.resultTypes.toList (v.resultList f.resultTypes.size) (s.fn H (ds ++ gs)).results [])
    (arg : ∀ sp : Nat → Bool, (∀ p ∈ pa, sp p.block = true) → DataW.TrodAll enc P W' 0 sp true f.params.toList args.toList (s.fn H (ds ++ gs)).args pa)
    (var : ∀ sp : Nat → Bool, DataW.TrodVars enc P W' sp s.vars (s.fn H (ds ++ gs)).vars [])
    (ok : ∀ (j : Nat) (t : TypeId) (r : Value), f.resultTypes[j]? = some t → (v.resultList f.resultTypes.size)[j]? = some r → Value.okWide P W' .any 0 t r) :
    s.post enc P f apart fresh handsOn again W args v W' := by
  have old : ∀ p ∈ pa, p.block < W.heap.size := fun p hp => whole.lt p hp
  refine ⟨ds, gs, pa, [], pa, [], whole, res _ _ _, arg (fun b => decide (b < W.heap.size)) (fun p hp => by simpa using old p hp), var _, World.keptBut_mono (fun p hp => ⟨hp, .inr (.inl hp)⟩) (below.frame (· ∈ pa)), fun _ => ?_⟩
  obtain ⟨_, _, _, _, _, free, once⟩ := whole
  refine ⟨ok, _, _, [] ++ pa, ⟨[] ++ pa, [], trodAll_append (arg (fun _ => true) (fun _ _ => rfl)) (res _ _ _), var _, by simp, ?_, fun h => by simpa using once h⟩, ?_⟩
  · intro b o hp
    have hp' : MemPlace.cell b o ∈ pa := by simpa using hp
    rw [below.frozen (old _ hp')]
    exact free b o hp'
  · intro p hp _
    simpa using hp
end


theorem bd64 {a : Int} (w : (Lit.int .i64 a).wf = true) : -9223372036854775808 ≤ a ∧ a ≤ 9223372036854775807 := by
  simpa [Lit.wf, IntKind.min, IntKind.max, IntKind.signed, IntKind.bits] using w
theorem bdu16 {a : Int} (w : (Lit.int .u16 a).wf = true) : 0 ≤ a ∧ a ≤ 65535 := by
  simpa [Lit.wf, IntKind.min, IntKind.max, IntKind.signed, IntKind.bits] using w
theorem bd8 {a : Int} (w : (Lit.int .u8 a).wf = true) : 0 ≤ a ∧ a ≤ 255 := by
  simpa [Lit.wf, IntKind.min, IntKind.max, IntKind.signed, IntKind.bits] using w
def IvOk (x : Iv) : Prop := (-9223372036854775808 ≤ x.1 ∧ x.1 ≤ 9223372036854775807) ∧ (-9223372036854775808 ≤ x.2 ∧ x.2 ≤ 9223372036854775807)
set_option maxRecDepth 100000 in
theorem one_iv {H : Type} {enc : TypeId × Value → H} {w : World} {base : Nat} {spare : Nat → Bool} {held : Bool} {fuel : Nat} {cs : List Value} {x : DataW H × List MemPlace} (h : DataW.trod enc Try.prog w base spare held fuel 39 cs = some x) : ∃ a : Iv, IvOk a ∧ cs = ivC a := by
  obtain ⟨xs, n, _, _, hl, hxl, hg⟩ := DataW.trod_struct Try.underlying39 h
  rw [show Try.prog.cellsOf 39 = 2 by kernel_rfl] at hl
  have hx : xs.length = 2 := hxl
  have h0 : DataW.trod enc Try.prog w base spare held n 3 ((cs.drop 0).take (Try.prog.cellsOf 3)) = xs[0]? := hg 0 _ rfl
  have h1 : DataW.trod enc Try.prog w base spare held n 3 ((cs.drop 1).take (Try.prog.cellsOf 3)) = xs[1]? := hg 1 _ rfl
  rw [List.getElem?_eq_getElem (by omega)] at h0 h1
  rw [show Try.prog.cellsOf 3 = 1 by kernel_rfl] at h0 h1
  obtain ⟨k, e0, _, w0⟩ := DataW.trod_int Try.underlying3 h0
  obtain ⟨m, e1, _, w1⟩ := DataW.trod_int Try.underlying3 h1
  refine ⟨(k, m), ⟨bd64 w0, bd64 w1⟩, ?_⟩
  obtain ⟨a0, a1, rfl⟩ : ∃ a0 a1, cs = [a0, a1] := by
    match cs, hl with
    | [a0, a1], _ => exact ⟨_, _, rfl⟩
  simp at e0 e1
  subst e0 e1
  rfl
set_option maxRecDepth 100000 in
/-- A slice of runs that came in. -/
theorem open_runs {H : Type} {enc : TypeId × Value → H} {W : World} {base : Nat} {v : Value} {d : DataW H} {p : List MemPlace} {r : Reach}
    (hv : Value.okWide Try.prog W r base 24 v) (h : DataW.Trod enc Try.prog W 0 (fun _ => true) true 24 v d p) (lt : ∀ x ∈ p, x.block < W.heap.size) :
    ∃ (A : Option Addr) (c : Nat) (L : List Iv), v = .slice A L.length c ∧ L.length ≤ 9223372036854775807 ∧ (∀ x ∈ L, IvOk x) ∧ Rs W W.heap.size A (ivCells L) := by
  obtain ⟨A, n, c, rfl⟩ := okWide_slice Try.underlying24 hv
  obtain ⟨fuel, hf⟩ := h
  obtain ⟨A', c', L, e, hl, hok, hR⟩ := open_rows ((0, 0) : Iv) Try.underlying24 2 (by decide) (by kernel_rfl) ivC (fun _ => rfl) IvOk (fun _ _ _ h => one_iv h) hf lt
  simp only [Value.cells, List.cons.injEq, Value.slice.injEq, and_true] at e
  obtain ⟨rfl, rfl, rfl⟩ := e
  exact ⟨_, _, L, rfl, hl, hok, hR⟩
set_option maxRecDepth 100000 in
theorem one_pr {H : Type} {enc : TypeId × Value → H} {w : World} {base : Nat} {spare : Nat → Bool} {held : Bool} {fuel : Nat} {cs : List Value} {x : DataW H × List MemPlace} (h : DataW.trod enc Try.prog w base spare held fuel 82 cs = some x) : ∃ a : Iv, PrOk a ∧ cs = prC a := by
  obtain ⟨xs, n, _, _, hl, hxl, hg⟩ := DataW.trod_array Try.underlying82 h
  rw [show Try.prog.cellsOf 82 = 2 by kernel_rfl] at hl
  rw [show Try.prog.cellsOf 5 = 1 by kernel_rfl] at hg
  have h0 : DataW.trod enc Try.prog w base spare held n 5 ((cs.drop 0).take 1) = xs[0]? := hg 0 (by decide)
  have h1 : DataW.trod enc Try.prog w base spare held n 5 ((cs.drop 1).take 1) = xs[1]? := hg 1 (by decide)
  rw [List.getElem?_eq_getElem (by omega)] at h0 h1
  obtain ⟨k, e0, _, w0⟩ := DataW.trod_int Try.underlying5 h0
  obtain ⟨m, e1, _, w1⟩ := DataW.trod_int Try.underlying5 h1
  refine ⟨(k, m), ⟨bd8 w0, bd8 w1⟩, ?_⟩
  obtain ⟨a0, a1, rfl⟩ : ∃ a0 a1, cs = [a0, a1] := by
    match cs, hl with
    | [a0, a1], _ => exact ⟨_, _, rfl⟩
  simp at e0 e1
  subst e0 e1
  rfl
theorem one_num {H : Type} {enc : TypeId × Value → H} {w : World} {base : Nat} {spare : Nat → Bool} {held : Bool} {fuel : Nat} {cs : List Value} {x : DataW H × List MemPlace} (h : DataW.trod enc Try.prog w base spare held fuel 3 cs = some x) : ∃ a : Int, True ∧ cs = [.int .i64 a] := by
  obtain ⟨k, e0, _, _⟩ := DataW.trod_int Try.underlying3 h
  exact ⟨k, trivial, e0⟩
theorem nc_flat (L : List Int) : L.flatMap (fun x => [Value.int .i64 x]) = nC L := by
  induction L with
  | nil => rfl
  | cons x L ih => rw [List.flatMap_cons, ih]; rfl
set_option maxRecDepth 100000 in
/-- A slice of ints that came in. -/
theorem open_nums {H : Type} {enc : TypeId × Value → H} {W : World} {base : Nat} {v : Value} {d : DataW H} {p : List MemPlace} {r : Reach}
    (hv : Value.okWide Try.prog W r base 22 v) (h : DataW.Trod enc Try.prog W 0 (fun _ => true) true 22 v d p) (lt : ∀ x ∈ p, x.block < W.heap.size) :
    ∃ (A : Option Addr) (c : Nat) (L : List Int), v = .slice A L.length c ∧ L.length ≤ 9223372036854775807 ∧ Rs W W.heap.size A (nC L) := by
  obtain ⟨A, n, c, rfl⟩ := okWide_slice Try.underlying22 hv
  obtain ⟨fuel, hf⟩ := h
  obtain ⟨A', c', L, e, hl, _, hR⟩ := open_rows (0 : Int) Try.underlying22 1 (by decide) (by kernel_rfl) (fun x => [Value.int .i64 x]) (fun _ => rfl) (fun _ => True) (fun _ _ _ h => one_num h) hf lt
  simp only [Value.cells, List.cons.injEq, Value.slice.injEq, and_true] at e
  obtain ⟨rfl, rfl, rfl⟩ := e
  rw [nc_flat] at hR
  exact ⟨_, _, L, rfl, hl, hR⟩
set_option maxRecDepth 100000 in
/-- A Set that came in. -/
theorem open_set {H : Type} {enc : TypeId × Value → H} {W : World} {base : Nat} {v : Value} {d : DataW H} {p : List MemPlace} {rch : Reach}
    (hv : Value.okWide Try.prog W rch base 36 v) (h : DataW.Trod enc Try.prog W 0 (fun _ => true) true 36 v d p) (lt : ∀ x ∈ p, x.block < W.heap.size) :
    ∃ (b : Int) (A : Option Addr) (c : Nat) (L : List Iv), v = .agg #[.int .u16 b, .slice A L.length c] ∧ (0 ≤ b ∧ b ≤ 65535) ∧ L.length ≤ 9223372036854775807 ∧ (∀ x ∈ L, PrOk x) ∧ Rs W W.heap.size A (prCells L) := by
  obtain ⟨cs0, rfl, hsz⟩ := okWide_struct Try.underlying36 hv
  obtain ⟨fuel, hf⟩ := h
  obtain ⟨cs⟩ := cs0
  have hf' : DataW.trod enc Try.prog W 0 (fun _ => true) true fuel 36 cs = some (d, p) := hf
  obtain ⟨xs, n, _, hxd, hl, hxl, hg⟩ := DataW.trod_struct Try.underlying36 hf'
  rw [show Try.prog.cellsOf 36 = 2 by kernel_rfl] at hl
  have hx : xs.length = 2 := hxl
  simp only [Prod.mk.injEq] at hxd
  have ltx : ∀ j, (hj : j < xs.length) → ∀ q ∈ xs[j].2, q.block < W.heap.size := fun j hj q hq => lt q (by rw [hxd.2]; exact List.mem_flatMap.2 ⟨xs[j], List.getElem_mem hj, hq⟩)
  have h0 : DataW.trod enc Try.prog W 0 (fun _ => true) true n 33 ((cs.drop 0).take (Try.prog.cellsOf 33)) = xs[0]? := hg 0 _ rfl
  have h1 : DataW.trod enc Try.prog W 0 (fun _ => true) true n 34 ((cs.drop 1).take (Try.prog.cellsOf 34)) = xs[1]? := hg 1 _ rfl
  rw [List.getElem?_eq_getElem (by omega)] at h0 h1
  rw [show Try.prog.cellsOf 33 = 1 by kernel_rfl] at h0
  rw [show Try.prog.cellsOf 34 = 1 by kernel_rfl] at h1
  obtain ⟨b, e0, _, w0⟩ := DataW.trod_int Try.underlying33 h0
  obtain ⟨A, c, L, e1, hL, hok, hR⟩ := open_rows ((0, 0) : Iv) Try.underlying34 2 (by decide) (by kernel_rfl) prC (fun _ => rfl) PrOk (fun _ _ _ h => one_pr h) h1 (ltx 1 (by omega))
  obtain ⟨a0, a1, rfl⟩ : ∃ a0 a1, cs = [a0, a1] := by
    match cs, hl with
    | [a0, a1], _ => exact ⟨_, _, rfl⟩
  simp at e0 e1
  subst e0 e1
  exact ⟨b, A, c, L, rfl, bdu16 w0, hL, hok, hR⟩
end Go.Proofs.Ytacgomhegjilgaa
