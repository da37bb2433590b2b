/- From a walk to a row, where arguments lead to memory that the call leaves as it was: slices of strings, of ints. -/
import Derived.Test.YtomjgkflnfjjbaaKo
import Derived.Maps.AppendAt
import Derived.ChangeSame
import Derived.JoinedOf
import Derived.JoinedAt
import Derived.RowKit3
import Derived.Lib.SmallJoins
import Derived.Carry
import Derived.SliceStrings
import Derived.ChangeSlices
namespace Go.Proofs.Ytomjgkflnfjjbaa
open Go.ChangeShapes Go.WideShapes Go.ChangeAt Go.RowKit Go.Joins En

theorem own : ownKnob Try.prog.godebug = none := by kernel_rfl
theorem laidOut : laidOutB Try.prog = true := by kernel_rfl
section
variable {H : Type} {enc : TypeId × Value → H} {P : Program}
/-- An argument reads behind the call as before, in each mode that holds its places. -/
theorem carry {t : TypeId} (hl : laidOutB P = true) (hr : P.readableRec t = true) (hrow : t < P.types.size) {W W' : World} {v : Value} {d : DataW H} {ps : List MemPlace}
    (h : DataW.Trod enc P W 0 (fun _ => true) true t v d ps) (below : Below W.heap.size W W') (lt : ∀ x ∈ ps, x.block < W.heap.size) (sp : Nat → Bool) (hsp : ∀ x ∈ ps, sp x.block = true) :
    DataW.Trod enc P W' 0 sp true t v d ps :=
  WideElems.Trod_stays hl hr hrow h (fun x hx => below.same (lt x hx)) hsp
/-- The last step of a row whose call has turned nothing of the memory that was there. -/
theorem post_mem {f : Func} {s : ChangeSpec} {apart fresh handsOn again : Bool} {W W' : World} {args : Array Value} {v : Value} {ds gs : List (DataW H)} {pa : List MemPlace}
    (whole : DataW.Whole enc P f.params.toList s.vars apart W args.toList ds gs pa) (below : Below W.heap.size W W')
    (res : ∀ (b : Nat) (sp : Nat → Bool) (hd : Bool), DataW.TrodAll enc P W' b sp hd f.resultTypes.toList (v.resultList f.resultTypes.size) (s.fn H (ds ++ gs)).results [])
    (arg : ∀ sp : Nat → Bool, (∀ p ∈ pa, sp p.block = true) → DataW.TrodAll enc P W' 0 sp true f.params.toList args.toList (s.fn H (ds ++ gs)).args pa)
    (var : ∀ sp : Nat → Bool, DataW.TrodVars enc P W' sp s.vars (s.fn H (ds ++ gs)).vars [])
    (ok : ∀ (j : Nat) (t : TypeId) (r : Value), f.resultTypes[j]? = some t → (v.resultList f.resultTypes.size)[j]? = some r → Value.okWide P W' .any 0 t r) :
    s.post enc P f apart fresh handsOn again W args v W' := by
  have old : ∀ p ∈ pa, p.block < W.heap.size := fun p hp => whole.lt p hp
  refine ⟨ds, gs, pa, [], pa, [], whole, res _ _ _, arg (fun b => decide (b < W.heap.size)) (fun p hp => by simpa using old p hp), var _, World.keptBut_mono (fun p hp => ⟨hp, .inr (.inl hp)⟩) (below.frame (· ∈ pa)), fun _ => ?_⟩
  obtain ⟨_, _, _, _, _, free, once⟩ := whole
  refine ⟨ok, _, _, [] ++ pa, ⟨[] ++ pa, [], trodAll_append (arg (fun _ => true) (fun _ _ => rfl)) (res _ _ _), var _, by simp, ?_, fun h => by simpa using once h⟩, ?_⟩
  · intro b o hp
    have hp' : MemPlace.cell b o ∈ pa := by simpa using hp
    rw [below.frozen (old _ hp')]
    exact free b o hp'
  · intro p hp _
    simpa using hp
end

/-- Two rows of the call's own lie in two blocks. -/
def Sep (v v' : Value) : Prop := v.ownBlock = none ∨ v'.ownBlock = none ∨ v.ownBlock ≠ v'.ownBlock
theorem Sep.symm {v v' : Value} (h : Sep v v') : Sep v' v := by
  rcases h with h | h | h
  · exact Or.inr (Or.inl h)
  · exact Or.inl h
  · exact Or.inr (Or.inr (Ne.symm h))
theorem Sep.kept {w w' : World} {base n : Nat} {e : TypeId} {v v' : Value} {xs : List Value} (h : Sep v v') (ho : w.ownsRow base e 1 v' n xs) (hg : w.grownBy w' v.ownBlock) : w'.ownsRow base e 1 v' n xs := by
  refine World.ownsRow.kept ho hg ?_
  rcases h with h | h | h
  · rw [h]
    cases v'.ownBlock with
    | none => exact Or.inl rfl
    | some g => exact Or.inr (by simp)
  · exact Or.inl h
  · exact Or.inr (Ne.symm h)
section
variable {P : Program} {w : World}
/-- append of one element, which lies in a block of one cell, to one of two rows of the call's own. -/
theorem wpList_append_two {ops : Array Oper} {rest : List Oper} {o : Oper} {a : Act} {Q : Exit → Act → World → Prop} (hg : o.guard = none) (s x : Operand) (t : TypeId)
    (ho : o.op = .call { callee := .builtin .append, args := #[s, x], argTypes := #[t, t] })
    (base : Nat) (e : TypeId) (i : TypeInfo) (z : Value) (bytes : Nat) (ht : P.underlying t = some (.slice e)) (hi : P.info? e = some i) (hz : i.zero = some z)
    (hsize : i.size = 1) (hby : i.bytes = bytes) (hzs : z.cells.size = 1)
    (v : Value) (n : Nat) (xs : List Value) (hs : a.eval s = v) (hown : w.ownsRow base e 1 v n xs)
    (e2 : TypeId) (v2 : Value) (n2 : Nat) (xs2 : List Value) (hown2 : w.ownsRow base e2 1 v2 n2 xs2) (hsep : Sep v v2)
    (g c : Nat) (u : Value) (hx : a.eval x = .slice (some ⟨g, 0, none⟩) 1 c) (hu : w.cell? ⟨g, 0, none⟩ = some u) (h1 : u.oneCell' = true)
    (hn : n ≤ 1000000) (hb : bytes ≤ 1000000) (hbase : base ≤ w.heap.size)
    (h : ∀ v' w', w'.ownsRow base e 1 v' (n + 1) (xs ++ [u]) → w'.ownsRow base e2 1 v2 n2 xs2 → Sep v' v2 → w.grownBy w' v.ownBlock → wpList P ops Q rest (a.put o.dst v') w') : wpList P ops Q (o :: rest) a w := by
  refine wpList_append_own_at w hg s x t ho base e i z 1 bytes ht hi hz hsize hby hzs (by omega) v n xs hs hown ⟨g, 0, none⟩ 1 c [u] hx (by simp) (fun j y hy => ?_) (fun y hy => ?_) (by unfold maxLen; omega) ?_ hbase (fun v' w' h2 h3 _ h5 => h v' w' h2 (hsep.kept hown2 h3) ?_ h3)
  · cases j with
    | zero => simp at hy; subst hy; exact hu
    | succ j => simp at hy
  · simp at hy; subst hy; exact h1
  · have := Nat.mul_le_mul (show n + 1 ≤ 1000001 by omega) hb
    omega
  · rcases h5 with h5 | h5
    · unfold Sep; rw [h5]; exact hsep
    · cases hb2 : v2.ownBlock with
      | none => exact Or.inr (Or.inl hb2)
      | some g2 =>
        refine Or.inr (Or.inr ?_)
        rw [h5, hb2]
        intro e3
        injection e3 with e3
        have := (hown2.lt g2 hb2).2
        omega
end
theorem below_ownk {a w w' : World} {B base e n : Nat} {v : Value} {xs : List Value} (h : Below B a w) (hown : w.ownsRow base e 1 v n xs) (hg : w.grownBy w' v.ownBlock) (hB : B ≤ base) (hs : B ≤ a.heap.size) : Below B a w' := below_grownBy h hown hg hB hs
set_option maxRecDepth 100000 in
/-- A slice of ints that came in. -/
theorem open_nums {H : Type} {enc : TypeId × Value → H} {W : World} {base : Nat} {v : Value} {d : DataW H} {p : List MemPlace} {r : Reach}
    (hv : Value.okWide Try.prog W r base 22 v) (h : DataW.Trod enc Try.prog W 0 (fun _ => true) true 22 v d p) (lt : ∀ x ∈ p, x.block < W.heap.size) :
    ∃ (A : Option Addr) (c : Nat) (L : List Int), v = .slice A L.length c ∧ L.length ≤ 9223372036854775807 ∧ Rd (Value.int .i64) W A L := by
  obtain ⟨A, n, c, rfl⟩ := okWide_slice Try.underlying22 hv
  obtain ⟨fuel, hf⟩ := h
  rcases open_ints Try.underlying22 Try.underlying3 (by kernel_rfl) hf with ⟨hcs, hx⟩ | ⟨a, len, cap, zs, hcs, _, hl, hm, hz, hx, hcell, _⟩
  · simp only [Value.cells, List.cons.injEq, Value.slice.injEq, and_true] at hcs
    obtain ⟨rfl, rfl, rfl⟩ := hcs
    exact ⟨none, 0, [], rfl, Nat.zero_le _, Rd.nil⟩
  · simp only [Value.cells, List.cons.injEq, Value.slice.injEq, and_true] at hcs
    obtain ⟨rfl, rfl, rfl⟩ := hcs
    simp only [Prod.mk.injEq] at hx
    unfold maxLen at hm
    simp only [if_true] at hz
    have hle : n ≤ zs.length := by rw [hz]; exact hl
    have hlen : (zs.take n).length = n := by rw [List.length_take]; exact Nat.min_eq_left hle
    refine ⟨some a, c, zs.take n, by rw [hlen], Nat.le_trans (Nat.le_of_eq hlen) (Nat.le_trans hl hm), fun k hk => ?_⟩
    rw [hlen] at hk
    have hc := hcell k (by omega)
    obtain ⟨b, off, spot⟩ := a
    have hspot : spot = none := by
      have := hcell 0 (by omega)
      simpa [Addr.add] using World.cell?_spot this
    subst hspot
    have hb : b < W.heap.size := lt (.cell b off) (by rw [hx.2]; exact MemPlace.mem_row.2 ⟨0, by omega, by simp⟩)
    rw [add_flat] at hc
    refine ⟨b, off, rfl, hb, ?_⟩
    rw [hc, List.getElem_take]
    simp [List.getD, List.getElem?_eq_getElem (show k < zs.length by omega)]
end Go.Proofs.Ytomjgkflnfjjbaa
