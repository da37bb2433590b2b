/- From a walk to a row, where arguments lead to memory that the call leaves as it was: slices of strings, of words. -/
import Derived.Test.YtediohaamblpbaaDoorRow
import Derived.Test.YtediohaamblpbaaDoorFew
import Derived.Carry
import Derived.SliceStrings
import Derived.ChangeSlices
namespace Go.Proofs.YtediohaamblpbaaDoor
open Go.ChangeShapes Go.WideShapes Go.ChangeAt Go.RowKit Go.Joins Ck

theorem laidOut : laidOutB Tryd.prog = true := by kernel_rfl
theorem add_flat (b off k : Nat) : (⟨b, off, none⟩ : Addr).add k = ⟨b, off + k, none⟩ := by unfold Addr.add; split <;> simp_all

section
variable {H : Type} {enc : TypeId × Value → H} {P : Program}
/-- An argument reads behind the call as before, in each mode that holds its places. -/
theorem carry {t : TypeId} (hl : laidOutB P = true) (hr : P.readableRec t = true) (hrow : t < P.types.size) {W W' : World} {v : Value} {d : DataW H} {ps : List MemPlace}
    (h : DataW.Trod enc P W 0 (fun _ => true) true t v d ps) (below : Below W.heap.size W W') (lt : ∀ x ∈ ps, x.block < W.heap.size) (sp : Nat → Bool) (hsp : ∀ x ∈ ps, sp x.block = true) :
    DataW.Trod enc P W' 0 sp true t v d ps :=
  WideElems.Trod_stays hl hr hrow h (fun x hx => below.same (lt x hx)) hsp
/-- The last step of a row whose call has turned nothing of the memory that was there. -/
theorem post_mem {f : Func} {s : ChangeSpec} {apart fresh handsOn again : Bool} {W W' : World} {args : Array Value} {v : Value} {ds gs : List (DataW H)} {pa : List MemPlace}
    (whole : DataW.Whole enc P f.params.toList s.vars apart W args.toList ds gs pa) (below : Below W.heap.size W W')
    (res : ∀ (b : Nat) (sp : Nat → Bool) (hd : Bool), DataW.TrodAll enc P W' b sp hd f.resultTypes.toList (v.resultList f.resultTypes.size) (s.fn H (ds ++ gs)).results [])
    (arg : ∀ sp : Nat → Bool, (∀ p ∈ pa, sp p.block = true) → DataW.TrodAll enc P W' 0 sp true f.params.toList args.toList (s.fn H (ds ++ gs)).args pa)
    (var : ∀ sp : Nat → Bool, DataW.TrodVars enc P W' sp s.vars (s.fn H (ds ++ gs)).vars [])
    (ok : ∀ (j : Nat) (t : TypeId) (r : Value), f.resultTypes[j]? = some t → (v.resultList f.resultTypes.size)[j]? = some r → Value.okWide P W' .any 0 t r) :
    s.post enc P f apart fresh handsOn again W args v W' := by
  have old : ∀ p ∈ pa, p.block < W.heap.size := fun p hp => whole.lt p hp
  refine ⟨ds, gs, pa, [], pa, [], whole, res _ _ _, arg (fun b => decide (b < W.heap.size)) (fun p hp => by simpa using old p hp), var _, World.keptBut_mono (fun p hp => ⟨hp, .inr (.inl hp)⟩) (below.frame (· ∈ pa)), fun _ => ?_⟩
  obtain ⟨_, _, _, _, _, free, once⟩ := whole
  refine ⟨ok, _, _, [] ++ pa, ⟨[] ++ pa, [], trodAll_append (arg (fun _ => true) (fun _ _ => rfl)) (res _ _ _), var _, by simp, ?_, fun h => by simpa using once h⟩, ?_⟩
  · intro b o hp
    have hp' : MemPlace.cell b o ∈ pa := by simpa using hp
    rw [below.frozen (old _ hp')]
    exact free b o hp'
  · intro p hp _
    simpa using hp
end

/-- A slice of strings that came in. -/
theorem open_strs {H : Type} {enc : TypeId × Value → H} {W : World} {base : Nat} {v : Value} {d : DataW H} {p : List MemPlace} {r : Reach}
    (hv : Value.okWide Tryd.prog W r base 52 v) (h : DataW.Trod enc Tryd.prog W 0 (fun _ => true) true 52 v d p) (lt : ∀ x ∈ p, x.block < W.heap.size) :
    ∃ (A : Option Addr) (n c : Nat) (ss : Nat → ByteArray), v = .slice A n c ∧ n ≤ 9223372036854775807 ∧ (∀ k, (ss k).size ≤ 9223372036854775807) ∧ Rd W W.heap.size A n (fun k => .string (ss k)) := by
  obtain ⟨A, n, c, rfl⟩ := okWide_slice Tryd.underlying52 hv
  obtain ⟨fuel, hf⟩ := h
  rcases open_strings Tryd.underlying52 Tryd.underlying9 (by kernel_rfl) hf with ⟨hcs, hx⟩ | ⟨a, len, cap, ss, hcs, _, hl, hm, hz, hx, hcell, hws⟩
  · simp only [Value.cells, List.cons.injEq, Value.slice.injEq, and_true] at hcs
    obtain ⟨rfl, rfl, rfl⟩ := hcs
    exact ⟨none, 0, 0, fun _ => ByteArray.empty, rfl, by omega, fun _ => Nat.zero_le _, fun k hk => absurd hk (by omega)⟩
  · simp only [Value.cells, List.cons.injEq, Value.slice.injEq, and_true] at hcs
    obtain ⟨rfl, rfl, rfl⟩ := hcs
    simp only [Prod.mk.injEq] at hx
    unfold maxLen at hm hws
    simp only [if_true] at hz
    refine ⟨some a, n, c, fun k => ss.getD k ByteArray.empty, rfl, by omega, fun k => ?_, fun k hk => ?_⟩
    · by_cases hk : k < ss.length
      · have := hws _ (List.getElem_mem hk)
        simpa [List.getD, List.getElem?_eq_getElem hk] using this
      · simp [List.getD, List.getElem?_eq_none (by omega : ss.length ≤ k)]
    · have hc := hcell k (by omega)
      obtain ⟨b, off, spot⟩ := a
      have hspot : spot = none := by
        have := hcell 0 (by omega)
        simpa [Addr.add] using World.cell?_spot this
      subst hspot
      have hb : b < W.heap.size := lt (.cell b off) (by rw [hx.2]; exact MemPlace.mem_row.2 ⟨0, by omega, by simp⟩)
      rw [add_flat] at hc
      exact ⟨b, off, rfl, hb, hc⟩
/-- A slice of words that came in. -/
theorem open_u32s {H : Type} {enc : TypeId × Value → H} {W : World} {base : Nat} {v : Value} {d : DataW H} {p : List MemPlace} {r : Reach}
    (hv : Value.okWide Tryd.prog W r base 53 v) (h : DataW.Trod enc Tryd.prog W 0 (fun _ => true) true 53 v d p) (lt : ∀ x ∈ p, x.block < W.heap.size) :
    ∃ (A : Option Addr) (n c : Nat) (xs : Nat → BitVec 32), v = .slice A n c ∧ n ≤ 9223372036854775807 ∧ Rd W W.heap.size A n (fun k => .int .u32 (xs k).toNat) := by
  obtain ⟨A, n, c, rfl⟩ := okWide_slice Tryd.underlying53 hv
  obtain ⟨fuel, hf⟩ := h
  rcases open_ints Tryd.underlying53 Tryd.underlying32 (by kernel_rfl) hf with ⟨hcs, hx⟩ | ⟨a, len, cap, zs, hcs, _, hl, hm, hz, hx, hcell, hws⟩
  · simp only [Value.cells, List.cons.injEq, Value.slice.injEq, and_true] at hcs
    obtain ⟨rfl, rfl, rfl⟩ := hcs
    exact ⟨none, 0, 0, fun _ => 0#32, rfl, by omega, fun k hk => absurd hk (by omega)⟩
  · simp only [Value.cells, List.cons.injEq, Value.slice.injEq, and_true] at hcs
    obtain ⟨rfl, rfl, rfl⟩ := hcs
    simp only [Prod.mk.injEq] at hx
    unfold maxLen at hm
    simp only [if_true] at hz
    refine ⟨some a, n, c, fun k => BitVec.ofInt 32 (zs.getD k 0), rfl, by omega, fun k hk => ?_⟩
    have hc := hcell k (by omega)
    obtain ⟨b, off, spot⟩ := a
    have hspot : spot = none := by
      have := hcell 0 (by omega)
      simpa [Addr.add] using World.cell?_spot this
    subst hspot
    have hb : b < W.heap.size := lt (.cell b off) (by rw [hx.2]; exact MemPlace.mem_row.2 ⟨0, by omega, by simp⟩)
    rw [add_flat] at hc
    refine ⟨b, off, rfl, hb, ?_⟩
    have hw : (Lit.int .u32 (zs.getD k 0)).wf = true := by
      have := hws _ (List.getElem_mem (show k < zs.length by omega))
      simpa [List.getD, List.getElem?_eq_getElem (show k < zs.length by omega)] using this
    obtain ⟨x, hx2⟩ := u32_of hw
    have e : BitVec.ofInt 32 (zs.getD k 0) = x := by rw [hx2]; simp
    show _ = some (Value.int .u32 ((BitVec.ofInt 32 (zs.getD k 0)).toNat : Int))
    rw [hc, e, hx2]
end Go.Proofs.YtediohaamblpbaaDoor
