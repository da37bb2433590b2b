/- From a walk to a row, where arguments lead to memory that the call leaves as it was. -/
import Derived.Test.YtepcihfkkeahhaaRow
import Derived.Carry
import Derived.ChangeSlices
namespace Go.Proofs.Ytepcihfkkeahhaa
open Go.ChangeShapes Go.WideShapes Go.ChangeAt Go.RowKit Go.Joins

theorem laidOut : laidOutB Try.prog = true := by kernel_rfl
section
variable {H : Type} {enc : TypeId × Value → H} {P : Program}
/-- An argument reads behind the call as before, in each mode that holds its places. -/
theorem carry {t : TypeId} (hl : laidOutB P = true) (hr : P.readableRec t = true) (hrow : t < P.types.size) {W W' : World} {v : Value} {d : DataW H} {ps : List MemPlace}
    (h : DataW.Trod enc P W 0 (fun _ => true) true t v d ps) (below : Below W.heap.size W W') (lt : ∀ x ∈ ps, x.block < W.heap.size) (sp : Nat → Bool) (hsp : ∀ x ∈ ps, sp x.block = true) :
    DataW.Trod enc P W' 0 sp true t v d ps :=
  WideElems.Trod_stays hl hr hrow h (fun x hx => below.same (lt x hx)) hsp
/-- The last step of a row whose call has turned nothing of the memory that was there. -/
theorem post_mem {f : Func} {s : ChangeSpec} {apart fresh handsOn again : Bool} {W W' : World} {args : Array Value} {v : Value} {ds gs : List (DataW H)} {pa : List MemPlace}
    (whole : DataW.Whole enc P f.params.toList s.vars apart W args.toList ds gs pa) (below : Below W.heap.size W W')
    (res : ∀ (b : Nat) (sp : Nat → Bool) (hd : Bool), DataW.TrodAll enc P W' b sp hd f.resultTypes.toList (v.resultList f.resultTypes.size) (s.fn H (ds ++ gs)).results [])
    (arg : ∀ sp : Nat → Bool, (∀ p ∈ pa, sp p.block = true) → DataW.TrodAll enc P W' 0 sp true f.params.toList args.toList (s.fn H (ds ++ gs)).args pa)
    (var : ∀ sp : Nat → Bool, DataW.TrodVars enc P W' sp s.vars (s.fn H (ds ++ gs)).vars [])
    (ok : ∀ (j : Nat) (t : TypeId) (r : Value), f.resultTypes[j]? = some t → (v.resultList f.resultTypes.size)[j]? = some r → Value.okWide P W' .any 0 t r) :
    s.post enc P f apart fresh handsOn again W args v W' := by
  have old : ∀ p ∈ pa, p.block < W.heap.size := fun p hp => whole.lt p hp
  refine ⟨ds, gs, pa, [], pa, [], whole, res _ _ _, arg (fun b => decide (b < W.heap.size)) (fun p hp => by simpa using old p hp), var _, World.keptBut_mono (fun p hp => ⟨hp, .inr (.inl hp)⟩) (below.frame (· ∈ pa)), fun _ => ?_⟩
  obtain ⟨_, _, _, _, _, free, once⟩ := whole
  refine ⟨ok, _, _, [] ++ pa, ⟨[] ++ pa, [], trodAll_append (arg (fun _ => true) (fun _ _ => rfl)) (res _ _ _), var _, by simp, ?_, fun h => by simpa using once h⟩, ?_⟩
  · intro b o hp
    have hp' : MemPlace.cell b o ∈ pa := by simpa using hp
    rw [below.frozen (old _ hp')]
    exact free b o hp'
  · intro p hp _
    simpa using hp
end

end Go.Proofs.Ytepcihfkkeahhaa
