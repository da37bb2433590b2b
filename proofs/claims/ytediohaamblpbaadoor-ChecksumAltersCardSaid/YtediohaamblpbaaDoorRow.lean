/- From a walk to a row and to its tied card, where no argument leads to memory and the row lists the table. -/
import Derived.Test.YtediohaamblpbaaDoorCards
import Derived.Test.YtediohaamblpbaaDoorTie
import Derived.Test.YtediohaamblpbaaDoorKnown
import Derived.OpenShut
import Derived.ChangeSame
import Derived.JoinedOf
import Derived.JoinedAt
import Derived.RowKit3
import Derived.Lib.SmallJoins
import Derived.LaidMore
import Derived.Stop.Joined
import Derived.SevenTiedAt
namespace Go.Proofs.YtediohaamblpbaaDoor
open Go.ChangeShapes Go.WideShapes Go.ChangeAt Go.RowKit Go.Joins Ck

theorem own : ownKnob Tryd.prog.godebug = none := by kernel_rfl
theorem cells_u32 : Tryd.prog.cellsOf 32 = 1 := by kernel_rfl
theorem gRem : Tryd.prog.globalNamed "sleuth/checksum.remainders" = some 0 := by kernel_rfl
theorem tRem : (Tryd.prog.globals[0]?).map (·.type) = some 70 := by kernel_rfl

/-- The list of what the rows lay. -/
def listed : List (String × DataW Unit) := [("sleuth/checksum.remainders", Rows.laid_sleuth_checksum_remainders)]

def tabs : List Nat := [0, 274646895, 549293790, 820201905, 1098587580, 1361435347, 1640403810, 1905808397, 2197175160, 2460548119, 2722870694, 2987750089, 3280807620, 3553878443, 3811616794, 4084100981]
theorem tab_tabs : ∀ k : Fin 16, tabs[k.val]? = some (tab k.val).toNat := by decide +kernel
theorem laid_tabs : Rows.laid_sleuth_checksum_remainders = (.agg (tabs.map fun n : Nat => .lit (.int .u32 (n : Int))) : DataW Unit) := rfl

theorem door_met (os : Os) (args : Array Value) : laidMetH Tryd.prog listed ((World.doorLaid Tryd.prog 400 os).forCall (fun _ _ => 0) ⟨#[], args, []⟩).memory :=
  laidMetH_of_parts3 (fuel := 8) (laidMet_of_run' 8 (by kernel_rfl) (by kernel_rfl)) (by kernel_rfl) (by kernel_rfl)

/-- What the row lists gives the walks their table. -/
theorem of_laid {W : World} (h : laidMetH Tryd.prog listed W) : Tab W := by
  rw [MakeChecks.laidMetH_plain _ _ _ (by kernel_rfl)] at h
  obtain ⟨ps, ⟨g0, t0, cs0, f0, p0, q0, hg0, ht0, hv0, hd0, _, _⟩, _, _⟩ := h
  obtain rfl := Option.some.inj (gRem.symm.trans hg0)
  obtain rfl := Option.some.inj (tRem.symm.trans ht0)
  obtain ⟨xs, m1, rfl, hx1, hlen, hn, hel⟩ := DataW.trod_array Tryd.underlying70 hd0
  rw [laid_tabs] at hx1
  simp only [Prod.mk.injEq, DataW.agg.injEq] at hx1
  obtain ⟨hx, _⟩ := hx1
  intro k hk
  rw [World.var?_cell hg0 hv0 k]
  have e := hel k hk
  have hk2 : k < xs.length := by omega
  rw [List.getElem?_eq_getElem hk2, cells_u32] at e
  obtain ⟨n, e1, e2, _⟩ := DataW.trod_int Tryd.underlying32 e
  have hx' := congrArg (fun l : List (DataW Unit) => l[k]?) hx
  simp only [List.getElem?_map] at hx'
  rw [tab_tabs ⟨k, hk⟩, List.getElem?_eq_getElem hk2, e2] at hx'
  simp only [Option.map_some, Option.some.injEq, DataW.lit.injEq, Lit.int.injEq, true_and] at hx'
  rw [← Array.getElem?_toList]
  have e3 : cs0.toList[k]? = (List.take 1 (List.drop (k * 1) cs0.toList))[0]? := by
    rw [List.getElem?_take]
    simp
  rw [e3, e1, hx']
  rfl

section
variable {H : Type} {enc : TypeId × Value → H} {P : Program}
/-- The last step of a row whose arguments lead to no memory, and whose call has turned nothing of the memory that was there. -/
theorem post_plain {f : Func} {s : ChangeSpec} {apart fresh handsOn again : Bool} {W W' : World} {args : Array Value} {v : Value} {ds gs : List (DataW H)}
    (whole : DataW.Whole enc P f.params.toList s.vars apart W args.toList ds gs []) (below : Below W.heap.size W W')
    (res : ∀ (b : Nat) (sp : Nat → Bool) (hd : Bool), DataW.TrodAll enc P W' b sp hd f.resultTypes.toList (v.resultList f.resultTypes.size) (s.fn H (ds ++ gs)).results [])
    (arg : ∀ sp : Nat → Bool, DataW.TrodAll enc P W' 0 sp true f.params.toList args.toList (s.fn H (ds ++ gs)).args [])
    (var : ∀ sp : Nat → Bool, DataW.TrodVars enc P W' sp s.vars (s.fn H (ds ++ gs)).vars [])
    (ok : ∀ (j : Nat) (t : TypeId) (r : Value), f.resultTypes[j]? = some t → (v.resultList f.resultTypes.size)[j]? = some r → Value.okWide P W' .any 0 t r) :
    s.post enc P f apart fresh handsOn again W args v W' := by
  refine ⟨ds, gs, [], [], [], [], whole, res _ _ _, arg _, var _, World.keptBut_mono (fun p hp => ⟨hp, absurd hp (by simp)⟩) (below.frame (· ∈ [])), fun _ => ?_⟩
  exact ⟨ok, _, _, [], ⟨[], [], trodAll_append (arg (fun _ => true)) (res _ _ _), var (fun _ => true), rfl, by intro b o hp; exact absurd hp (by simp), fun _ => List.nodup_nil⟩, by intro p hp; exact absurd hp (by simp)⟩
end

theorem u64_of {a : Int} (w : (Lit.int .u64 a).wf = true) : ∃ x : BitVec 64, a = x.toNat := by
  have h : 0 ≤ a ∧ a ≤ 18446744073709551615 := by simpa [Lit.wf, IntKind.min, IntKind.max, IntKind.signed, IntKind.bits] using w
  refine ⟨BitVec.ofInt 64 a, ?_⟩
  rw [BitVec.toNat_ofInt]; omega
theorem u32_of {a : Int} (w : (Lit.int .u32 a).wf = true) : ∃ x : BitVec 32, a = x.toNat := by
  have h : 0 ≤ a ∧ a ≤ 4294967295 := by simpa [Lit.wf, IntKind.min, IntKind.max, IntKind.signed, IntKind.bits] using w
  refine ⟨BitVec.ofInt 32 a, ?_⟩
  rw [BitVec.toNat_ofInt]; omega
theorem bd64 {a : Int} (w : (Lit.int .i64 a).wf = true) : -9223372036854775808 ≤ a ∧ a ≤ 9223372036854775807 := by
  simpa [Lit.wf, IntKind.min, IntKind.max, IntKind.signed, IntKind.bits] using w
end Go.Proofs.YtediohaamblpbaaDoor
