/- A region that draws its order, by an invariant over which of its operations have come up. -/
import Derived.Test.YtnpjakgdfjaglaaProg
import Derived.Deep.RegionHeld3
namespace Go.Proofs.Ytnpjakgdfjaglaa
open Go

def updB (d : Nat → Bool) (i : Nat) : Nat → Bool := fun j => if j = i then true else d j
theorem updB_same (d : Nat → Bool) (i : Nat) : updB d i i = true := if_pos rfl
theorem updB_other (d : Nat → Bool) (i j : Nat) (h : j ≠ i) : updB d i j = d j := if_neg h
section
variable {P : Program} {ops : Array Oper} {Q : Exit → Act → World → Prop} {md : Region.Mode}
/-- Each of the operations l, of which the first is number k, keeps J. -/
def StepAll (P : Program) (md : Region.Mode) (ops : Array Oper) (Q : Exit → Act → World → Prop) (J : (Nat → Bool) → Act → World → Prop) : Nat → List Oper → Prop
  | _, [] => True
  | k, o :: l => (∀ (d : Nat → Bool) (a : Act) (w : World), d k = false → (∀ e ∈ o.after, Region.binds md e = true → d e.on = true) → J d a w →
      ∀ K : Act → World → Prop, Shut (∀ a' w', J (updB d k) a' w' → K a' w') → if Region.wanted o (yielded ops a.tmps) = true then Oper.wp P o a w K Q else K (a.put o.dst undef) w) ∧ StepAll P md ops Q J (k + 1) l
theorem StepAll.get {J : (Nat → Bool) → Act → World → Prop} {l : List Oper} : ∀ {k : Nat}, StepAll P md ops Q J k l → ∀ (i : Nat) (o : Oper), l[i]? = some o →
    ∀ (d : Nat → Bool) (a : Act) (w : World), d (k + i) = false → (∀ e ∈ o.after, Region.binds md e = true → d e.on = true) → J d a w →
      ∀ K : Act → World → Prop, Shut (∀ a' w', J (updB d (k + i)) a' w' → K a' w') → if Region.wanted o (yielded ops a.tmps) = true then Oper.wp P o a w K Q else K (a.put o.dst undef) w := by
  induction l with
  | nil => intro k _ i o h; simp at h
  | cons x l ih =>
    intro k hs i o h
    cases i with
    | zero =>
      simp at h
      subst h
      exact hs.1
    | succ i =>
      have := ih hs.2 i o (by simpa using h)
      rw [show k + 1 + i = k + (i + 1) by omega] at this
      exact this
/-- A step at a frame that is spelled otherwise. -/
theorem step_at {o : Oper} {a a1 : Act} {w : World} {K : Act → World → Prop} (hx : a = a1) (h : if Region.wanted o (yielded ops a1.tmps) = true then Oper.wp P o a1 w K Q else K (a1.put o.dst undef) w) : if Region.wanted o (yielded ops a.tmps) = true then Oper.wp P o a w K Q else K (a.put o.dst undef) w := by
  subst hx; exact h
/-- Each operation waits for earlier ones alone. -/
def backB (md : Region.Mode) (ops : Array Oper) : Bool :=
  (List.range ops.size).all fun i => ((ops[i]?).map fun o => o.after.all fun e => !Region.binds md e || decide (e.on < i)).getD true
theorem backB_spec (h : backB md ops = true) {i : Nat} {o : Oper} (ho : ops[i]? = some o) : ∀ e ∈ o.after, Region.binds md e = true → e.on < i := by
  intro e he hb
  have hi : i < ops.size := (Array.getElem?_eq_some_iff.1 ho).1
  have h1 := List.all_eq_true.1 h i (List.mem_range.2 hi)
  rw [ho] at h1
  simp only [Option.map_some, Option.getD_some] at h1
  have h2 := Array.all_eq_true_iff_forall_mem.1 h1 e he
  rw [hb] at h2
  simpa using h2
def cntU (d : Nat → Bool) (n : Nat) : Nat := (List.range n).countP (fun j => !d j)
theorem cntU_upd (d : Nat → Bool) (i : Nat) (hd : d i = false) : ∀ n, (n ≤ i → cntU (updB d i) n = cntU d n) ∧ (i < n → cntU (updB d i) n + 1 = cntU d n) := by
  intro n
  induction n with
  | zero => exact ⟨fun _ => rfl, fun h => absurd h (by omega)⟩
  | succ n ih =>
    have e : ∀ d : Nat → Bool, cntU d (n + 1) = cntU d n + if d n = true then 0 else 1 := fun d => by
      unfold cntU
      rw [List.range_succ, List.countP_append]
      cases h : d n <;> simp [h]
    rw [e, e]
    refine ⟨fun h => ?_, fun h => ?_⟩
    · rw [ih.1 (by omega), updB_other d i n (by omega)]
    · by_cases hn : n = i
      · subst hn
        rw [ih.1 (Nat.le_refl _), updB_same, if_pos rfl, hd]
        rfl
      · have := ih.2 (by omega)
        rw [updB_other d i n hn]
        omega
theorem wpAny_inv (J : (Nat → Bool) → Act → World → Prop) (hback : backB md ops = true)
    (hend : ∀ d a w, (∀ i, i < ops.size → d i = true) → J d a w → Q .normal a w)
    (hstep : ∀ (i : Nat) (o : Oper), ops[i]? = some o → ∀ (d : Nat → Bool) (a : Act) (w : World), d i = false → (∀ e ∈ o.after, Region.binds md e = true → d e.on = true) → J d a w →
      ∀ K : Act → World → Prop, Shut (∀ a' w', J (updB d i) a' w' → K a' w') → if Region.wanted o (yielded ops a.tmps) = true then Oper.wp P o a w K Q else K (a.put o.dst undef) w) :
    ∀ (fuel : Nat) (listed : Array Bool) (a : Act) (w : World), listed.size = ops.size → cntU (fun j => listed.getD j false) ops.size ≤ fuel → J (fun j => listed.getD j false) a w → wpAny P md ops Q fuel listed a w := by
  have all : ∀ listed : Array Bool, listed.size = ops.size → Region.ready md ops listed = [] → ∀ i, i < ops.size → listed.getD i false = true := by
    intro listed hsz hr i
    induction i using Nat.strongRecOn with
    | ind i ih =>
      intro hi
      cases hl : listed.getD i false with
      | true => rfl
      | false =>
        exfalso
        have : i ∈ Region.ready md ops listed := by
          rw [mem_ready]
          refine ⟨?_, ops[i], Array.getElem?_eq_getElem hi, fun e he hb => ?_⟩
          · have h1 : i < listed.size := by omega
            simp [Array.getD_eq_getD_getElem?, Array.getElem?_eq_getElem h1] at hl ⊢
            exact hl
          · have hlt := backB_spec hback (Array.getElem?_eq_getElem hi) e he hb
            exact ih e.on hlt (by omega)
        rw [hr] at this; cases this
  intro fuel
  induction fuel with
  | zero =>
    intro listed a w hsz hc hJ
    have hr : Region.ready md ops listed = [] := by
      rw [List.eq_nil_iff_forall_not_mem]
      intro i hi
      obtain ⟨h0, o, ho, _⟩ := mem_ready.1 hi
      have hlt : i < ops.size := (Array.getElem?_eq_some_iff.1 ho).1
      have h1 : listed.getD i false = false := by
        have h1 : i < listed.size := by omega
        simp [Array.getD_eq_getD_getElem?, Array.getElem?_eq_getElem h1] at h0 ⊢
        exact h0
      have := (cntU_upd (fun j => listed.getD j false) i h1 ops.size).2 hlt
      omega
    exact ⟨hr, hend _ _ _ (all listed hsz hr) hJ⟩
  | succ fuel ih =>
    intro listed a w hsz hc hJ
    refine ⟨fun hr => hend _ _ _ (all listed hsz hr) hJ, fun i hi => ?_⟩
    obtain ⟨h0, o, ho, hall⟩ := mem_ready.1 hi
    have hlt : i < ops.size := (Array.getElem?_eq_some_iff.1 ho).1
    have h1 : listed.getD i false = false := by
      have h1 : i < listed.size := by omega
      simp [Array.getD_eq_getD_getElem?, Array.getElem?_eq_getElem h1] at h0 ⊢
      exact h0
    have hupd : (fun j => (listed.setIfInBounds i true).getD j false) = updB (fun j => listed.getD j false) i := by
      funext j
      by_cases hj : j = i
      · subst hj
        rw [updB_same]
        have h1 : j < listed.size := by omega
        simp [Array.getD_eq_getD_getElem?, h1]
      · rw [updB_other _ _ _ hj]
        exact getD_set_ne false (Ne.symm hj)
    refine wpOp_step ho (fun K hK => hstep i o ho (fun j => listed.getD j false) a w h1 hall hJ K (fun a' w' hJ' => hK a' w' ?_))
    refine ih _ a' w' (by simpa using hsz) ?_ (by rw [hupd]; exact hJ')
    rw [hupd]
    have := (cntU_upd (fun j => listed.getD j false) i h1 ops.size).2 hlt
    omega
/-- A region that draws its order: J holds at the beginning, each operation keeps it, and what is left when all have come up. -/
theorem wp_region_inv {id : Nat} {a : Act} {w : World} {l : List Oper} (J : Act → World → (Nat → Bool) → Act → World → Prop) (hm : P.follows .mixedOrders = true) (hback : backB .any l.toArray = true)
    (h0 : J a w (fun _ => false) a w.drew) (hstep : StepAll P .any l.toArray Q (J a w) 0 l)
    (hend : ∀ d a' w', (∀ i, i < l.length → d i = true) → J a w d a' w' → Q .normal a' w') : (Code.region id l.toArray true).wp P Q a w := by
  refine wp_region_any hm (wpAny_inv (J a w) hback (fun d a w h => hend d a w (by simpa using h)) (fun i o ho => ?_) l.toArray.size _ a w.drew (by simp) ?_ ?_)
  · have := hstep.get i o (by simpa using ho)
    rw [Nat.zero_add] at this
    exact this
  · unfold cntU
    exact Nat.le_trans List.countP_le_length (by simp)
  · have e : (fun j => (Array.replicate l.toArray.size false).getD j false) = fun _ => false := by
      funext j
      simp only [Array.getD_eq_getD_getElem?, Array.getElem?_replicate]
      split <;> rfl
    rw [e]; exact h0
end
end Go.Proofs.Ytnpjakgdfjaglaa
