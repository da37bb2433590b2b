/- A region that draws its order and whose last operation waits for all others: its others by the laws of the held regions, then the last one. -/
import Derived.Test.YtjajmlamlmnljaaProg
import Derived.Deep.RegionHeld3
namespace Go.Proofs.Ytjajmlamlmnljaa
open Go

/-- Q, but N at the end. -/
def QL (Q : Exit → Act → World → Prop) (N : Act → World → Prop) : Exit → Act → World → Prop
  | .normal, a, w => N a w
  | e, a, w => Q e a w
section
variable {P : Program} {Q : Exit → Act → World → Prop} {md : Region.Mode}
theorem upon_ql {N : Act → World → Prop} {o : Oper} {a : Act} {K : Act → World → Prop} {r : Result Next} (h : o.upon P a K (QL Q N) r) : o.upon P a K Q r := by
  unfold Oper.upon at h ⊢
  split at h <;> first | exact h | (split at h <;> exact h)
theorem wp_ql {N : Act → World → Prop} {o : Oper} {a : Act} {w : World} {K : Act → World → Prop} (h : Oper.wp P o a w K (QL Q N)) : Oper.wp P o a w K Q := upon_ql h
theorem lets_ql {N : Act → World → Prop} (h : LetsOut (QL Q N)) : LetsOut Q := h
/-- What is to be shown of the last operation. -/
def Lst (P : Program) (ops : Array Oper) (o : Oper) (Q : Exit → Act → World → Prop) (a : Act) (w : World) : Prop :=
  ∀ K : Act → World → Prop, Shut (∀ a' w', Q .normal a' w' → K a' w') → if Region.wanted o (yielded ops a.tmps) = true then Oper.wp P o a w K Q else K (a.put o.dst undef) w
/-- The operation number n waits for all before it; each of those waits for earlier ones alone, and its guard is an earlier one. -/
def lastB (md : Region.Mode) (l : List Oper) (n : Nat) : Bool :=
  decide (l.length = n + 1) && ((List.range n).all fun i => ((l[n]?).map fun o => o.after.any fun e => Region.binds md e && e.on == i).getD false) &&
  ((List.range n).all fun i => ((l[i]?).map fun o => (o.after.all fun e => !Region.binds md e || decide (e.on < i)) && ((o.guard.map fun g => decide (g.1 < n)).getD true)).getD true) &&
  ((l[n]?).map fun o => o.after.all fun e => !Region.binds md e || decide (e.on < n)).getD true
theorem lastB_spec {l : List Oper} {n : Nat} (h : lastB md l n = true) : l.length = n + 1 ∧ (∀ i o, i < n → l[n]? = some o → ∃ e ∈ o.after, Region.binds md e = true ∧ e.on = i) ∧
    (∀ i o, i < n → l[i]? = some o → (∀ e ∈ o.after, Region.binds md e = true → e.on < i) ∧ ∀ g b, o.guard = some (g, b) → g < n) ∧
    (∀ o, l[n]? = some o → ∀ e ∈ o.after, Region.binds md e = true → e.on < n) := by
  unfold lastB at h
  simp only [Bool.and_eq_true, decide_eq_true_eq] at h
  obtain ⟨⟨⟨h1, h2⟩, h3⟩, h5⟩ := h
  refine ⟨h1, fun i o hi ho => ?_, fun i o hi ho => ?_, fun o ho e he hb => ?_⟩
  · have := List.all_eq_true.1 h2 i (List.mem_range.2 hi)
    rw [ho] at this
    simp only [Option.map_some, Option.getD_some] at this
    obtain ⟨e, he, hb⟩ := Array.any_eq_true'.1 this
    simp only [Bool.and_eq_true, beq_iff_eq] at hb
    exact ⟨e, he, hb.1, hb.2⟩
  · have := List.all_eq_true.1 h3 i (List.mem_range.2 hi)
    rw [ho] at this
    simp only [Option.map_some, Option.getD_some, Bool.and_eq_true] at this
    refine ⟨fun e he hb => ?_, fun g b hg => ?_⟩
    · have h4 := Array.all_eq_true_iff_forall_mem.1 this.1 e he
      rw [hb] at h4
      simpa using h4
    · have h4 := this.2
      rw [hg] at h4
      simpa using h4
  · rw [ho] at h5
    simp only [Option.map_some, Option.getD_some] at h5
    have h4 := Array.all_eq_true_iff_forall_mem.1 h5 e he
    rw [hb] at h4
    simpa using h4
theorem getD_push_lt {listed : Array Bool} {i : Nat} (h : i < listed.size) (d : Bool) : (listed.push false).getD i d = listed.getD i d := by
  simp [Array.getD_eq_getD_getElem?, Array.getElem?_push, Nat.ne_of_lt h]
theorem getD_push_eq {listed : Array Bool} (d : Bool) : (listed.push false).getD listed.size d = false := by
  simp [Array.getD_eq_getD_getElem?]
theorem getD_push_gt {listed : Array Bool} {i : Nat} (h : listed.size < i) : (listed.push false).getD i false = false := by
  have : (listed.push false).size ≤ i := by simp; omega
  simp [Array.getD_eq_getD_getElem?, Array.getElem?_eq_none this]
theorem on_lt {listed : Array Bool} {i : Nat} (h : listed.getD i false = true) : i < listed.size := by
  rcases Nat.lt_or_ge i listed.size with h' | h'
  · exact h'
  · simp [Array.getD_eq_getD_getElem?, Array.getElem?_eq_none h'] at h
theorem getD_flip {listed : Array Bool} {i : Nat} (hi : i < listed.size) : listed.getD i true = listed.getD i false := by
  simp [Array.getD_eq_getD_getElem?, Array.getElem?_eq_getElem hi]
theorem ready_take {l : List Oper} {n : Nat} {listed : Array Bool} (hs : listed.size = n) (i : Nat) (hi : i < n) :
    i ∈ Region.ready md (l.take n).toArray listed ↔ i ∈ Region.ready md l.toArray (listed.push false) := by
  rw [mem_ready, mem_ready, getD_push_lt (by omega)]
  have e : ((l.take n).toArray)[i]? = (l.toArray)[i]? := by simp [List.getElem?_take_of_lt hi]
  rw [e]
  have hx : ∀ k, listed.getD k false = true ↔ (listed.push false).getD k false = true := fun k => by
    constructor
    · intro h; rw [getD_push_lt (on_lt h)]; exact h
    · intro h
      rcases Nat.lt_trichotomy k listed.size with h1 | h1 | h1
      · rwa [getD_push_lt h1] at h
      · subst h1; rw [getD_push_eq] at h; cases h
      · rw [getD_push_gt h1] at h; cases h
  constructor
  · rintro ⟨h0, o, ho, h⟩
    exact ⟨h0, o, ho, fun e he hb => (hx _).1 (h e he hb)⟩
  · rintro ⟨h0, o, ho, h⟩
    exact ⟨h0, o, ho, fun e he hb => (hx _).2 (h e he hb)⟩
theorem all_listed {l : List Oper} {n : Nat} {listed : Array Bool} (hB : lastB md l n = true) (hs : listed.size = n) (hr : Region.ready md (l.take n).toArray listed = []) : ∀ i, i < n → listed.getD i false = true := by
  obtain ⟨hl, _, hback, _⟩ := lastB_spec hB
  intro i
  induction i using Nat.strongRecOn with
  | ind i ih =>
    intro hi
    cases hx : listed.getD i false with
    | true => rfl
    | false =>
      exfalso
      have hli : l[i]? = some l[i] := List.getElem?_eq_getElem (by omega)
      have : i ∈ Region.ready md (l.take n).toArray listed := by
        rw [mem_ready]
        refine ⟨by rw [getD_flip (by omega)]; exact hx, l[i], by simp [List.getElem?_take_of_lt hi, hli], fun e he hb => ?_⟩
        have h1 := (hback i _ hi hli).1 e he hb
        exact ih e.on h1 (by omega)
      rw [hr] at this; cases this
theorem wpAny_last {l : List Oper} {n : Nat} {o : Oper} (hB : lastB md l n = true) (ho : l[n]? = some o) :
    ∀ (fuel : Nat) (listed : Array Bool) (a : Act) (w : World), listed.size = n → wpAny P md (l.take n).toArray (QL Q (Lst P l.toArray o Q)) fuel listed a w → wpAny P md l.toArray Q (fuel + 1) (listed.push false) a w := by
  obtain ⟨hl, hwait, hback, hlast⟩ := lastB_spec hB
  have hon : l.toArray[n]? = some o := by simpa using ho
  -- all have come up but the last
  have fin : ∀ (f : Nat) (listed : Array Bool) (a : Act) (w : World), listed.size = n → Region.ready md (l.take n).toArray listed = [] → Lst P l.toArray o Q a w → wpAny P md l.toArray Q (f + 1) (listed.push false) a w := by
    intro f listed a w hs hr hN
    have hall := all_listed hB hs hr
    have hn : n ∈ Region.ready md l.toArray (listed.push false) := by
      rw [mem_ready]
      refine ⟨by rw [← hs]; exact getD_push_eq _, o, hon, fun e he hb => ?_⟩
      have h1 := hlast o ho e he hb
      rw [getD_push_lt (by omega)]
      exact hall _ h1
    refine ⟨fun h => (by rw [h] at hn; cases hn), fun i hi => ?_⟩
    have hin : i = n := by
      obtain ⟨h0, oi, hoi, _⟩ := mem_ready.1 hi
      have hlt : i < l.length := by simpa using (Array.getElem?_eq_some_iff.1 hoi).1
      rcases Nat.lt_or_ge i n with h1 | h1
      · rw [getD_push_lt (by omega), getD_flip (by omega), hall i h1] at h0; cases h0
      · omega
    subst hin
    refine wpOp_step hon (fun K hK => hN K (fun a' w' hq => hK a' w' ?_))
    have hdone : Region.ready md l.toArray ((listed.push false).setIfInBounds i true) = [] := by
      rw [List.eq_nil_iff_forall_not_mem]
      intro j hj
      obtain ⟨h0, oj, hoj, _⟩ := mem_ready.1 hj
      have hlt : j < l.length := by simpa using (Array.getElem?_eq_some_iff.1 hoj).1
      rcases Nat.lt_or_ge j i with h1 | h1
      · rw [getD_set_ne true (by omega), getD_push_lt (by omega), getD_flip (by omega), hall j h1] at h0; cases h0
      · obtain rfl : j = i := by omega
        rw [getD_flip (by simp; omega)] at h0
        simp [Array.getD_eq_getD_getElem?, hs] at h0
    cases f with
    | zero => exact ⟨hdone, hq⟩
    | succ f => exact ⟨fun _ => hq, fun k hk => (by rw [hdone] at hk; cases hk)⟩
  intro fuel
  induction fuel with
  | zero =>
    intro listed a w hs h
    exact fin 0 listed a w hs h.1 h.2
  | succ fuel ih =>
    intro listed a w hs h
    by_cases hr : Region.ready md (l.take n).toArray listed = []
    · exact fin (fuel + 1) listed a w hs hr (h.1 hr)
    · refine ⟨fun h0 => ?_, fun i hi => ?_⟩
      · obtain ⟨i, hi⟩ := List.exists_mem_of_ne_nil _ hr
        have hin : i < n := by
          obtain ⟨_, oi, hoi, _⟩ := mem_ready.1 hi
          have := (Array.getElem?_eq_some_iff.1 hoi).1
          simp at this; omega
        have := (ready_take hs i hin).1 hi
        rw [h0] at this; cases this
      · have hin : i < n := by
          obtain ⟨h0, oi, hoi, hall⟩ := mem_ready.1 hi
          have hlt : i < l.length := by simpa using (Array.getElem?_eq_some_iff.1 hoi).1
          rcases Nat.lt_or_ge i n with h1 | h1
          · exact h1
          · obtain rfl : i = n := by omega
            exfalso
            refine hr (List.eq_nil_iff_forall_not_mem.2 fun j hj => ?_)
            obtain ⟨hj0, oj, hoj, _⟩ := mem_ready.1 hj
            have hjn : j < i := by have := (Array.getElem?_eq_some_iff.1 hoj).1; simp at this; omega
            have e1 : oi = o := Option.some.inj (hoi.symm.trans hon)
            subst e1
            obtain ⟨e, he, hb, hon2⟩ := hwait j _ hjn ho
            have h2 := hall e he hb
            rw [hon2, getD_push_lt (by omega)] at h2
            rw [getD_flip (by omega), h2] at hj0; cases hj0
        have hm := h.2 i ((ready_take hs i hin).2 hi)
        have hli : l[i]? = some l[i] := List.getElem?_eq_getElem (by omega)
        have e1 : ((l.take n).toArray)[i]? = some l[i] := by simp [List.getElem?_take_of_lt hin, hli]
        have e2 : (l.toArray)[i]? = some l[i] := by simp [hli]
        have hset : (listed.push false).setIfInBounds i true = (listed.setIfInBounds i true).push false := by
          apply Array.ext_getElem?
          intro k
          simp only [Array.getElem?_setIfInBounds, Array.getElem?_push, Array.size_setIfInBounds, Array.size_push]
          by_cases hk : i = k
          · subst hk
            have h1 : i ≠ listed.size := by omega
            have h2 : i < listed.size := by omega
            have h3 : i < listed.size + 1 := by omega
            simp [h1, h2, h3]
          · simp [hk]
        have hwant : Region.wanted l[i] (yielded (l.take n).toArray a.tmps) = Region.wanted l[i] (yielded l.toArray a.tmps) := by
          have hg := (hback i _ hin hli).2
          unfold Region.wanted
          cases hgd : (l[i]).guard with
          | none => rfl
          | some gb =>
            obtain ⟨g, b⟩ := gb
            have hgn := hg g b hgd
            have : yielded (l.take n).toArray a.tmps g = yielded l.toArray a.tmps g := by
              unfold yielded
              simp [List.getElem?_take_of_lt hgn]
            simp only [this]
        unfold wpOp at hm ⊢
        rw [e1] at hm
        rw [e2]
        simp only at hm ⊢
        rw [hwant] at hm
        rw [hset]
        have mono : ∀ a' w', wpAny P md (l.take n).toArray (QL Q (Lst P l.toArray o Q)) fuel (listed.setIfInBounds i true) a' w' → wpAny P md l.toArray Q (fuel + 1) ((listed.setIfInBounds i true).push false) a' w' := fun a' w' h' => ih _ a' w' (by simpa using hs) h'
        split
        · rename_i hw
          rw [if_pos hw] at hm
          rcases hm with hm | ⟨hm, hm2⟩
          · exact .inl (wp_ql (Oper.wp_mono mono hm))
          · exact .inr ⟨hm, lets_ql hm2⟩
        · rename_i hw
          rw [if_neg hw] at hm
          exact mono _ _ hm
/-- The region. -/
theorem wp_region_last {id : Nat} {a : Act} {w : World} {l : List Oper} (n : Nat) {o : Oper} (S : World → Prop) (hm : P.follows .mixedOrders = true) (hB : lastB .any l n = true) (ho : l[n]? = some o) (hS : S w.drew)
    (h : S w.drew → wpAnyH P .any (l.take n).toArray (QL Q (Lst P l.toArray o Q)) S n (Array.replicate n false) a w.drew) : (Code.region id l.toArray true).wp P Q a w := by
  have hl := (lastB_spec hB).1
  refine wp_region_any hm ?_
  have e : Array.replicate l.toArray.size false = (Array.replicate n false).push false := by
    simp [hl, Array.replicate_succ]
  rw [e, show l.toArray.size = n + 1 by simp [hl]]
  exact wpAny_last hB ho n _ a _ (by simp) (wpAny_of_held _ _ _ _ (h hS))
end
end Go.Proofs.Ytjajmlamlmnljaa
