/- Slices of counters in memory; appending counters. -/
import Derived.Test.YtnpjakgdfjaglaaGd
import Derived.Shelf.Spec.SlicesGrow
import Derived.Laws.AppendOwnNone
import Derived.Deep.RegionLaw
import Derived.Deep.RegionLawGrows
namespace Go.Proofs.Ytnpjakgdfjaglaa
open Go.ChangeShapes Go.WideShapes Go.ChangeAt Go.RowKit Go.Joins

def ctC (x : Ct) : List Value := [.string x.1, .int .i64 x.2]
def ctCells (L : List Ct) : List Value := L.flatMap ctC
theorem ct_len (L : List Ct) : (ctCells L).length = L.length * 2 := flat_len ctC 2 (fun _ => rfl) L
theorem ct_app (L M : List Ct) : ctCells (L ++ M) = ctCells L ++ ctCells M := by simp [ctCells]
theorem ct_get (L : List Ct) (j : Nat) (h : j < L.length) : (ctCells L)[j * 2]? = some (.string L[j].1) ∧ (ctCells L)[j * 2 + 1]? = some (.int .i64 L[j].2) :=
  ⟨flat_get ctC 2 (fun _ => rfl) L j h 0 (by decide), flat_get ctC 2 (fun _ => rfl) L j h 1 (by decide)⟩
theorem ct_one (L : List Ct) : ∀ u ∈ ctCells L, u.oneCell' = true := fun u hu => by
  obtain ⟨x, _, hx⟩ := List.mem_flatMap.1 hu
  simp only [ctC, List.mem_cons, List.not_mem_nil, or_false] at hx
  rcases hx with rfl | rfl <;> rfl
/-- The slice at A reads as the keys L; it lies in a block of keys. -/
def CR (w : World) (A : Option Addr) (L : List Ct) : Prop :=
  ∀ j (h : j < L.length), ∃ b off cs, A = some ⟨b, off, none⟩ ∧ w.heap[b]? = some (.cells cs 27 (0, 0)) ∧ cs[off + j * 2]? = some (.string L[j].1) ∧ cs[off + j * 2 + 1]? = some (.int .i64 L[j].2)
theorem CR.nil {w : World} {A : Option Addr} : CR w A [] := fun j hj => absurd hj (by simp)
theorem CR.keep {w w' : World} {A : Option Addr} {L : List Ct} (h : CR w A L) (hk : ∀ (b : Nat) (cs : Array Value), w.heap[b]? = some (.cells cs 27 (0, 0)) → w'.heap[b]? = w.heap[b]?) : CR w' A L := fun j hj => by
  obtain ⟨b, off, cs, e, h1, h2, h3⟩ := h j hj
  exact ⟨b, off, cs, e, (hk b cs h1).trans h1, h2, h3⟩
theorem CR.below {w w' : World} {A : Option Addr} {L : List Ct} (h : CR w A L) (hb : Below w.heap.size w w') : CR w' A L :=
  h.keep fun b _ h1 => hb.block b (Array.getElem?_eq_some_iff.1 h1).1
theorem CR.grown {w w' : World} {A : Option Addr} {L : List Ct} {g : Nat} {cs : Array Value} {T : TypeId} {fz : Nat × Nat} (h : CR w A L) (hg : w.grownBy w' (some g)) (hb : w.heap[g]? = some (.cells cs T fz)) (hT : T ≠ 27) : CR w' A L :=
  h.keep fun b cs2 h1 => hg.block b (Array.getElem?_eq_some_iff.1 h1).1 (fun e => by
    injection e with e
    subst e
    rw [h1] at hb
    injection hb with hb
    injection hb with _ hb
    exact hT hb.symm)
theorem CR.at {w : World} {A : Option Addr} {L : List Ct} (h : CR w A L) (j : Nat) (hj : j < L.length) :
    ∃ b off, A = some ⟨b, off, none⟩ ∧ b < w.heap.size ∧ w.cell? ⟨b, off + j * 2, none⟩ = some (.string L[j].1) ∧ w.cell? ⟨b, off + j * 2 + 1, none⟩ = some (.int .i64 L[j].2) := by
  obtain ⟨b, off, cs, e, h1, h2, h3⟩ := h j hj
  exact ⟨b, off, e, (Array.getElem?_eq_some_iff.1 h1).1, by rw [cell_of_row w b _ _ _ _ h1]; exact h2, by rw [cell_of_row w b _ _ _ _ h1]; exact h3⟩
theorem CR.take {w : World} {A : Option Addr} {L : List Ct} (h : CR w A L) (n : Nat) : CR w A (L.take n) := fun j hj => by
  rw [List.length_take] at hj
  obtain ⟨b, off, cs, e, h1, h2, h3⟩ := h j (by omega)
  exact ⟨b, off, cs, e, h1, by rw [List.getElem_take]; exact h2, by rw [List.getElem_take]; exact h3⟩
theorem CR.own {w : World} {base n c : Nat} {A : Option Addr} {L : List Ct} (h : w.ownsRow base 27 2 (.slice A n c) n (ctCells L)) : CR w A L := fun j hj => by
  have hl := h.1
  rw [ct_len] at hl
  obtain rfl : n = L.length := by omega
  rcases h.2 with ⟨_, h0⟩ | ⟨g, cap, cur, hv, hbase, hg, hn, hcap, hsz, htake⟩
  · omega
  · injection hv with h1 h2 h3
    subst h1
    obtain ⟨k1, k2⟩ := ct_get L j hj
    have ht : ∀ i v, (ctCells L)[i]? = some v → cur[i]? = some v := fun i v hi => by
      have := (List.getElem?_eq_some_iff.1 hi).1
      rw [ct_len] at this
      rw [← Array.getElem?_toList, ← hi, ← htake, List.getElem?_take_of_lt this]
    exact ⟨g, 0, cur, rfl, hg, by rw [Nat.zero_add]; exact ht _ _ k1, by rw [Nat.zero_add]; exact ht _ _ k2⟩
end Go.Proofs.Ytnpjakgdfjaglaa
namespace Go.Proofs
def Try.growS_ren : Go.Shelf.Ren := ⟨fun | 4 => 54 | n => n, fun | 22 => 22 | 25 => 27 | 3 => 3 | 4 => 4 | 9 => 9 | 20 => 20 | 0 => 0 | n => n, fun | n => n⟩
theorem Try.growS : Go.Proofs.Lays8.n4 Try.prog Try.growS_ren := {
  mixed := by kernel_rfl
  f4 := ⟨Try.f54.name, by decide, Try.func54.trans (congrArg some (by kernel_rfl))⟩
  t0 := Try.underlying0
  a0 := Try.isAgg0
  z0 := Try.sizeOf0
  v0 := Try.zeroValue0
  t3 := Try.underlying3
  a3 := Try.isAgg3
  z3 := Try.sizeOf3
  v3 := Try.zeroValue3
  t4 := Try.underlying4
  a4 := Try.isAgg4
  z4 := Try.sizeOf4
  v4 := Try.zeroValue4
  t9 := Try.underlying9
  a9 := Try.isAgg9
  z9 := Try.sizeOf9
  v9 := Try.zeroValue9
  t20 := Try.underlying20
  a20 := Try.isAgg20
  z20 := Try.sizeOf20
  v20 := Try.zeroValue20
  t22 := Try.underlying22
  a22 := Try.isAgg22
  z22 := Try.sizeOf22
  v22 := Try.zeroValue22 }
end Go.Proofs
namespace Go.Proofs.Ytnpjakgdfjaglaa
open Go.ChangeShapes Go.WideShapes Go.ChangeAt Go.RowKit Go.Joins

theorem ct_info : (Try.prog.info? 27).map (fun i => (i.zero, i.size, i.bytes)) = some (some (.agg #[.string ByteArray.empty, .int .i64 0]), 2, 24) := by kernel_rfl
theorem cr_cells {w : World} {A : Option Addr} {L : List Ct} (h : CR w A L) : ∀ ad, A = some ad → ∀ j u, (ctCells L)[j]? = some u → w.cell? (ad.add j) = some u := by
  intro ad e j u hu
  have hlt := (List.getElem?_eq_some_iff.1 hu).1
  rw [ct_len] at hlt
  have hj : j / 2 < L.length := by omega
  obtain ⟨b, off, e2, hb, h0, h1⟩ := h.at (j / 2) hj
  obtain ⟨k0, k1⟩ := ct_get L (j / 2) hj
  rw [e] at e2
  injection e2 with e2
  subst e2
  rw [add_flat]
  rcases Nat.mod_two_eq_zero_or_one j with hm | hm
  · have ej : j = j / 2 * 2 := by omega
    rw [ej] at hu ⊢
    rw [k0] at hu; rw [h0]; exact hu
  · have ej : j = j / 2 * 2 + 1 := by omega
    rw [ej] at hu ⊢
    rw [k1] at hu; rw [← Nat.add_assoc, h1]; exact hu
section
variable {w : World}
/-- append of some keys to a row of the call's own. -/
theorem wpList_append_ct {ops : Array Oper} {rest : List Oper} {o : Oper} {a : Act} {Q : Exit → Act → World → Prop} (hg : o.guard = none) (s x : Operand)
    (ho : o.op = .call { callee := .builtin .append, args := #[s, x], argTypes := #[22, 22] })
    (base : Nat) (v : Value) (n : Nat) (L : List Ct) (hs : a.eval s = v) (hown : w.ownsRow base 27 2 v n (ctCells L))
    (ao : Option Addr) (m c : Nat) (hx : a.eval x = .slice ao m c) (M : List Ct) (hm : M.length = m) (hnone : ao = none → c = 0) (hmc : m ≤ c) (hR : CR w ao M)
    (hn : n + m ≤ 1000000) (hbase : base ≤ w.heap.size)
    (h : ∀ v' w', w'.ownsRow base 27 2 v' (n + m) (ctCells (L ++ M)) → w.grownBy w' v.ownBlock → wpList Try.prog ops Q rest (a.put o.dst v') w') : wpList Try.prog ops Q (o :: rest) a w := by
  obtain ⟨i0, hi0, hz0, hz1, hz2⟩ := info_parts2 ct_info
  cases ao with
  | some ad =>
    refine wpList_append_own w hg s x 22 ho base 27 i0 _ 2 24 Try.underlying22 hi0 hz0 hz1 hz2 rfl (by omega) v n (ctCells L) hs hown ad m c (ctCells M) hx (by rw [ct_len, hm]) (cr_cells hR ad rfl) (ct_one M) (by unfold maxLen; omega) (by omega) hbase (fun v' w' h2 h3 _ => h v' w' (by rw [ct_app]; exact h2) h3)
  | none =>
    obtain rfl := hnone rfl
    obtain rfl : m = 0 := by omega
    obtain rfl : M = [] := List.eq_nil_of_length_eq_zero hm
    exact wpList_append_own_none hg s x 22 ho base 27 i0 2 Try.underlying22 hi0 v n (ctCells L) hs hown hx (h v w (by simpa using hown) ⟨rfl, rfl, rfl, Nat.le_refl _, fun _ _ _ => rfl⟩)
/-- .. as a step of a region that draws. -/
theorem step_append_ct {ops : Array Oper} {o : Oper} {a : Act} {K : Act → World → Prop} {Q : Exit → Act → World → Prop} {E : Prop} (hg : o.guard = none) (s x : Operand)
    (ho : o.op = .call { callee := .builtin .append, args := #[s, x], argTypes := #[22, 22] })
    (base : Nat) (v : Value) (n : Nat) (L : List Ct) (hs : a.eval s = v) (hown : w.ownsRow base 27 2 v n (ctCells L))
    (ao : Option Addr) (m c : Nat) (hx : a.eval x = .slice ao m c) (M : List Ct) (hm : M.length = m) (hnone : ao = none → c = 0) (hmc : m ≤ c) (hR : CR w ao M)
    (hn : n + m ≤ 1000000) (hbase : base ≤ w.heap.size)
    (h : ∀ v' w', w'.ownsRow base 27 2 v' (n + m) (ctCells (L ++ M)) → w.grownBy w' v.ownBlock → K (a.put o.dst v') w') :
    if Region.wanted o (yielded ops a.tmps) = true then Oper.wp Try.prog o a w K Q else E := by
  have hw : Region.wanted o (yielded ops a.tmps) = true := by simp [Region.wanted, hg]
  rw [if_pos hw]
  obtain ⟨i0, hi0, hz0, hz1, hz2⟩ := info_parts2 ct_info
  cases ao with
  | some ad =>
    refine wp_append_own w s x 22 ho base 27 i0 _ 2 24 Try.underlying22 hi0 hz0 hz1 hz2 rfl (by omega) v n (ctCells L) hs hown ad m c (ctCells M) hx (by rw [ct_len, hm]) (cr_cells hR ad rfl) (ct_one M) (by unfold maxLen; omega) (by omega) hbase (fun v' w' h2 h3 _ => h v' w' (by rw [ct_app]; exact h2) h3)
  | none =>
    obtain rfl := hnone rfl
    obtain rfl : m = 0 := by omega
    obtain rfl : M = [] := List.eq_nil_of_length_eq_zero hm
    have hrun := run_append_owned_none (P := Try.prog) (w := w) base 22 o.type 27 i0 2 Try.underlying22 hi0 v n (ctCells L) hown
    unfold Oper.wp
    simp [execOp, ho, resolve, invoke, builtin, hs, hx, hrun, Result.andThen]
    exact h v w (by simpa using hown) ⟨rfl, rfl, rfl, Nat.le_refl _, fun _ _ _ => rfl⟩
end
/-- A slice value that reads as keys. -/
def SlV (w : World) (v : Value) (L : List Ct) : Prop := ∃ A c, v = .slice A L.length c ∧ L.length ≤ c ∧ (A = none → c = 0) ∧ CR w A L
theorem SlV.own {w : World} {base n : Nat} {v : Value} {L : List Ct} (h : w.ownsRow base 27 2 v n (ctCells L)) : SlV w v L := by
  have hl := h.1
  rw [ct_len] at hl
  obtain rfl : n = L.length := by omega
  rcases h.2 with ⟨rfl, h0⟩ | ⟨g, cap, cur, rfl, hbase, hg, hn, hcap, hsz, htake⟩
  · obtain rfl : L = [] := List.eq_nil_of_length_eq_zero h0
    exact ⟨none, 0, rfl, Nat.le_refl _, fun _ => rfl, CR.nil⟩
  · exact ⟨_, cap, rfl, hn, (fun e => nomatch e), CR.own h⟩
theorem own_nilc (w : World) (base : Nat) : w.ownsRow base 27 2 (.slice none 0 0) 0 (ctCells []) := ⟨rfl, .inl ⟨rfl, rfl⟩⟩
/-- slices.Grow of nil. -/
theorem grow_any (n : Nat) (hn : n ≤ 1000000) (w : World) :
    Calls Try.prog 54 #[.slice none 0 0, .int .i64 (n : Int)] w fun e w' => (∃ v, e = .returned v ∧ w'.ownsRow w.heap.size 27 2 v 0 (ctCells [])) ∧ Below w.heap.size w w' := by
  obtain ⟨i0, hi0, hz0, hz1, hz2⟩ := info_parts2 ct_info
  by_cases h0 : n = 0
  · subst h0
    refine (Any8.slices_Grow_room Try.growS none 0 0 0 w (Nat.le_refl _) (by omega) (by omega) (Nat.le_refl _)).mono ?_
    rintro e w' ⟨rfl, rfl⟩
    exact ⟨⟨_, rfl, own_nilc _ _⟩, Below.refl _ _⟩
  · refine (Any8.slices_Grow_grow Try.growS i0 _ hi0 hz0 (by rw [hz1]; decide) none 0 0 n [] w (Nat.le_refl _) (by omega) (by rw [hz2]; omega) (by omega) (by simp) (fun _ => rfl) (fun a e => nomatch e)).mono ?_
    rintro e w' ⟨rfl, rfl⟩
    refine ⟨⟨_, rfl, by simp [ctCells], .inr ⟨w.heap.size, _, _, rfl, Nat.le_refl _, Deep.blk_alloc_new w.drew _, Nat.zero_le _, grownCap_le_maxLen w (0 + n) 0 _ (by unfold maxLen; omega), ?_, by simp [ctCells]⟩⟩, ?_⟩
    · have hge := grownCap_ge w (0 + n) 0 (Try.growS_ren.t 25)
      simp [size_zeroCells, Value.cells] at hge ⊢
      omega
    · exact (Below.drew (Below.refl _ _)).alloc (Nat.le_refl _) _
end Go.Proofs.Ytnpjakgdfjaglaa
