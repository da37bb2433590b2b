/- The program's combine (written by wip/bin/gen_cb.py). -/
import Derived.RangeFuncNested
import Derived.RangeFuncBound
import Derived.RangeFuncCalls
import Derived.RangeFuncLeaves
import Derived.RangeFuncBox
import Derived.Shelf.Abstract
import Derived.Shelf.RegionOpen
import Derived.WalkKit
import Derived.OwnWalkIn
import Derived.TacticsInMore
import Derived.LoopNIn
import Derived.LoopIn
import Derived.Maps.AppendAt
import Derived.Test.YtkjpficpkpfkdaaPc
namespace Go.Proofs.Ytkjpficpkpfkdaa
open Go.ChangeShapes Go.WideShapes Go.ChangeAt Go.RowKit Ts Go.Shelf

attribute [local go_sem] Oper.semAt_some

set_option maxRecDepth 100000 in
theorem pieces_mk (A : Option Addr) (n c : Nat) (B : Option Addr) (m d : Nat) (w : World) :
    Calls Try.prog 62 #[.slice A n c, .slice B m d] w fun e w' => e = .returned (.func (.func 73) #[] #[.pointer (some ⟨w.heap.size, 0, none⟩), .pointer (some ⟨w.heap.size + 1, 0, none⟩)]) ∧ w' = (w.alloc (.cells #[.slice A n c] 22)).alloc (.cells #[.slice B m d] 22) := by
  go_enter Try.func62, Try.ntmps62
  go_wp2_with fail
  go_ret
  exact ⟨rfl, rfl⟩
theorem pcs_len (k : Nat) (p q : Bool) (o : Int) (A B : List Int) : (pcs k p q o A B).length ≤ k := by
  induction k generalizing p q o A B with
  | zero => exact Nat.le_refl _
  | succ k ih =>
    show (if A = [] ∧ B = [] then [] else _ : List Pc).length ≤ k + 1
    split
    · simp
    · rw [List.length_append]
      have := ih (Ts.flip (nb A B) p A) (Ts.flip (nb A B) q B) (nb A B) (adv (nb A B) A) (adv (nb A B) B)
      split <;> simp <;> omega
def allPcs (a b : List Iv) : List Pc := pcs ((fl a).length + (fl b).length) false false 0 (fl a) (fl b)
theorem allPcs_len (a b : List Iv) : (allPcs a b).length ≤ 2 * a.length + 2 * b.length := by
  have := pcs_len ((fl a).length + (fl b).length) false false 0 (fl a) (fl b)
  rw [fl_len, fl_len] at this
  unfold allPcs; rw [fl_len, fl_len]; exact this
theorem fold_len (X : List Iv) : (X.foldl jn []).length ≤ X.length := by
  have : ∀ (X L : List Iv), (X.foldl jn L).length ≤ L.length + X.length := by
    intro X
    induction X with
    | nil => intro L; simp
    | cons x X ih => intro L; rw [List.foldl_cons]; have := ih (jn L x); have := jn_len L x; simp; omega
  have := this X []
  simpa using this
theorem kept_len (f : Bool → Bool → Bool) (X : List Pc) : ((kept f X).foldl jn []).length ≤ X.length := by
  have h := fold_len (kept f X)
  have h2 := List.length_filter_le (fun x : Pc => f x.2.1 x.2.2) X
  unfold kept at h ⊢
  rw [List.length_map] at h
  omega
theorem blk_own {β : Type} (B : Nat) (cs : Array Value) (t : TypeId) : Own (fun (_ : β) W => W.heap[B]? = some (.cells cs t (0, 0))) := fun s X Y row hs hg hrow =>
  (hg.block B (Array.getElem?_eq_some_iff.1 hs).1 (fun e' => by obtain ⟨o, ho, hc⟩ := hrow B e'.symm; rw [hs] at ho; cases ho; cases hc)).trans hs
theorem kpp_own {β : Type} {n₀ Ba Bb B : Nat} {w₀ : World} (hn : n₀ ≤ w₀.heap.size) (ha : Ba < w₀.heap.size) (hb : Bb < w₀.heap.size) (hB : w₀.heap.size ≤ B) : OwnFrom B (fun (_ : β) W => KpP n₀ Ba Bb w₀ W) :=
  fun _ W W' row hs hg hr => hs.trans ⟨(Below.refl n₀ W).grown hg (Nat.le_trans hn hs.below.size) (fun k e => by have := (hr k e).1; omega), fun hl => hg.block Ba hl (fun e => by have := (hr _ e.symm).1; omega), fun hl => hg.block Bb hl (fun e => by have := (hr _ e.symm).1; omega)⟩
theorem keeps_row {W W2 : World} {base e size n : Nat} {v : Value} {xs : List Value} (hrow : W.ownsRow base e size v n xs) (hg : W.grownBy W2 v.ownBlock) : KeepsOthers W W2 :=
  KeepsOthers.of_grownBy hg fun j o ej hj => by
    rcases hrow.2 with ⟨rfl, _⟩ | ⟨g, cap, cur, rfl, _, hgb, _⟩
    · simp [Value.ownBlock] at ej
    · obtain rfl : g = j := by simpa [Value.ownBlock] using ej
      rw [hgb] at hj; cases hj; rfl
theorem union_cl (x y : Bool) (w : World) : Calls Try.prog 57 #[.bool x, .bool y] w fun e w' => e = .returned (.bool (x || y)) ∧ w' = w := by
  cases x <;> cases y <;>
  · go_enter Try.func57, Try.ntmps57
    go_wp2_with fail
    go_ret
    exact ⟨rfl, rfl⟩
theorem intersect_cl (x y : Bool) (w : World) : Calls Try.prog 59 #[.bool x, .bool y] w fun e w' => e = .returned (.bool (x && y)) ∧ w' = w := by
  cases x <;> cases y <;>
  · go_enter Try.func59, Try.ntmps59
    go_wp2_with fail
    go_ret
    exact ⟨rfl, rfl⟩
theorem minus_cl (x y : Bool) (w : World) : Calls Try.prog 60 #[.bool x, .bool y] w fun e w' => e = .returned (.bool (x && !y)) ∧ w' = w := by
  cases x <;> cases y <;>
  · go_enter Try.func60, Try.ntmps60
    go_wp2_with fail
    go_ret
    exact ⟨rfl, rfl⟩
set_option maxRecDepth 100000 in
set_option maxHeartbeats 4000000 in
theorem comb_union (A : Option Addr) (c : Nat) (a : List Iv) (ha : a.length ≤ 10000) (B : Option Addr) (d : Nat) (b : List Iv) (hb : b.length ≤ 10000) (va : ∀ v ∈ fl a, v < 9223372036854775807) (vb : ∀ v ∈ fl b, v < 9223372036854775807) (w : World) (hRa : Rs w w.heap.size A (ivCells a)) (hRb : Rs w w.heap.size B (ivCells b)) :
    Calls Try.prog 56 #[.slice A a.length c, .slice B b.length d, .func (.func 57) #[] #[]] w fun e w' => (∃ v, e = .returned v ∧ w'.ownsRow w.heap.size 25 2 v (cmbL (fun x y => x || y) a b).length (ivCells (cmbL (fun x y => x || y) a b))) ∧ Below w.heap.size w w' := by
  have HRa := Lib.hid hRa
  have HRb := Lib.hid hRb
  have Hva := Lib.hid va
  have Hvb := Lib.hid vb
  have hXl := allPcs_len a b
  clear hRa hRb va vb
  refine (callsIn_wide (n := 6)).1 ?_
  refine callsIn_of_wp_marks Try.func56 rfl trivial ?_ rfl
  simp only [Try.ntmps56, List.size_toArray, List.length_cons, List.length_nil, Nat.reduceAdd, Nat.reduceSub, Array.replicate_succ, Array.replicate_zero, List.push_toArray, List.append_toArray, List.nil_append, List.cons_append]
  gi_wp2_with (refine ⟨trivial, ?_⟩; gi_at_call 62; refine (callsIn_wide.2 (pieces_mk _ _ _ _ _ _ _)).mono ?_; rintro e w' ⟨rfl, rfl⟩)
  have bK := ((Boxed.new w 67 (.func (.func 57) #[] #[])).alloc (.cells #[.slice none 0 0] 22)).alloc (.cells #[.slice A a.length c] 22) |>.alloc (.cells #[.slice B b.length d] 22)
  have bS := ((Boxed.new (w.alloc (.cells #[.func (.func 57) #[] #[]] 67)) 22 (.slice none 0 0)).alloc (.cells #[.slice A a.length c] 22)).alloc (.cells #[.slice B b.length d] 22)
  have bA := (Boxed.new ((w.alloc (.cells #[.func (.func 57) #[] #[]] 67)).alloc (.cells #[.slice none 0 0] 22)) 22 (.slice A a.length c)).alloc (.cells #[.slice B b.length d] 22)
  have bB := Boxed.new (((w.alloc (.cells #[.func (.func 57) #[] #[]] 67)).alloc (.cells #[.slice none 0 0] 22)).alloc (.cells #[.slice A a.length c] 22)) 22 (.slice B b.length d)
  have hB0 : Below w.heap.size w ((((w.alloc (.cells #[.func (.func 57) #[] #[]] 67)).alloc (.cells #[.slice none 0 0] 22)).alloc (.cells #[.slice A a.length c] 22)).alloc (.cells #[.slice B b.length d] 22)) := ((((Below.refl _ w).alloc (Nat.le_refl _) _).alloc (by simp) _).alloc (by simp; omega) _).alloc (by simp; omega) _
  simp only [World.size_alloc] at bS bA bB
  have hsz : ((((w.alloc (.cells #[.func (.func 57) #[] #[]] 67)).alloc (.cells #[.slice none 0 0] 22)).alloc (.cells #[.slice A a.length c] 22)).alloc (.cells #[.slice B b.length d] 22)).heap.size = w.heap.size + 4 := by simp
  obtain ⟨W0, hW0⟩ : ∃ W0, (((w.alloc (.cells #[.func (.func 57) #[] #[]] 67)).alloc (.cells #[.slice none 0 0] 22)).alloc (.cells #[.slice A a.length c] 22)).alloc (.cells #[.slice B b.length d] 22) = W0 := ⟨_, rfl⟩
  rw [hW0] at bK bS bA bB hB0 hsz ⊢
  clear hW0
  have hseq : SeqStopsK Fence.wide (6 - 1) Try.prog 73 #[.pointer (some ⟨w.heap.size + 1 + 1, 0, none⟩), .pointer (some ⟨w.heap.size + 1 + 1 + 1, 0, none⟩)] pcV (KpP w.heap.size (w.heap.size + 1 + 1) (w.heap.size + 1 + 1 + 1)) (fun ys => ys = allPcs a b) (fun pre => pre <+: allPcs a b) (allPcs a b).length W0 := fun l J Jx W hW hJa _ hY h0 =>
    pieces1_in 5 (by omega) l _ _ w.heap.size A c a (by omega) B d b (by omega) Hva.out Hvb.out (allPcs a b) rfl J Jx hY W hJa ⟨by have := hW.size; omega, (hW.cell (p := ⟨w.heap.size + 1 + 1, 0, none⟩) bA.lt).trans bA.cell⟩ ⟨by have := hW.size; omega, (hW.cell (p := ⟨w.heap.size + 1 + 1 + 1, 0, none⟩) bB.lt).trans bB.cell⟩
      (HRa.out.below (hB0.trans (hW.mono (by omega)))) (HRb.out.below (hB0.trans (hW.mono (by omega)))) h0 (by have := hW.size; omega)
  refine wpIn_rangeFunc_ownH rfl (by omega) (gf := 73) (lb := #[.pointer (some ⟨w.heap.size + 1 + 1, 0, none⟩), .pointer (some ⟨w.heap.size + 1 + 1 + 1, 0, none⟩)]) rfl trivial (enters_of Try.func73 (by kernel_rfl) rfl)
    hseq KpP.trans (KpP.putObj (by omega) (by omega) (by omega)) (Below.refl _ _) (fun _ => rfl)
    (fun pre W => (((∃ v, Boxed W (w.heap.size + 1) 22 v ∧ W.ownsRow w.heap.size 25 2 v ((kept (fun x y => x || y) pre).foldl jn []).length (ivCells ((kept (fun x y => x || y) pre).foldl jn [])) ∧ True) ∧ Boxed W w.heap.size 67 (.func (.func 57) #[] #[])) ∧ (Boxed W (w.heap.size + 1 + 1) 22 (.slice A a.length c) ∧ Boxed W (w.heap.size + 1 + 1 + 1) 22 (.slice B b.length d))) ∧ Below w.heap.size w W)
    (fun _ _ _ => False)
    (OwnFrom.and (OwnFrom.and (OwnFrom.and (Own.from (holdsRow_own w.heap.size (w.heap.size + 1) 22 25 2 (fun pre => ((kept (fun x y => x || y) pre).foldl jn []).length) (fun pre => ivCells ((kept (fun x y => x || y) pre).foldl jn [])) (fun _ _ => True)) _) (Own.from (boxed_own _ _ _) _)) (OwnFrom.and (Own.from (boxed_own _ _ _) _) (Own.from (boxed_own _ _ _) _))) (ownFrom_below (Nat.le_refl _) (by omega)))
    (fun _ _ _ _ _ hs _ _ => hs)
    ⟨⟨⟨⟨_, bS, ⟨rfl, Or.inl ⟨rfl, rfl⟩⟩, trivial⟩, bK⟩, bA, bB⟩, hB0⟩
    (fun x a' W => ∃ Bx, w.heap.size + 3 < Bx ∧ W.heap[Bx]? = some (.cells #[.int .i64 x.1.1, .int .i64 x.1.2, .bool x.2.1, .bool x.2.2] 74 (0, 0)) ∧ a' = { tmps := #[.slice A a.length c, .slice B b.length d, .func (.func 57) #[] #[], undef, undef, .pointer (some ⟨w.heap.size, 0, none⟩), .slice none 0 0, .pointer (some ⟨w.heap.size + 1, 0, none⟩), .pointer (some ⟨Bx, 0, none⟩), .slice A a.length c, .slice B b.length d, .func (.func 73) #[] #[.pointer (some ⟨w.heap.size + 1 + 1, 0, none⟩), .pointer (some ⟨w.heap.size + 1 + 1 + 1, 0, none⟩)], .agg #[.int .i64 x.1.1, .int .i64 x.1.2, .bool x.2.1, .bool x.2.2], undef, undef, undef, undef, undef, undef, undef, undef, undef, undef, undef], defers := [] })
    (fun x a' _ X Y row hs hg hr => by obtain ⟨Bx, h1, h2, h3⟩ := hs; exact ⟨Bx, h1, blk_own (β := Unit) Bx _ _ () X Y row h2 hg (fun r e => (hr r e).2), h3⟩)
    ?assign ?body ?done ?stop
  case assign =>
    rintro l pre ⟨⟨x1, x2⟩, p, q⟩ W K ⟨⟨⟨⟨v, hv, hrow, _⟩, hk⟩, h1, h2⟩, hB⟩ hK
    dsimp only [pcV]
    gi_wp2
    exact hK _ _ ((KeepsOthers.alloc _ _).from _) (KpP.of_below ((Below.refl _ W).alloc (Nat.le_refl _) _) hB.size) ⟨⟨⟨⟨v, hv.alloc _, hrow.alloc _, trivial⟩, hk.alloc _⟩, h1.alloc _, h2.alloc _⟩, hB.alloc hB.size _⟩ ⟨W.heap.size, by have := h2.lt; omega, Deep.blk_alloc_new W _, rfl⟩
  case body =>
    rintro l pre ⟨⟨x1, x2⟩, p, q⟩ a' W hl ⟨r, hr⟩ ⟨⟨⟨⟨v, hv, hrow, _⟩, hk⟩, h1, h2⟩, hB⟩ ⟨Bx, hBx, bX, rfl⟩ hlt
    have cv := hv.cell
    have ck := hk.cell
    have cx0 := cell_of_row W Bx 0 _ _ _ bX
    have cx1 := cell_of_row W Bx 1 _ _ _ bX
    have cx2 := cell_of_row W Bx 2 _ _ _ bX
    have cx3 := cell_of_row W Bx 3 _ _ _ bX
    simp at cx0 cx1 cx2 cx3
    have hkl := kept_len (fun x y => x || y) pre
    have hWs := hB.size
    have HRow := Lib.hid hrow
    have hsn := kept_snoc (fun x y => x || y) pre ((x1, x2), p, q)
    dsimp only at hsn
    clear hrow bX
    by_cases hf : (fun x y => x || y) p q = true
    · rw [if_pos hf] at hsn
      have hst : (kept (fun x y => x || y) (pre ++ [((x1, x2), p, q)])).foldl jn [] = jn ((kept (fun x y => x || y) pre).foldl jn []) (x1, x2) := by rw [hsn, List.foldl_append]; rfl
      have HST := Lib.hid hst
      clear hst hsn
      dsimp only at hf
      have hlen2 : ((kept (fun x y => x || y) pre).foldl jn []).length ≤ 90000 := by omega
      gi_wp2_with (first
        | (refine ⟨trivial, ?_⟩; gi_at_call 57; refine (CallsIn.inRound l (callsIn_wide.2 (union_cl _ _ _))).mono ?_; rintro e w' ⟨rfl, hw⟩; have hw2 := hw.symm; subst hw2; clear hw)
        | (refine ⟨trivial, ?_⟩; gi_at_call 54; refine (CallsIn.inRound l (callsIn_wide.2 (join_any w.heap.size v ((kept (fun x y => x || y) pre).foldl jn []) hlen2 x1 x2 _ HRow.out (by omega)))).mono ?_; rintro e w2 ⟨v', rfl, hown2, hg2⟩; obtain ⟨A2, c2, rfl, _, _, _⟩ := rs_own hown2; have hv1 := hv.kept hg2 (hv.not_row (by decide) HRow.out); have cv1 := hv1.cell; have fv1 := hv1.frozen; have HO2 := Lib.hid hown2; have HG2 := Lib.hid hg2; clear hown2 hg2))
      have hbel : Below w.heap.size W (w2.setCell ⟨w.heap.size + 1, 0, none⟩ (.slice A2 (jn ((kept (fun x y => x || y) pre).foldl jn []) (x1, x2)).length c2)) := (below_grownk (B := w.heap.size) (a := W) (Below.refl _ _) HRow.out HG2.out (Nat.le_refl _) hWs).setCell (p := ⟨w.heap.size + 1, 0, none⟩) (by simp) _
      have k1 := (h1.kept HG2.out (h1.not_row (by decide) HRow.out)).other (show w.heap.size + 1 + 1 ≠ w.heap.size + 1 by omega) (.slice A2 (jn ((kept (fun x y => x || y) pre).foldl jn []) (x1, x2)).length c2)
      have k2 := (h2.kept HG2.out (h2.not_row (by decide) HRow.out)).other (show w.heap.size + 1 + 1 + 1 ≠ w.heap.size + 1 by omega) (.slice A2 (jn ((kept (fun x y => x || y) pre).foldl jn []) (x1, x2)).length c2)
      have kk := (hk.kept HG2.out (hk.not_row (by decide) HRow.out)).other (show w.heap.size ≠ w.heap.size + 1 by omega) (.slice A2 (jn ((kept (fun x y => x || y) pre).foldl jn []) (x1, x2)).length c2)
      refine ⟨(KeepsOthers.trans (keeps_row HRow.out HG2.out) (KeepsOthers.setCell _ _ _)).from _, ⟨hbel, fun _ => Eq.trans k1 (Eq.symm h1), fun _ => Eq.trans k2 (Eq.symm h2)⟩, ⟨⟨⟨⟨_, hv1.set _, ?_, trivial⟩, kk⟩, k1, k2⟩, hB.trans hbel⟩⟩
      rw [HST.out]
      exact HO2.out.kept (grownBy_setCell' w2 (w.heap.size + 1) _) (.inr (hv1.not_row (by decide) HO2.out).symm)
    · rw [if_neg hf, List.append_nil] at hsn
      have HST := Lib.hid hsn
      have hf2 : (fun x y => x || y) p q = false := by simpa using hf
      dsimp only at hf2
      clear hsn hf
      gi_wp2_with (refine ⟨trivial, ?_⟩; gi_at_call 57; refine (CallsIn.inRound l (callsIn_wide.2 (union_cl _ _ _))).mono ?_; rintro e w' ⟨rfl, hw⟩; have hw2 := hw.symm; subst hw2; clear hw)
      refine ⟨KeepsFrom.refl _ _, KpP.refl _ _ _ _, ⟨⟨⟨⟨_, hv, ?_, trivial⟩, hk⟩, h1, h2⟩, hB⟩⟩
      rw [HST.out]
      exact HRow.out
  case done =>
    rintro D ys W hD rfl ⟨⟨⟨⟨v, hv, hrow, _⟩, hk⟩, h1, h2⟩, hB⟩ hK
    have cv := hv.cell
    gi_wp2
    refine ⟨by simp, .inl ⟨_, _, rfl, run_takeDeferred hK, ?_⟩⟩
    exact ⟨_, results_tmp rfl _ _ _, ⟨v, rfl, ownsRow_putObj hrow _ hK rfl⟩, hB.trans (belowK_b (w := w) (Nat.le_refl _) W D _ _ (by omega) hK rfl rfl)⟩
  case stop =>
    rintro D c pre W _ _ h _
    exact h.elim
set_option maxRecDepth 100000 in
set_option maxHeartbeats 4000000 in
theorem comb_intersect (A : Option Addr) (c : Nat) (a : List Iv) (ha : a.length ≤ 10000) (B : Option Addr) (d : Nat) (b : List Iv) (hb : b.length ≤ 10000) (va : ∀ v ∈ fl a, v < 9223372036854775807) (vb : ∀ v ∈ fl b, v < 9223372036854775807) (w : World) (hRa : Rs w w.heap.size A (ivCells a)) (hRb : Rs w w.heap.size B (ivCells b)) :
    Calls Try.prog 56 #[.slice A a.length c, .slice B b.length d, .func (.func 59) #[] #[]] w fun e w' => (∃ v, e = .returned v ∧ w'.ownsRow w.heap.size 25 2 v (cmbL (fun x y => x && y) a b).length (ivCells (cmbL (fun x y => x && y) a b))) ∧ Below w.heap.size w w' := by
  have HRa := Lib.hid hRa
  have HRb := Lib.hid hRb
  have Hva := Lib.hid va
  have Hvb := Lib.hid vb
  have hXl := allPcs_len a b
  clear hRa hRb va vb
  refine (callsIn_wide (n := 6)).1 ?_
  refine callsIn_of_wp_marks Try.func56 rfl trivial ?_ rfl
  simp only [Try.ntmps56, List.size_toArray, List.length_cons, List.length_nil, Nat.reduceAdd, Nat.reduceSub, Array.replicate_succ, Array.replicate_zero, List.push_toArray, List.append_toArray, List.nil_append, List.cons_append]
  gi_wp2_with (refine ⟨trivial, ?_⟩; gi_at_call 62; refine (callsIn_wide.2 (pieces_mk _ _ _ _ _ _ _)).mono ?_; rintro e w' ⟨rfl, rfl⟩)
  have bK := ((Boxed.new w 67 (.func (.func 59) #[] #[])).alloc (.cells #[.slice none 0 0] 22)).alloc (.cells #[.slice A a.length c] 22) |>.alloc (.cells #[.slice B b.length d] 22)
  have bS := ((Boxed.new (w.alloc (.cells #[.func (.func 59) #[] #[]] 67)) 22 (.slice none 0 0)).alloc (.cells #[.slice A a.length c] 22)).alloc (.cells #[.slice B b.length d] 22)
  have bA := (Boxed.new ((w.alloc (.cells #[.func (.func 59) #[] #[]] 67)).alloc (.cells #[.slice none 0 0] 22)) 22 (.slice A a.length c)).alloc (.cells #[.slice B b.length d] 22)
  have bB := Boxed.new (((w.alloc (.cells #[.func (.func 59) #[] #[]] 67)).alloc (.cells #[.slice none 0 0] 22)).alloc (.cells #[.slice A a.length c] 22)) 22 (.slice B b.length d)
  have hB0 : Below w.heap.size w ((((w.alloc (.cells #[.func (.func 59) #[] #[]] 67)).alloc (.cells #[.slice none 0 0] 22)).alloc (.cells #[.slice A a.length c] 22)).alloc (.cells #[.slice B b.length d] 22)) := ((((Below.refl _ w).alloc (Nat.le_refl _) _).alloc (by simp) _).alloc (by simp; omega) _).alloc (by simp; omega) _
  simp only [World.size_alloc] at bS bA bB
  have hsz : ((((w.alloc (.cells #[.func (.func 59) #[] #[]] 67)).alloc (.cells #[.slice none 0 0] 22)).alloc (.cells #[.slice A a.length c] 22)).alloc (.cells #[.slice B b.length d] 22)).heap.size = w.heap.size + 4 := by simp
  obtain ⟨W0, hW0⟩ : ∃ W0, (((w.alloc (.cells #[.func (.func 59) #[] #[]] 67)).alloc (.cells #[.slice none 0 0] 22)).alloc (.cells #[.slice A a.length c] 22)).alloc (.cells #[.slice B b.length d] 22) = W0 := ⟨_, rfl⟩
  rw [hW0] at bK bS bA bB hB0 hsz ⊢
  clear hW0
  have hseq : SeqStopsK Fence.wide (6 - 1) Try.prog 73 #[.pointer (some ⟨w.heap.size + 1 + 1, 0, none⟩), .pointer (some ⟨w.heap.size + 1 + 1 + 1, 0, none⟩)] pcV (KpP w.heap.size (w.heap.size + 1 + 1) (w.heap.size + 1 + 1 + 1)) (fun ys => ys = allPcs a b) (fun pre => pre <+: allPcs a b) (allPcs a b).length W0 := fun l J Jx W hW hJa _ hY h0 =>
    pieces1_in 5 (by omega) l _ _ w.heap.size A c a (by omega) B d b (by omega) Hva.out Hvb.out (allPcs a b) rfl J Jx hY W hJa ⟨by have := hW.size; omega, (hW.cell (p := ⟨w.heap.size + 1 + 1, 0, none⟩) bA.lt).trans bA.cell⟩ ⟨by have := hW.size; omega, (hW.cell (p := ⟨w.heap.size + 1 + 1 + 1, 0, none⟩) bB.lt).trans bB.cell⟩
      (HRa.out.below (hB0.trans (hW.mono (by omega)))) (HRb.out.below (hB0.trans (hW.mono (by omega)))) h0 (by have := hW.size; omega)
  refine wpIn_rangeFunc_ownH rfl (by omega) (gf := 73) (lb := #[.pointer (some ⟨w.heap.size + 1 + 1, 0, none⟩), .pointer (some ⟨w.heap.size + 1 + 1 + 1, 0, none⟩)]) rfl trivial (enters_of Try.func73 (by kernel_rfl) rfl)
    hseq KpP.trans (KpP.putObj (by omega) (by omega) (by omega)) (Below.refl _ _) (fun _ => rfl)
    (fun pre W => (((∃ v, Boxed W (w.heap.size + 1) 22 v ∧ W.ownsRow w.heap.size 25 2 v ((kept (fun x y => x && y) pre).foldl jn []).length (ivCells ((kept (fun x y => x && y) pre).foldl jn [])) ∧ True) ∧ Boxed W w.heap.size 67 (.func (.func 59) #[] #[])) ∧ (Boxed W (w.heap.size + 1 + 1) 22 (.slice A a.length c) ∧ Boxed W (w.heap.size + 1 + 1 + 1) 22 (.slice B b.length d))) ∧ Below w.heap.size w W)
    (fun _ _ _ => False)
    (OwnFrom.and (OwnFrom.and (OwnFrom.and (Own.from (holdsRow_own w.heap.size (w.heap.size + 1) 22 25 2 (fun pre => ((kept (fun x y => x && y) pre).foldl jn []).length) (fun pre => ivCells ((kept (fun x y => x && y) pre).foldl jn [])) (fun _ _ => True)) _) (Own.from (boxed_own _ _ _) _)) (OwnFrom.and (Own.from (boxed_own _ _ _) _) (Own.from (boxed_own _ _ _) _))) (ownFrom_below (Nat.le_refl _) (by omega)))
    (fun _ _ _ _ _ hs _ _ => hs)
    ⟨⟨⟨⟨_, bS, ⟨rfl, Or.inl ⟨rfl, rfl⟩⟩, trivial⟩, bK⟩, bA, bB⟩, hB0⟩
    (fun x a' W => ∃ Bx, w.heap.size + 3 < Bx ∧ W.heap[Bx]? = some (.cells #[.int .i64 x.1.1, .int .i64 x.1.2, .bool x.2.1, .bool x.2.2] 74 (0, 0)) ∧ a' = { tmps := #[.slice A a.length c, .slice B b.length d, .func (.func 59) #[] #[], undef, undef, .pointer (some ⟨w.heap.size, 0, none⟩), .slice none 0 0, .pointer (some ⟨w.heap.size + 1, 0, none⟩), .pointer (some ⟨Bx, 0, none⟩), .slice A a.length c, .slice B b.length d, .func (.func 73) #[] #[.pointer (some ⟨w.heap.size + 1 + 1, 0, none⟩), .pointer (some ⟨w.heap.size + 1 + 1 + 1, 0, none⟩)], .agg #[.int .i64 x.1.1, .int .i64 x.1.2, .bool x.2.1, .bool x.2.2], undef, undef, undef, undef, undef, undef, undef, undef, undef, undef, undef], defers := [] })
    (fun x a' _ X Y row hs hg hr => by obtain ⟨Bx, h1, h2, h3⟩ := hs; exact ⟨Bx, h1, blk_own (β := Unit) Bx _ _ () X Y row h2 hg (fun r e => (hr r e).2), h3⟩)
    ?assign ?body ?done ?stop
  case assign =>
    rintro l pre ⟨⟨x1, x2⟩, p, q⟩ W K ⟨⟨⟨⟨v, hv, hrow, _⟩, hk⟩, h1, h2⟩, hB⟩ hK
    dsimp only [pcV]
    gi_wp2
    exact hK _ _ ((KeepsOthers.alloc _ _).from _) (KpP.of_below ((Below.refl _ W).alloc (Nat.le_refl _) _) hB.size) ⟨⟨⟨⟨v, hv.alloc _, hrow.alloc _, trivial⟩, hk.alloc _⟩, h1.alloc _, h2.alloc _⟩, hB.alloc hB.size _⟩ ⟨W.heap.size, by have := h2.lt; omega, Deep.blk_alloc_new W _, rfl⟩
  case body =>
    rintro l pre ⟨⟨x1, x2⟩, p, q⟩ a' W hl ⟨r, hr⟩ ⟨⟨⟨⟨v, hv, hrow, _⟩, hk⟩, h1, h2⟩, hB⟩ ⟨Bx, hBx, bX, rfl⟩ hlt
    have cv := hv.cell
    have ck := hk.cell
    have cx0 := cell_of_row W Bx 0 _ _ _ bX
    have cx1 := cell_of_row W Bx 1 _ _ _ bX
    have cx2 := cell_of_row W Bx 2 _ _ _ bX
    have cx3 := cell_of_row W Bx 3 _ _ _ bX
    simp at cx0 cx1 cx2 cx3
    have hkl := kept_len (fun x y => x && y) pre
    have hWs := hB.size
    have HRow := Lib.hid hrow
    have hsn := kept_snoc (fun x y => x && y) pre ((x1, x2), p, q)
    dsimp only at hsn
    clear hrow bX
    by_cases hf : (fun x y => x && y) p q = true
    · rw [if_pos hf] at hsn
      have hst : (kept (fun x y => x && y) (pre ++ [((x1, x2), p, q)])).foldl jn [] = jn ((kept (fun x y => x && y) pre).foldl jn []) (x1, x2) := by rw [hsn, List.foldl_append]; rfl
      have HST := Lib.hid hst
      clear hst hsn
      dsimp only at hf
      have hlen2 : ((kept (fun x y => x && y) pre).foldl jn []).length ≤ 90000 := by omega
      gi_wp2_with (first
        | (refine ⟨trivial, ?_⟩; gi_at_call 59; refine (CallsIn.inRound l (callsIn_wide.2 (intersect_cl _ _ _))).mono ?_; rintro e w' ⟨rfl, hw⟩; have hw2 := hw.symm; subst hw2; clear hw)
        | (refine ⟨trivial, ?_⟩; gi_at_call 54; refine (CallsIn.inRound l (callsIn_wide.2 (join_any w.heap.size v ((kept (fun x y => x && y) pre).foldl jn []) hlen2 x1 x2 _ HRow.out (by omega)))).mono ?_; rintro e w2 ⟨v', rfl, hown2, hg2⟩; obtain ⟨A2, c2, rfl, _, _, _⟩ := rs_own hown2; have hv1 := hv.kept hg2 (hv.not_row (by decide) HRow.out); have cv1 := hv1.cell; have fv1 := hv1.frozen; have HO2 := Lib.hid hown2; have HG2 := Lib.hid hg2; clear hown2 hg2))
      have hbel : Below w.heap.size W (w2.setCell ⟨w.heap.size + 1, 0, none⟩ (.slice A2 (jn ((kept (fun x y => x && y) pre).foldl jn []) (x1, x2)).length c2)) := (below_grownk (B := w.heap.size) (a := W) (Below.refl _ _) HRow.out HG2.out (Nat.le_refl _) hWs).setCell (p := ⟨w.heap.size + 1, 0, none⟩) (by simp) _
      have k1 := (h1.kept HG2.out (h1.not_row (by decide) HRow.out)).other (show w.heap.size + 1 + 1 ≠ w.heap.size + 1 by omega) (.slice A2 (jn ((kept (fun x y => x && y) pre).foldl jn []) (x1, x2)).length c2)
      have k2 := (h2.kept HG2.out (h2.not_row (by decide) HRow.out)).other (show w.heap.size + 1 + 1 + 1 ≠ w.heap.size + 1 by omega) (.slice A2 (jn ((kept (fun x y => x && y) pre).foldl jn []) (x1, x2)).length c2)
      have kk := (hk.kept HG2.out (hk.not_row (by decide) HRow.out)).other (show w.heap.size ≠ w.heap.size + 1 by omega) (.slice A2 (jn ((kept (fun x y => x && y) pre).foldl jn []) (x1, x2)).length c2)
      refine ⟨(KeepsOthers.trans (keeps_row HRow.out HG2.out) (KeepsOthers.setCell _ _ _)).from _, ⟨hbel, fun _ => Eq.trans k1 (Eq.symm h1), fun _ => Eq.trans k2 (Eq.symm h2)⟩, ⟨⟨⟨⟨_, hv1.set _, ?_, trivial⟩, kk⟩, k1, k2⟩, hB.trans hbel⟩⟩
      rw [HST.out]
      exact HO2.out.kept (grownBy_setCell' w2 (w.heap.size + 1) _) (.inr (hv1.not_row (by decide) HO2.out).symm)
    · rw [if_neg hf, List.append_nil] at hsn
      have HST := Lib.hid hsn
      have hf2 : (fun x y => x && y) p q = false := by simpa using hf
      dsimp only at hf2
      clear hsn hf
      gi_wp2_with (refine ⟨trivial, ?_⟩; gi_at_call 59; refine (CallsIn.inRound l (callsIn_wide.2 (intersect_cl _ _ _))).mono ?_; rintro e w' ⟨rfl, hw⟩; have hw2 := hw.symm; subst hw2; clear hw)
      refine ⟨KeepsFrom.refl _ _, KpP.refl _ _ _ _, ⟨⟨⟨⟨_, hv, ?_, trivial⟩, hk⟩, h1, h2⟩, hB⟩⟩
      rw [HST.out]
      exact HRow.out
  case done =>
    rintro D ys W hD rfl ⟨⟨⟨⟨v, hv, hrow, _⟩, hk⟩, h1, h2⟩, hB⟩ hK
    have cv := hv.cell
    gi_wp2
    refine ⟨by simp, .inl ⟨_, _, rfl, run_takeDeferred hK, ?_⟩⟩
    exact ⟨_, results_tmp rfl _ _ _, ⟨v, rfl, ownsRow_putObj hrow _ hK rfl⟩, hB.trans (belowK_b (w := w) (Nat.le_refl _) W D _ _ (by omega) hK rfl rfl)⟩
  case stop =>
    rintro D c pre W _ _ h _
    exact h.elim
set_option maxRecDepth 100000 in
set_option maxHeartbeats 4000000 in
theorem comb_minus (A : Option Addr) (c : Nat) (a : List Iv) (ha : a.length ≤ 10000) (B : Option Addr) (d : Nat) (b : List Iv) (hb : b.length ≤ 10000) (va : ∀ v ∈ fl a, v < 9223372036854775807) (vb : ∀ v ∈ fl b, v < 9223372036854775807) (w : World) (hRa : Rs w w.heap.size A (ivCells a)) (hRb : Rs w w.heap.size B (ivCells b)) :
    Calls Try.prog 56 #[.slice A a.length c, .slice B b.length d, .func (.func 60) #[] #[]] w fun e w' => (∃ v, e = .returned v ∧ w'.ownsRow w.heap.size 25 2 v (cmbL (fun x y => x && !y) a b).length (ivCells (cmbL (fun x y => x && !y) a b))) ∧ Below w.heap.size w w' := by
  have HRa := Lib.hid hRa
  have HRb := Lib.hid hRb
  have Hva := Lib.hid va
  have Hvb := Lib.hid vb
  have hXl := allPcs_len a b
  clear hRa hRb va vb
  refine (callsIn_wide (n := 6)).1 ?_
  refine callsIn_of_wp_marks Try.func56 rfl trivial ?_ rfl
  simp only [Try.ntmps56, List.size_toArray, List.length_cons, List.length_nil, Nat.reduceAdd, Nat.reduceSub, Array.replicate_succ, Array.replicate_zero, List.push_toArray, List.append_toArray, List.nil_append, List.cons_append]
  gi_wp2_with (refine ⟨trivial, ?_⟩; gi_at_call 62; refine (callsIn_wide.2 (pieces_mk _ _ _ _ _ _ _)).mono ?_; rintro e w' ⟨rfl, rfl⟩)
  have bK := ((Boxed.new w 67 (.func (.func 60) #[] #[])).alloc (.cells #[.slice none 0 0] 22)).alloc (.cells #[.slice A a.length c] 22) |>.alloc (.cells #[.slice B b.length d] 22)
  have bS := ((Boxed.new (w.alloc (.cells #[.func (.func 60) #[] #[]] 67)) 22 (.slice none 0 0)).alloc (.cells #[.slice A a.length c] 22)).alloc (.cells #[.slice B b.length d] 22)
  have bA := (Boxed.new ((w.alloc (.cells #[.func (.func 60) #[] #[]] 67)).alloc (.cells #[.slice none 0 0] 22)) 22 (.slice A a.length c)).alloc (.cells #[.slice B b.length d] 22)
  have bB := Boxed.new (((w.alloc (.cells #[.func (.func 60) #[] #[]] 67)).alloc (.cells #[.slice none 0 0] 22)).alloc (.cells #[.slice A a.length c] 22)) 22 (.slice B b.length d)
  have hB0 : Below w.heap.size w ((((w.alloc (.cells #[.func (.func 60) #[] #[]] 67)).alloc (.cells #[.slice none 0 0] 22)).alloc (.cells #[.slice A a.length c] 22)).alloc (.cells #[.slice B b.length d] 22)) := ((((Below.refl _ w).alloc (Nat.le_refl _) _).alloc (by simp) _).alloc (by simp; omega) _).alloc (by simp; omega) _
  simp only [World.size_alloc] at bS bA bB
  have hsz : ((((w.alloc (.cells #[.func (.func 60) #[] #[]] 67)).alloc (.cells #[.slice none 0 0] 22)).alloc (.cells #[.slice A a.length c] 22)).alloc (.cells #[.slice B b.length d] 22)).heap.size = w.heap.size + 4 := by simp
  obtain ⟨W0, hW0⟩ : ∃ W0, (((w.alloc (.cells #[.func (.func 60) #[] #[]] 67)).alloc (.cells #[.slice none 0 0] 22)).alloc (.cells #[.slice A a.length c] 22)).alloc (.cells #[.slice B b.length d] 22) = W0 := ⟨_, rfl⟩
  rw [hW0] at bK bS bA bB hB0 hsz ⊢
  clear hW0
  have hseq : SeqStopsK Fence.wide (6 - 1) Try.prog 73 #[.pointer (some ⟨w.heap.size + 1 + 1, 0, none⟩), .pointer (some ⟨w.heap.size + 1 + 1 + 1, 0, none⟩)] pcV (KpP w.heap.size (w.heap.size + 1 + 1) (w.heap.size + 1 + 1 + 1)) (fun ys => ys = allPcs a b) (fun pre => pre <+: allPcs a b) (allPcs a b).length W0 := fun l J Jx W hW hJa _ hY h0 =>
    pieces1_in 5 (by omega) l _ _ w.heap.size A c a (by omega) B d b (by omega) Hva.out Hvb.out (allPcs a b) rfl J Jx hY W hJa ⟨by have := hW.size; omega, (hW.cell (p := ⟨w.heap.size + 1 + 1, 0, none⟩) bA.lt).trans bA.cell⟩ ⟨by have := hW.size; omega, (hW.cell (p := ⟨w.heap.size + 1 + 1 + 1, 0, none⟩) bB.lt).trans bB.cell⟩
      (HRa.out.below (hB0.trans (hW.mono (by omega)))) (HRb.out.below (hB0.trans (hW.mono (by omega)))) h0 (by have := hW.size; omega)
  refine wpIn_rangeFunc_ownH rfl (by omega) (gf := 73) (lb := #[.pointer (some ⟨w.heap.size + 1 + 1, 0, none⟩), .pointer (some ⟨w.heap.size + 1 + 1 + 1, 0, none⟩)]) rfl trivial (enters_of Try.func73 (by kernel_rfl) rfl)
    hseq KpP.trans (KpP.putObj (by omega) (by omega) (by omega)) (Below.refl _ _) (fun _ => rfl)
    (fun pre W => (((∃ v, Boxed W (w.heap.size + 1) 22 v ∧ W.ownsRow w.heap.size 25 2 v ((kept (fun x y => x && !y) pre).foldl jn []).length (ivCells ((kept (fun x y => x && !y) pre).foldl jn [])) ∧ True) ∧ Boxed W w.heap.size 67 (.func (.func 60) #[] #[])) ∧ (Boxed W (w.heap.size + 1 + 1) 22 (.slice A a.length c) ∧ Boxed W (w.heap.size + 1 + 1 + 1) 22 (.slice B b.length d))) ∧ Below w.heap.size w W)
    (fun _ _ _ => False)
    (OwnFrom.and (OwnFrom.and (OwnFrom.and (Own.from (holdsRow_own w.heap.size (w.heap.size + 1) 22 25 2 (fun pre => ((kept (fun x y => x && !y) pre).foldl jn []).length) (fun pre => ivCells ((kept (fun x y => x && !y) pre).foldl jn [])) (fun _ _ => True)) _) (Own.from (boxed_own _ _ _) _)) (OwnFrom.and (Own.from (boxed_own _ _ _) _) (Own.from (boxed_own _ _ _) _))) (ownFrom_below (Nat.le_refl _) (by omega)))
    (fun _ _ _ _ _ hs _ _ => hs)
    ⟨⟨⟨⟨_, bS, ⟨rfl, Or.inl ⟨rfl, rfl⟩⟩, trivial⟩, bK⟩, bA, bB⟩, hB0⟩
    (fun x a' W => ∃ Bx, w.heap.size + 3 < Bx ∧ W.heap[Bx]? = some (.cells #[.int .i64 x.1.1, .int .i64 x.1.2, .bool x.2.1, .bool x.2.2] 74 (0, 0)) ∧ a' = { tmps := #[.slice A a.length c, .slice B b.length d, .func (.func 60) #[] #[], undef, undef, .pointer (some ⟨w.heap.size, 0, none⟩), .slice none 0 0, .pointer (some ⟨w.heap.size + 1, 0, none⟩), .pointer (some ⟨Bx, 0, none⟩), .slice A a.length c, .slice B b.length d, .func (.func 73) #[] #[.pointer (some ⟨w.heap.size + 1 + 1, 0, none⟩), .pointer (some ⟨w.heap.size + 1 + 1 + 1, 0, none⟩)], .agg #[.int .i64 x.1.1, .int .i64 x.1.2, .bool x.2.1, .bool x.2.2], undef, undef, undef, undef, undef, undef, undef, undef, undef, undef, undef], defers := [] })
    (fun x a' _ X Y row hs hg hr => by obtain ⟨Bx, h1, h2, h3⟩ := hs; exact ⟨Bx, h1, blk_own (β := Unit) Bx _ _ () X Y row h2 hg (fun r e => (hr r e).2), h3⟩)
    ?assign ?body ?done ?stop
  case assign =>
    rintro l pre ⟨⟨x1, x2⟩, p, q⟩ W K ⟨⟨⟨⟨v, hv, hrow, _⟩, hk⟩, h1, h2⟩, hB⟩ hK
    dsimp only [pcV]
    gi_wp2
    exact hK _ _ ((KeepsOthers.alloc _ _).from _) (KpP.of_below ((Below.refl _ W).alloc (Nat.le_refl _) _) hB.size) ⟨⟨⟨⟨v, hv.alloc _, hrow.alloc _, trivial⟩, hk.alloc _⟩, h1.alloc _, h2.alloc _⟩, hB.alloc hB.size _⟩ ⟨W.heap.size, by have := h2.lt; omega, Deep.blk_alloc_new W _, rfl⟩
  case body =>
    rintro l pre ⟨⟨x1, x2⟩, p, q⟩ a' W hl ⟨r, hr⟩ ⟨⟨⟨⟨v, hv, hrow, _⟩, hk⟩, h1, h2⟩, hB⟩ ⟨Bx, hBx, bX, rfl⟩ hlt
    have cv := hv.cell
    have ck := hk.cell
    have cx0 := cell_of_row W Bx 0 _ _ _ bX
    have cx1 := cell_of_row W Bx 1 _ _ _ bX
    have cx2 := cell_of_row W Bx 2 _ _ _ bX
    have cx3 := cell_of_row W Bx 3 _ _ _ bX
    simp at cx0 cx1 cx2 cx3
    have hkl := kept_len (fun x y => x && !y) pre
    have hWs := hB.size
    have HRow := Lib.hid hrow
    have hsn := kept_snoc (fun x y => x && !y) pre ((x1, x2), p, q)
    dsimp only at hsn
    clear hrow bX
    by_cases hf : (fun x y => x && !y) p q = true
    · rw [if_pos hf] at hsn
      have hst : (kept (fun x y => x && !y) (pre ++ [((x1, x2), p, q)])).foldl jn [] = jn ((kept (fun x y => x && !y) pre).foldl jn []) (x1, x2) := by rw [hsn, List.foldl_append]; rfl
      have HST := Lib.hid hst
      clear hst hsn
      dsimp only at hf
      have hlen2 : ((kept (fun x y => x && !y) pre).foldl jn []).length ≤ 90000 := by omega
      gi_wp2_with (first
        | (refine ⟨trivial, ?_⟩; gi_at_call 60; refine (CallsIn.inRound l (callsIn_wide.2 (minus_cl _ _ _))).mono ?_; rintro e w' ⟨rfl, hw⟩; have hw2 := hw.symm; subst hw2; clear hw)
        | (refine ⟨trivial, ?_⟩; gi_at_call 54; refine (CallsIn.inRound l (callsIn_wide.2 (join_any w.heap.size v ((kept (fun x y => x && !y) pre).foldl jn []) hlen2 x1 x2 _ HRow.out (by omega)))).mono ?_; rintro e w2 ⟨v', rfl, hown2, hg2⟩; obtain ⟨A2, c2, rfl, _, _, _⟩ := rs_own hown2; have hv1 := hv.kept hg2 (hv.not_row (by decide) HRow.out); have cv1 := hv1.cell; have fv1 := hv1.frozen; have HO2 := Lib.hid hown2; have HG2 := Lib.hid hg2; clear hown2 hg2))
      have hbel : Below w.heap.size W (w2.setCell ⟨w.heap.size + 1, 0, none⟩ (.slice A2 (jn ((kept (fun x y => x && !y) pre).foldl jn []) (x1, x2)).length c2)) := (below_grownk (B := w.heap.size) (a := W) (Below.refl _ _) HRow.out HG2.out (Nat.le_refl _) hWs).setCell (p := ⟨w.heap.size + 1, 0, none⟩) (by simp) _
      have k1 := (h1.kept HG2.out (h1.not_row (by decide) HRow.out)).other (show w.heap.size + 1 + 1 ≠ w.heap.size + 1 by omega) (.slice A2 (jn ((kept (fun x y => x && !y) pre).foldl jn []) (x1, x2)).length c2)
      have k2 := (h2.kept HG2.out (h2.not_row (by decide) HRow.out)).other (show w.heap.size + 1 + 1 + 1 ≠ w.heap.size + 1 by omega) (.slice A2 (jn ((kept (fun x y => x && !y) pre).foldl jn []) (x1, x2)).length c2)
      have kk := (hk.kept HG2.out (hk.not_row (by decide) HRow.out)).other (show w.heap.size ≠ w.heap.size + 1 by omega) (.slice A2 (jn ((kept (fun x y => x && !y) pre).foldl jn []) (x1, x2)).length c2)
      refine ⟨(KeepsOthers.trans (keeps_row HRow.out HG2.out) (KeepsOthers.setCell _ _ _)).from _, ⟨hbel, fun _ => Eq.trans k1 (Eq.symm h1), fun _ => Eq.trans k2 (Eq.symm h2)⟩, ⟨⟨⟨⟨_, hv1.set _, ?_, trivial⟩, kk⟩, k1, k2⟩, hB.trans hbel⟩⟩
      rw [HST.out]
      exact HO2.out.kept (grownBy_setCell' w2 (w.heap.size + 1) _) (.inr (hv1.not_row (by decide) HO2.out).symm)
    · rw [if_neg hf, List.append_nil] at hsn
      have HST := Lib.hid hsn
      have hf2 : (fun x y => x && !y) p q = false := by simpa using hf
      dsimp only at hf2
      clear hsn hf
      gi_wp2_with (refine ⟨trivial, ?_⟩; gi_at_call 60; refine (CallsIn.inRound l (callsIn_wide.2 (minus_cl _ _ _))).mono ?_; rintro e w' ⟨rfl, hw⟩; have hw2 := hw.symm; subst hw2; clear hw)
      refine ⟨KeepsFrom.refl _ _, KpP.refl _ _ _ _, ⟨⟨⟨⟨_, hv, ?_, trivial⟩, hk⟩, h1, h2⟩, hB⟩⟩
      rw [HST.out]
      exact HRow.out
  case done =>
    rintro D ys W hD rfl ⟨⟨⟨⟨v, hv, hrow, _⟩, hk⟩, h1, h2⟩, hB⟩ hK
    have cv := hv.cell
    gi_wp2
    refine ⟨by simp, .inl ⟨_, _, rfl, run_takeDeferred hK, ?_⟩⟩
    exact ⟨_, results_tmp rfl _ _ _, ⟨v, rfl, ownsRow_putObj hrow _ hK rfl⟩, hB.trans (belowK_b (w := w) (Nat.le_refl _) W D _ _ (by omega) hK rfl rfl)⟩
  case stop =>
    rintro D c pre W _ _ h _
    exact h.elim
end Go.Proofs.Ytkjpficpkpfkdaa
