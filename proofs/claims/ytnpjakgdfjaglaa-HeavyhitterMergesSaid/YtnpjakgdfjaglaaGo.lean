/- slices.AppendSeq(nil, slices.Values(L)), Collect. -/
import Derived.Test.YtnpjakgdfjaglaaGn
import Derived.RangeFuncCalls
import Derived.RangeFuncNested
import Derived.RangeFuncFrom
namespace Go.Proofs.Ytnpjakgdfjaglaa
open Go.ChangeShapes Go.WideShapes Go.ChangeAt Go.RowKit Go.Joins Go.Shelf

attribute [local go_sem] Oper.semAt_some
theorem blk_stays {β : Type} (B : Nat) (o : Obj) (hno : o.isCells = true) : Own (fun (_ : β) W => W.heap[B]? = some o) := fun _ W W' row hs hg hr =>
  (hg.block B (Array.getElem?_eq_some_iff.1 hs).1 (fun e => by
    obtain ⟨o', h1, h2⟩ := hr B e.symm
    have h3 : some o = some o' := hs.symm.trans h1
    injection h3 with h3
    subst h3
    exact absurd h2 (by simp [hno]))).trans hs
/-- append of one counter, fenced. -/
theorem wpListIn_append_ct {F : Fence} {n : Nat} {w : World} {ops : Array Oper} {rest : List Oper} {o : Oper} {a : Act} {Q : Exit → Act → World → Prop} (hg : o.guard = none) (s x : Operand)
    (ho : o.op = .call { callee := .builtin .append, args := #[s, x], argTypes := #[22, 22] })
    (base : Nat) (v : Value) (L : List Ct) (hs : a.eval s = v) (hown : w.ownsRow base 27 2 v L.length (ctCells L))
    (g c : Nat) (k : ByteArray) (m : Int) (T : TypeId) (hx : a.eval x = .slice (some ⟨g, 0, none⟩) 1 c) (hblk : w.heap[g]? = some (.cells #[.string k, .int .i64 m] T (0, 0)))
    (hn : L.length ≤ 1000000) (hbase : base ≤ w.heap.size)
    (h : ∀ A' c' w', w'.ownsRow base 27 2 (.slice A' (L.length + 1) c') (L ++ [(k, m)]).length (ctCells (L ++ [(k, m)])) → w.grownBy w' v.ownBlock → wpListIn F n Try.prog ops Q rest (a.put o.dst (.slice A' (L.length + 1) c')) w') : wpListIn F n Try.prog ops Q (o :: rest) a w := by
  obtain ⟨i0, hi0, hz0, hz1, hz2⟩ := info_parts2 ct_info
  refine wpListIn_append_own w hg s x 22 ho base 27 i0 _ 2 24 Try.underlying22 hi0 hz0 hz1 hz2 rfl (by decide) v L.length (ctCells L) hs hown ⟨g, 0, none⟩ 1 c [.string k, .int .i64 m] hx rfl (fun j y hy => ?_) (by simp [Value.oneCell']) (by unfold maxLen; omega) (by omega) hbase (fun v' w' h2 h3 _ => ?_)
  · rw [add_flat, Nat.zero_add, cell_of_row w g j _ _ _ hblk]
    simpa using hy
  · obtain ⟨A', c', rfl, _, _, _⟩ := rs_own h2
    refine h A' c' w' ?_ h3
    rw [ct_snoc, List.length_append]
    exact h2
set_option maxRecDepth 100000 in
set_option maxHeartbeats 4000000 in
theorem append_in (Bs : Nat) (A : Option Addr) (c : Nat) (L : List Ct) (hl : L.length ≤ 1000000) (w : World) (hb : Bs < w.heap.size) (hBs : w.cell? ⟨Bs, 0, none⟩ = some (.slice A L.length c)) (hR : CR w A L) :
    Calls Try.prog 71 #[.slice none 0 0, .func (.func 65) #[] #[.pointer (some ⟨Bs, 0, none⟩)]] w fun e W' => ∃ v, e = .returned v ∧ W'.ownsRow w.heap.size 27 2 v L.length (ctCells L) ∧ Below w.heap.size w W' := by
  refine (callsIn_wide (n := 6)).1 ?_
  refine callsIn_of_wp_marks Try.func71 rfl trivial ?_ rfl
  simp only [Try.ntmps71, List.size_toArray, List.length_cons, List.length_nil, Nat.reduceAdd, Nat.reduceSub, Array.replicate_succ, Array.replicate_zero, List.push_toArray, List.append_toArray, List.nil_append, List.cons_append]
  gi_wp2
  have bS := Boxed.new w 22 (.slice none 0 0)
  have hB0 : Below w.heap.size w (w.alloc (.cells #[.slice none 0 0] 22)) := (Below.refl _ w).alloc (Nat.le_refl _) _
  have hsz : (w.alloc (.cells #[.slice none 0 0] 22)).heap.size = w.heap.size + 1 := by simp
  obtain ⟨W0, hW0⟩ : ∃ W0, w.alloc (.cells #[.slice none 0 0] 22) = W0 := ⟨_, rfl⟩
  rw [hW0] at bS hB0 hsz ⊢
  clear hW0
  have hseq : SeqStopsK Fence.wide (6 - 1) Try.prog 65 #[.pointer (some ⟨Bs, 0, none⟩)] (fun x : Ct => #[ctV x]) (Below w.heap.size) (fun ys => ys = L) (fun pre => pre <+: L) L.length W0 := fun l J Jx W hW hJa _ hY h0 =>
    values1_in Fence.wide 5 trivial rfl (by omega) l Bs w.heap.size A c L hl J Jx W hJa (by have := hW.size; omega) hY
      (((hB0.trans (hW.mono (by omega))).cell (p := ⟨Bs, 0, none⟩) hb).trans hBs) w rfl hR (hB0.trans (hW.mono (by omega))) h0
  refine wpIn_rangeFunc_ownH rfl (by omega) (gf := 65) (lb := #[.pointer (some ⟨Bs, 0, none⟩)]) rfl trivial (enters_of Try.func65 (by kernel_rfl) rfl)
    hseq belowK_t (belowK_b (by omega)) (Below.refl _ _) (fun _ => rfl)
    (fun pre W => (∃ v, Boxed W w.heap.size 22 v ∧ W.ownsRow w.heap.size 27 2 v pre.length (ctCells pre) ∧ True) ∧ Below w.heap.size w W)
    (fun _ _ _ => False)
    (OwnFrom.and (Own.from (holdsRow_own w.heap.size w.heap.size 22 27 2 (fun pre : List Ct => pre.length) (fun pre => ctCells pre) (fun _ _ => True)) _) (ownFrom_below (Nat.le_refl _) (by omega)))
    (fun _ _ _ _ _ hs _ _ => hs)
    ⟨⟨_, bS, own_nilc _ _, trivial⟩, hB0⟩
    (fun x a' W => ∃ Bx, w.heap.size < Bx ∧ W.heap[Bx]? = some (.cells #[.string x.1, .int .i64 x.2] 27 (0, 0)) ∧ a' = { tmps := #[.slice none 0 0, .func (.func 65) #[] #[.pointer (some ⟨Bs, 0, none⟩)], .pointer (some ⟨w.heap.size, 0, none⟩), undef, .slice none 0 0, .pointer (some ⟨Bx, 0, none⟩), .func (.func 65) #[] #[.pointer (some ⟨Bs, 0, none⟩)], .agg #[.string x.1, .int .i64 x.2], undef, undef, undef, undef, undef], defers := [] })
    (fun x a' _ X Y row hs hg hr => by obtain ⟨Bx, h1, h2, h3⟩ := hs; exact ⟨Bx, h1, blk_stays (β := Unit) Bx _ rfl () X Y row h2 hg (fun r e => (hr r e).2), h3⟩)
    ?assign ?body ?done ?stop
  case assign =>
    rintro l pre ⟨x1, x2⟩ W K ⟨⟨v, hv, hrow, _⟩, hB⟩ hK
    gi_wp2
    exact hK _ _ ((KeepsOthers.alloc _ _).from _) ((Below.refl _ W).alloc hB.size _) ⟨⟨v, hv.alloc _, hrow.alloc _, trivial⟩, hB.alloc hB.size _⟩ ⟨W.heap.size, hv.lt, Deep.blk_alloc_new W _, rfl⟩
  case body =>
    rintro l pre ⟨x1, x2⟩ a' W hl2 ⟨r, hr⟩ ⟨⟨v, hv, hrow, _⟩, hB⟩ ⟨Bx, hBx, bX, rfl⟩ hlt
    have cv := hv.cell
    have cx0 := cell_of_row W Bx 0 _ _ _ bX
    have cx1 := cell_of_row W Bx 1 _ _ _ bX
    simp at cx0 cx1
    have hWs := hB.size
    have HRow := Lib.hid hrow
    clear hrow bX
    dsimp only
    gi_wp2_with (gi_at_builtin; refine wpListIn_append_ct rfl _ _ rfl w.heap.size v pre rfl (HRow.out.alloc _) W.heap.size 1 x1 x2 27 rfl (Deep.blk_alloc_new W _) (by omega) (by simp; omega) ?_; intro A2 c2 w2 hown2 hg2; obtain ⟨hv1, hv2, hr2, hk2, hb2⟩ := hv.appended (by decide) HRow.out hWs (Nat.le_refl _) hown2 hg2; have hc1 := hv1.cell; have hf1 := hv1.frozen; have hl1 := hv1.lt; have HX := Lib.hid (And.intro hv2 (And.intro hr2 (And.intro hk2 hb2))); clear hown2 hg2 hv2 hr2 hk2 hb2)
    exact ⟨HX.out.2.2.1.from _, HX.out.2.2.2, ⟨_, HX.out.1, HX.out.2.1, trivial⟩, hB.trans HX.out.2.2.2⟩
  case done =>
    rintro D ys W hD rfl ⟨⟨v, hv, hrow, _⟩, hB⟩ hK
    have cv := hv.cell
    gi_wp2
    refine ⟨by simp, .inl ⟨_, _, rfl, run_takeDeferred hK, ?_⟩⟩
    exact ⟨_, results_tmp rfl _ _ _, v, rfl, ownsRow_putObj hrow _ hK rfl, hB.trans (belowK_b (w := w) (Nat.le_refl _) W D _ _ (by omega) hK rfl rfl)⟩
  case stop =>
    rintro D c pre W _ _ h _
    exact h.elim
end Go.Proofs.Ytnpjakgdfjaglaa
