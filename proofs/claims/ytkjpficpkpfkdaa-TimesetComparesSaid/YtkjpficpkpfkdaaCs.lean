/- Covers, Overlaps (written by wip/bin/gen_cs.py). -/
import Derived.Test.YtkjpficpkpfkdaaUn
namespace Go.Proofs.Ytkjpficpkpfkdaa
open Go.ChangeShapes Go.WideShapes Go.ChangeAt Go.RowKit Ts Go.Shelf

attribute [local go_sem] Oper.semAt_some
theorem results_flag {P : Program} {fn : Func} {p : Tmp} {ty : TypeId} (h : fn.results = #[.cell p ty]) (tmps : Array Value) (w : World) (g : Nat) (x : Bool) (hty : P.underlying ty = some .bool)
    (hp : tmps.getD p undef = .pointer (some ⟨g, 0, none⟩)) (hg : w.cell? ⟨g, 0, none⟩ = some (.bool x)) :
    (results fn tmps).run P w = .ok (.bool x) w := by
  have hp' : tmps[p]?.getD undef = .pointer (some ⟨g, 0, none⟩) := by simpa using hp
  have ha : ∀ w, (isAgg ty).run P w = .ok false w := run_isAgg_plain hty rfl
  simp [results, h, hp', asAddr, loadVar, ha, hg, go_sem]
theorem cell_putObj {W : World} {g D : Nat} {t : TypeId} {v : Value} (h : Boxed W g t v) (hne : g ≠ D) (o : Obj) : (W.putObj D o).cell? ⟨g, 0, none⟩ = some v := by
  have h2 : Boxed (W.putObj D o) g t v := (World.putObj_heap_other hne).trans h
  exact h2.cell
theorem any_snoc {α : Type} (f : α → Bool) (X : List α) (x : α) : (X ++ [x]).any f = (X.any f || f x) := by simp
theorem any_pre {α : Type} (f : α → Bool) {X Y : List α} (h : X <+: Y) (hx : X.any f = true) : Y.any f = true := by
  obtain ⟨Z, rfl⟩ := h
  rw [List.any_append, hx]; rfl
def coversP (x : Pc) : Bool := x.2.2 && !x.2.1
set_option maxRecDepth 100000 in
set_option maxHeartbeats 4000000 in
theorem covers_any (A : Option Addr) (c : Nat) (a : List Iv) (ha : a.length ≤ 10000) (B : Option Addr) (d : Nat) (b : List Iv) (hb : b.length ≤ 10000) (va : ∀ v ∈ fl a, v < 9223372036854775807) (vb : ∀ v ∈ fl b, v < 9223372036854775807) (w : World) (hRa : Rs w w.heap.size A (ivCells a)) (hRb : Rs w w.heap.size B (ivCells b)) :
    Calls Try.prog 27 #[.slice A a.length c, .slice B b.length d] w fun e w' => e = .returned (.bool (if (allPcs a b).any coversP = true then false else true)) ∧ Below w.heap.size w w' := by
  have HRa := Lib.hid hRa
  have HRb := Lib.hid hRb
  have Hva := Lib.hid va
  have Hvb := Lib.hid vb
  obtain ⟨V, hV⟩ : ∃ V, V = (if (allPcs a b).any coversP = true then false else true) := ⟨_, rfl⟩
  rw [← hV]
  have HV := Lib.hid hV
  clear hRa hRb va vb hV
  refine (callsIn_wide (n := 6)).1 ?_
  refine callsIn_of_wp_marks Try.func27 rfl trivial ?_ rfl
  simp only [Try.ntmps27, List.size_toArray, List.length_cons, List.length_nil, Nat.reduceAdd, Nat.reduceSub, Array.replicate_succ, Array.replicate_zero, List.push_toArray, List.append_toArray, List.nil_append, List.cons_append]
  gi_wp2_with (refine ⟨trivial, ?_⟩; gi_at_call 62; refine (callsIn_wide.2 (pieces_mk _ _ _ _ _ _ _)).mono ?_; rintro e w' ⟨rfl, rfl⟩)
  have bR := ((Boxed.new w 4 (.bool false)).alloc (.cells #[.slice A a.length c] 22)).alloc (.cells #[.slice B b.length d] 22)
  have bA := (Boxed.new (w.alloc (.cells #[.bool false] 4)) 22 (.slice A a.length c)).alloc (.cells #[.slice B b.length d] 22)
  have bB := Boxed.new ((w.alloc (.cells #[.bool false] 4)).alloc (.cells #[.slice A a.length c] 22)) 22 (.slice B b.length d)
  have hB0 : Below w.heap.size w (((w.alloc (.cells #[.bool false] 4)).alloc (.cells #[.slice A a.length c] 22)).alloc (.cells #[.slice B b.length d] 22)) := (((Below.refl _ w).alloc (Nat.le_refl _) _).alloc (by simp) _).alloc (by simp; omega) _
  simp only [World.size_alloc] at bA bB
  have hsz : (((w.alloc (.cells #[.bool false] 4)).alloc (.cells #[.slice A a.length c] 22)).alloc (.cells #[.slice B b.length d] 22)).heap.size = w.heap.size + 3 := by simp
  obtain ⟨W0, hW0⟩ : ∃ W0, ((w.alloc (.cells #[.bool false] 4)).alloc (.cells #[.slice A a.length c] 22)).alloc (.cells #[.slice B b.length d] 22) = W0 := ⟨_, rfl⟩
  rw [hW0] at bR bA bB hB0 hsz ⊢
  clear hW0
  have hseq : SeqStopsK Fence.wide (6 - 1) Try.prog 73 #[.pointer (some ⟨w.heap.size + 1, 0, none⟩), .pointer (some ⟨w.heap.size + 1 + 1, 0, none⟩)] pcV (KpP w.heap.size (w.heap.size + 1) (w.heap.size + 1 + 1)) (fun ys => ys = allPcs a b) (fun pre => pre <+: allPcs a b) (allPcs a b).length W0 := fun l J Jx W hW hJa _ hY h0 =>
    pieces1_in 5 (by omega) l _ _ w.heap.size A c a (by omega) B d b (by omega) Hva.out Hvb.out (allPcs a b) rfl J Jx hY W hJa ⟨by have := hW.size; omega, (hW.cell (p := ⟨w.heap.size + 1, 0, none⟩) bA.lt).trans bA.cell⟩ ⟨by have := hW.size; omega, (hW.cell (p := ⟨w.heap.size + 1 + 1, 0, none⟩) bB.lt).trans bB.cell⟩
      (HRa.out.below (hB0.trans (hW.mono (by omega)))) (HRb.out.below (hB0.trans (hW.mono (by omega)))) h0 (by have := hW.size; omega)
  refine wpIn_rangeFunc_ownH rfl (by omega) (gf := 73) (lb := #[.pointer (some ⟨w.heap.size + 1, 0, none⟩), .pointer (some ⟨w.heap.size + 1 + 1, 0, none⟩)]) rfl trivial (enters_of Try.func73 (by kernel_rfl) rfl)
    hseq KpP.trans (KpP.putObj (by omega) (by omega) (by omega)) (Below.refl _ _) (fun _ => rfl)
    (fun pre W => ((pre.any coversP = false ∧ Boxed W w.heap.size 4 (.bool false)) ∧ (Boxed W (w.heap.size + 1) 22 (.slice A a.length c) ∧ Boxed W (w.heap.size + 1 + 1) 22 (.slice B b.length d))) ∧ Below w.heap.size w W)
    (fun k pre W => ((k = Code.ret ∧ pre.any coversP = true) ∧ Boxed W w.heap.size 4 (.bool false)) ∧ Below w.heap.size w W)
    (OwnFrom.and (OwnFrom.and (OwnFrom.and (ownFrom_pure _ (fun pre : List Pc => pre.any coversP = false)) (Own.from (boxed_own _ _ _) _)) (OwnFrom.and (Own.from (boxed_own _ _ _) _) (Own.from (boxed_own _ _ _) _))) (ownFrom_below (Nat.le_refl _) (by omega)))
    (fun k => OwnFrom.and (OwnFrom.and (ownFrom_pure _ (fun pre : List Pc => k = Code.ret ∧ pre.any coversP = true)) (Own.from (boxed_own _ _ _) _)) (ownFrom_below (Nat.le_refl _) (by omega)))
    ⟨⟨⟨rfl, bR⟩, bA, bB⟩, hB0⟩
    (fun x a' W => ∃ Bx, w.heap.size + 2 < Bx ∧ W.heap[Bx]? = some (.cells #[.int .i64 x.1.1, .int .i64 x.1.2, .bool x.2.1, .bool x.2.2] 74 (0, 0)) ∧ a' = { tmps := #[.slice A a.length c, .slice B b.length d, undef, undef, .pointer (some ⟨w.heap.size, 0, none⟩), .pointer (some ⟨Bx, 0, none⟩), .slice A a.length c, .slice B b.length d, .func (.func 73) #[] #[.pointer (some ⟨w.heap.size + 1, 0, none⟩), .pointer (some ⟨w.heap.size + 1 + 1, 0, none⟩)], .agg #[.int .i64 x.1.1, .int .i64 x.1.2, .bool x.2.1, .bool x.2.2], undef, undef, undef, undef, undef, undef, undef], defers := [] })
    (fun x a' _ X Y row hs hg hr => by obtain ⟨Bx, h1, h2, h3⟩ := hs; exact ⟨Bx, h1, blk_own (β := Unit) Bx _ _ () X Y row h2 hg (fun r e => (hr r e).2), h3⟩)
    ?assign ?body ?done ?stop
  case assign =>
    rintro l pre ⟨⟨x1, x2⟩, p, q⟩ W K ⟨⟨⟨hn, hr⟩, h1, h2⟩, hB⟩ hK
    dsimp only [pcV]
    gi_wp2
    exact hK _ _ ((KeepsOthers.alloc _ _).from _) (KpP.of_below ((Below.refl _ W).alloc (Nat.le_refl _) _) hB.size) ⟨⟨⟨hn, hr.alloc _⟩, h1.alloc _, h2.alloc _⟩, hB.alloc hB.size _⟩ ⟨W.heap.size, by have := h2.lt; omega, Deep.blk_alloc_new W _, rfl⟩
  case body =>
    rintro l pre ⟨⟨x1, x2⟩, p, q⟩ a' W hl ⟨r, hr⟩ ⟨⟨⟨hn, hR⟩, h1, h2⟩, hB⟩ ⟨Bx, hBx, bX, rfl⟩ hlt
    have cR := hR.cell
    have fR := hR.frozen
    have cx0 := cell_of_row W Bx 0 _ _ _ bX
    have cx1 := cell_of_row W Bx 1 _ _ _ bX
    have cx2 := cell_of_row W Bx 2 _ _ _ bX
    have cx3 := cell_of_row W Bx 3 _ _ _ bX
    simp at cx0 cx1 cx2 cx3
    have hWs := hB.size
    have hsn := any_snoc coversP pre ((x1, x2), p, q)
    rw [hn, Bool.false_or] at hsn
    have HSN := Lib.hid hsn
    clear bX hsn
    cases p <;> cases q
    · gi_wp2_with fail
      exact ⟨KeepsFrom.refl _ _, KpP.refl _ _ _ _, ⟨⟨⟨HSN.out, hR⟩, h1, h2⟩, hB⟩⟩
    · gi_wp2_with fail
      have hbel : Below w.heap.size W (W.setCell ⟨w.heap.size, 0, none⟩ (.bool false)) := (Below.refl _ _).setCell (p := ⟨w.heap.size, 0, none⟩) (by simp) _
      exact ⟨(KeepsOthers.setCell _ _ _).from _, ⟨⟨rfl, HSN.out⟩, hR.set _⟩, hB.trans hbel⟩
    · gi_wp2_with fail
      exact ⟨KeepsFrom.refl _ _, KpP.refl _ _ _ _, ⟨⟨⟨HSN.out, hR⟩, h1, h2⟩, hB⟩⟩
    · gi_wp2_with fail
      exact ⟨KeepsFrom.refl _ _, KpP.refl _ _ _ _, ⟨⟨⟨HSN.out, hR⟩, h1, h2⟩, hB⟩⟩
  case done =>
    rintro D ys W hD rfl ⟨⟨⟨hn, hR⟩, h1, h2⟩, hB⟩ hK
    have cR := hR.cell
    have fR := hR.frozen
    have hv := HV.out
    rw [hn] at hv
    gi_wp2
    refine ⟨by simp, .inl ⟨_, _, rfl, run_takeDeferred (by first | exact hK | exact (heap_setCell_other _ _ _ _ (by show D ≠ w.heap.size; omega)).trans hK), ?_⟩⟩
    refine ⟨_, results_flag rfl _ _ w.heap.size true Try.underlying4 rfl (cell_putObj (hR.set _) (by omega) _), by first | rfl | (rw [hv]; rfl), ?_⟩
    exact hB.trans (((Below.refl _ _).setCell (p := ⟨w.heap.size, 0, none⟩) (by simp) _).trans (belowK_b (w := w) (Nat.le_refl _) (W.setCell ⟨w.heap.size, 0, none⟩ (.bool true)) D _ _ (by omega) ((heap_setCell_other _ _ _ _ (by show D ≠ w.heap.size; omega)).trans hK) rfl rfl))
  case stop =>
    rintro D k pre W hD hSp ⟨⟨⟨rfl, hn⟩, hR⟩, hB⟩ hK
    have cR := hR.cell
    have hv := HV.out
    rw [any_pre coversP hSp hn] at hv
    gi_wp2
    refine ⟨by simp, .inl ⟨_, _, rfl, run_takeDeferred hK, ?_⟩⟩
    refine ⟨_, results_flag rfl _ _ w.heap.size false Try.underlying4 rfl (cell_putObj hR (by omega) _), by first | rfl | (rw [hv]; rfl), ?_⟩
    exact hB.trans (belowK_b (w := w) (Nat.le_refl _) W D _ _ (by omega) hK rfl rfl)
def overlapsP (x : Pc) : Bool := x.2.1 && x.2.2
set_option maxRecDepth 100000 in
set_option maxHeartbeats 4000000 in
theorem overlaps_any (A : Option Addr) (c : Nat) (a : List Iv) (ha : a.length ≤ 10000) (B : Option Addr) (d : Nat) (b : List Iv) (hb : b.length ≤ 10000) (va : ∀ v ∈ fl a, v < 9223372036854775807) (vb : ∀ v ∈ fl b, v < 9223372036854775807) (w : World) (hRa : Rs w w.heap.size A (ivCells a)) (hRb : Rs w w.heap.size B (ivCells b)) :
    Calls Try.prog 28 #[.slice A a.length c, .slice B b.length d] w fun e w' => e = .returned (.bool (if (allPcs a b).any overlapsP = true then true else false)) ∧ Below w.heap.size w w' := by
  have HRa := Lib.hid hRa
  have HRb := Lib.hid hRb
  have Hva := Lib.hid va
  have Hvb := Lib.hid vb
  obtain ⟨V, hV⟩ : ∃ V, V = (if (allPcs a b).any overlapsP = true then true else false) := ⟨_, rfl⟩
  rw [← hV]
  have HV := Lib.hid hV
  clear hRa hRb va vb hV
  refine (callsIn_wide (n := 6)).1 ?_
  refine callsIn_of_wp_marks Try.func28 rfl trivial ?_ rfl
  simp only [Try.ntmps28, List.size_toArray, List.length_cons, List.length_nil, Nat.reduceAdd, Nat.reduceSub, Array.replicate_succ, Array.replicate_zero, List.push_toArray, List.append_toArray, List.nil_append, List.cons_append]
  gi_wp2_with (refine ⟨trivial, ?_⟩; gi_at_call 62; refine (callsIn_wide.2 (pieces_mk _ _ _ _ _ _ _)).mono ?_; rintro e w' ⟨rfl, rfl⟩)
  have bR := ((Boxed.new w 4 (.bool false)).alloc (.cells #[.slice A a.length c] 22)).alloc (.cells #[.slice B b.length d] 22)
  have bA := (Boxed.new (w.alloc (.cells #[.bool false] 4)) 22 (.slice A a.length c)).alloc (.cells #[.slice B b.length d] 22)
  have bB := Boxed.new ((w.alloc (.cells #[.bool false] 4)).alloc (.cells #[.slice A a.length c] 22)) 22 (.slice B b.length d)
  have hB0 : Below w.heap.size w (((w.alloc (.cells #[.bool false] 4)).alloc (.cells #[.slice A a.length c] 22)).alloc (.cells #[.slice B b.length d] 22)) := (((Below.refl _ w).alloc (Nat.le_refl _) _).alloc (by simp) _).alloc (by simp; omega) _
  simp only [World.size_alloc] at bA bB
  have hsz : (((w.alloc (.cells #[.bool false] 4)).alloc (.cells #[.slice A a.length c] 22)).alloc (.cells #[.slice B b.length d] 22)).heap.size = w.heap.size + 3 := by simp
  obtain ⟨W0, hW0⟩ : ∃ W0, ((w.alloc (.cells #[.bool false] 4)).alloc (.cells #[.slice A a.length c] 22)).alloc (.cells #[.slice B b.length d] 22) = W0 := ⟨_, rfl⟩
  rw [hW0] at bR bA bB hB0 hsz ⊢
  clear hW0
  have hseq : SeqStopsK Fence.wide (6 - 1) Try.prog 73 #[.pointer (some ⟨w.heap.size + 1, 0, none⟩), .pointer (some ⟨w.heap.size + 1 + 1, 0, none⟩)] pcV (KpP w.heap.size (w.heap.size + 1) (w.heap.size + 1 + 1)) (fun ys => ys = allPcs a b) (fun pre => pre <+: allPcs a b) (allPcs a b).length W0 := fun l J Jx W hW hJa _ hY h0 =>
    pieces1_in 5 (by omega) l _ _ w.heap.size A c a (by omega) B d b (by omega) Hva.out Hvb.out (allPcs a b) rfl J Jx hY W hJa ⟨by have := hW.size; omega, (hW.cell (p := ⟨w.heap.size + 1, 0, none⟩) bA.lt).trans bA.cell⟩ ⟨by have := hW.size; omega, (hW.cell (p := ⟨w.heap.size + 1 + 1, 0, none⟩) bB.lt).trans bB.cell⟩
      (HRa.out.below (hB0.trans (hW.mono (by omega)))) (HRb.out.below (hB0.trans (hW.mono (by omega)))) h0 (by have := hW.size; omega)
  refine wpIn_rangeFunc_ownH rfl (by omega) (gf := 73) (lb := #[.pointer (some ⟨w.heap.size + 1, 0, none⟩), .pointer (some ⟨w.heap.size + 1 + 1, 0, none⟩)]) rfl trivial (enters_of Try.func73 (by kernel_rfl) rfl)
    hseq KpP.trans (KpP.putObj (by omega) (by omega) (by omega)) (Below.refl _ _) (fun _ => rfl)
    (fun pre W => ((pre.any overlapsP = false ∧ Boxed W w.heap.size 4 (.bool false)) ∧ (Boxed W (w.heap.size + 1) 22 (.slice A a.length c) ∧ Boxed W (w.heap.size + 1 + 1) 22 (.slice B b.length d))) ∧ Below w.heap.size w W)
    (fun k pre W => ((k = Code.ret ∧ pre.any overlapsP = true) ∧ Boxed W w.heap.size 4 (.bool true)) ∧ Below w.heap.size w W)
    (OwnFrom.and (OwnFrom.and (OwnFrom.and (ownFrom_pure _ (fun pre : List Pc => pre.any overlapsP = false)) (Own.from (boxed_own _ _ _) _)) (OwnFrom.and (Own.from (boxed_own _ _ _) _) (Own.from (boxed_own _ _ _) _))) (ownFrom_below (Nat.le_refl _) (by omega)))
    (fun k => OwnFrom.and (OwnFrom.and (ownFrom_pure _ (fun pre : List Pc => k = Code.ret ∧ pre.any overlapsP = true)) (Own.from (boxed_own _ _ _) _)) (ownFrom_below (Nat.le_refl _) (by omega)))
    ⟨⟨⟨rfl, bR⟩, bA, bB⟩, hB0⟩
    (fun x a' W => ∃ Bx, w.heap.size + 2 < Bx ∧ W.heap[Bx]? = some (.cells #[.int .i64 x.1.1, .int .i64 x.1.2, .bool x.2.1, .bool x.2.2] 74 (0, 0)) ∧ a' = { tmps := #[.slice A a.length c, .slice B b.length d, undef, undef, .pointer (some ⟨w.heap.size, 0, none⟩), .pointer (some ⟨Bx, 0, none⟩), .slice A a.length c, .slice B b.length d, .func (.func 73) #[] #[.pointer (some ⟨w.heap.size + 1, 0, none⟩), .pointer (some ⟨w.heap.size + 1 + 1, 0, none⟩)], .agg #[.int .i64 x.1.1, .int .i64 x.1.2, .bool x.2.1, .bool x.2.2], undef, undef, undef, undef, undef, undef], defers := [] })
    (fun x a' _ X Y row hs hg hr => by obtain ⟨Bx, h1, h2, h3⟩ := hs; exact ⟨Bx, h1, blk_own (β := Unit) Bx _ _ () X Y row h2 hg (fun r e => (hr r e).2), h3⟩)
    ?assign ?body ?done ?stop
  case assign =>
    rintro l pre ⟨⟨x1, x2⟩, p, q⟩ W K ⟨⟨⟨hn, hr⟩, h1, h2⟩, hB⟩ hK
    dsimp only [pcV]
    gi_wp2
    exact hK _ _ ((KeepsOthers.alloc _ _).from _) (KpP.of_below ((Below.refl _ W).alloc (Nat.le_refl _) _) hB.size) ⟨⟨⟨hn, hr.alloc _⟩, h1.alloc _, h2.alloc _⟩, hB.alloc hB.size _⟩ ⟨W.heap.size, by have := h2.lt; omega, Deep.blk_alloc_new W _, rfl⟩
  case body =>
    rintro l pre ⟨⟨x1, x2⟩, p, q⟩ a' W hl ⟨r, hr⟩ ⟨⟨⟨hn, hR⟩, h1, h2⟩, hB⟩ ⟨Bx, hBx, bX, rfl⟩ hlt
    have cR := hR.cell
    have fR := hR.frozen
    have cx0 := cell_of_row W Bx 0 _ _ _ bX
    have cx1 := cell_of_row W Bx 1 _ _ _ bX
    have cx2 := cell_of_row W Bx 2 _ _ _ bX
    have cx3 := cell_of_row W Bx 3 _ _ _ bX
    simp at cx0 cx1 cx2 cx3
    have hWs := hB.size
    have hsn := any_snoc overlapsP pre ((x1, x2), p, q)
    rw [hn, Bool.false_or] at hsn
    have HSN := Lib.hid hsn
    clear bX hsn
    cases p <;> cases q
    · gi_wp2_with fail
      exact ⟨KeepsFrom.refl _ _, KpP.refl _ _ _ _, ⟨⟨⟨HSN.out, hR⟩, h1, h2⟩, hB⟩⟩
    · gi_wp2_with fail
      exact ⟨KeepsFrom.refl _ _, KpP.refl _ _ _ _, ⟨⟨⟨HSN.out, hR⟩, h1, h2⟩, hB⟩⟩
    · gi_wp2_with fail
      exact ⟨KeepsFrom.refl _ _, KpP.refl _ _ _ _, ⟨⟨⟨HSN.out, hR⟩, h1, h2⟩, hB⟩⟩
    · gi_wp2_with fail
      have hbel : Below w.heap.size W (W.setCell ⟨w.heap.size, 0, none⟩ (.bool true)) := (Below.refl _ _).setCell (p := ⟨w.heap.size, 0, none⟩) (by simp) _
      exact ⟨(KeepsOthers.setCell _ _ _).from _, ⟨⟨rfl, HSN.out⟩, hR.set _⟩, hB.trans hbel⟩
  case done =>
    rintro D ys W hD rfl ⟨⟨⟨hn, hR⟩, h1, h2⟩, hB⟩ hK
    have cR := hR.cell
    have fR := hR.frozen
    have hv := HV.out
    rw [hn] at hv
    gi_wp2
    refine ⟨by simp, .inl ⟨_, _, rfl, run_takeDeferred (by first | exact hK | exact (heap_setCell_other _ _ _ _ (by show D ≠ w.heap.size; omega)).trans hK), ?_⟩⟩
    refine ⟨_, results_flag rfl _ _ w.heap.size false Try.underlying4 rfl (cell_putObj (hR.set _) (by omega) _), by first | rfl | (rw [hv]; rfl), ?_⟩
    exact hB.trans (((Below.refl _ _).setCell (p := ⟨w.heap.size, 0, none⟩) (by simp) _).trans (belowK_b (w := w) (Nat.le_refl _) (W.setCell ⟨w.heap.size, 0, none⟩ (.bool false)) D _ _ (by omega) ((heap_setCell_other _ _ _ _ (by show D ≠ w.heap.size; omega)).trans hK) rfl rfl))
  case stop =>
    rintro D k pre W hD hSp ⟨⟨⟨rfl, hn⟩, hR⟩, hB⟩ hK
    have cR := hR.cell
    have hv := HV.out
    rw [any_pre overlapsP hSp hn] at hv
    gi_wp2
    refine ⟨by simp, .inl ⟨_, _, rfl, run_takeDeferred hK, ?_⟩⟩
    refine ⟨_, results_flag rfl _ _ w.heap.size true Try.underlying4 rfl (cell_putObj hR (by omega) _), by first | rfl | (rw [hv]; rfl), ?_⟩
    exact hB.trans (belowK_b (w := w) (Nat.le_refl _) W D _ _ (by omega) hK rfl rfl)
end Go.Proofs.Ytkjpficpkpfkdaa
