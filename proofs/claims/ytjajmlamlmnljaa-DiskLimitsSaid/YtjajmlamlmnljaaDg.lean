/- put. -/
import Derived.Test.YtjajmlamlmnljaaDf
import Derived.Test.YtjajmlamlmnljaaIl
namespace Go.Proofs.Ytjajmlamlmnljaa
open Go.ChangeShapes Go.WideShapes Go.ChangeAt Go.RowKit Go.Joins Go.Maps Go.ChangeMaps Go.MapKept

theorem pw_pt {β : Type} {R : Ct β → Ct β → Prop} {L : List (Ct β)} (hS : Sd L) (h : L.Pairwise R) (k : ByteArray) (v : β) (h1 : ∀ x ∈ L, x.1 ≠ k → R x (k, v) ∧ R (k, v) x) : (pt L k v).Pairwise R := by
  induction L with
  | nil => exact List.pairwise_singleton _ _
  | cons p L ih =>
    obtain ⟨s1, s2⟩ := List.pairwise_cons.1 hS
    obtain ⟨a1, a2⟩ := List.pairwise_cons.1 h
    have ih' := ih s2 a2 fun x hx => h1 x (List.mem_cons_of_mem _ hx)
    rw [pt]
    by_cases e : p.1 = k
    · rw [if_pos e]
      refine List.pairwise_cons.2 ⟨fun q hq => (h1 q (List.mem_cons_of_mem _ hq) fun e' => ?_).2, a2⟩
      have := s1 q hq
      rw [e, ← e', bl_irrefl] at this; cases this
    · rw [if_neg e]
      by_cases hb : bl p.1 k = true
      · rw [if_pos hb]
        refine List.pairwise_cons.2 ⟨fun q hq => ?_, ih'⟩
        rcases mem_pt hq with rfl | hq
        · exact (h1 p List.mem_cons_self e).1
        · exact a1 q hq.1
      · rw [if_neg hb]
        refine List.pairwise_cons.2 ⟨fun q hq => (h1 q hq fun e' => ?_).2, h⟩
        rcases List.mem_cons.1 hq with rfl | hq
        · exact e e'
        · have := s1 q hq
          rw [e'] at this
          exact hb this
theorem Rp.cells {w : World} {B g : Nat} {f : Fl} (h : Rp w B f) (e : f.1.A = some g) : ∃ cs m, w.heap[g]? = some (.cells cs 5 m) := by
  obtain ⟨⟨h1, h2⟩, h3, _⟩ := h
  rcases h2 with ⟨e1, _⟩ | ⟨g', cap, cur, e1, h4, h5, _⟩
  · unfold Rw.sl at e1; rw [e] at e1; injection e1 with e1; cases e1
  · unfold Rw.sl at e1
    rw [e] at e1
    injection e1 with e1 _ _
    injection e1 with e1
    injection e1 with e1
    subst e1
    exact ⟨_, _, h5⟩
theorem Rp.below {w w' : World} {B : Nat} {f : Fl} (h : Rp w B f) (hb : Below w.heap.size w w') : Rp w' B f := h.keep fun g hg => hb.block g (h.lt hg).2
/-- A row stays as it is where a map's block or a disk's turns. -/
theorem Rp.apart {w w' : World} {B b : Nat} {f : Fl} {L : List (Ct Rw)} (h : Rp w B f) (hm : Hm w b L) (hg : w.grownBy w' (some b)) : Rp w' B f := h.keep fun g e => hg.block g (h.lt e).2 (fun e' => by
  injection e' with e'
  obtain ⟨cs, m, h1⟩ := h.cells e
  obtain ⟨es, c, h2⟩ := hm.block
  rw [e', h2] at h1
  cases h1)
theorem Dk.set {w w' : World} {B p : Nat} {S : Ds} (h : Dk w B p S) {b : Nat} (hb : B ≤ b) {k : ByteArray} {r : Rw} {bs : List UInt8} (hH : Hm w' b (pt (mv Prod.fst S.fs) k r))
    (hp : w'.heap[p]? = some (.cells (Ds.row ⟨S.cap, S.dn, S.lim, S.lft, some b, pt S.fs k (r, bs)⟩) 65 (0, 0))) (hrows : ∀ x ∈ S.fs, x.1 ≠ k → Rp w' B x.2) (hr : Rp w' B (r, bs))
    (hap : ∀ x ∈ S.fs, x.1 ≠ k → ∀ g, x.2.1.A = some g → r.A ≠ some g) : Dk w' B p ⟨S.cap, S.dn, S.lim, S.lft, some b, pt S.fs k (r, bs)⟩ := by
  refine ⟨hp, h.lo, (fun e => nomatch e), fun b' e => ?_, sd_pt h.sd _ _, fun x hx => ?_, pw_pt h.sd h.apart k (r, bs) fun x hx e => ⟨hap x hx e, fun g hg e' => hap x hx e g e' hg⟩⟩
  · injection e with e
    subst e
    exact ⟨hb, by rw [pt_mv]; exact hH⟩
  · rcases mem_pt2 h.sd hx with rfl | ⟨hx, hne⟩
    · exact hr
    · exact hrows x hx hne
theorem step_set {w : World} {ops : Array Oper} {o : Oper} {a : Act} {K : Act → World → Prop} {Q : Exit → Act → World → Prop} {E : Prop} (hg : o.guard = none) (m x y : Operand) (hop : o.op = Op.mapUpdate 63 m x y) (b : Nat) (L : List (Ct Rw)) (hm : a.eval m = .map (some b)) (h : Hm w b L) (hl : L.length ≤ 1000000) (k : ByteArray) (hk : k.size ≤ 1000000) (hx : a.eval x = .string k)
    (r : Rw) (hy : a.eval y = r.val) (hK : ∀ w', Hm w' b (pt L k r) → w.grownBy w' (some b) → K (a.put o.dst undef) w') :
    if Region.wanted o (yielded ops a.tmps) = true then Oper.wp Try.prog o a w K Q else E := by
  have hw : Region.wanted o (yielded ops a.tmps) = true := by simp [Region.wanted, hg]
  rw [if_pos hw]
  obtain ⟨D, ho, ht, hS⟩ := h
  obtain ⟨w', hrun, r1, r2⟩ := ho.store kLaw Try.underlying63 (by unfold maxLen; omega) (WideMaps.keyOf_string_mk (k := 9) (s := k) Try.underlying9 (by unfold maxLen; omega)) (fileE_mk r)
  have ht' := tl_put ht hS k r
  unfold Oper.wp
  simp [execOp, hop, hm, hx, hy, hrun, Result.andThen]
  exact hK w' ⟨_, owns_tight r1 ht', ht', sd_pt hS k r⟩ r2.grown
theorem drew_grown {w w' : World} {row : Option Nat} (h : w.drew.grownBy w' row) : w.grownBy w' row := ⟨h.os, h.tape, h.output, h.size, h.block⟩
theorem eq_map (b : Nat) (w : World) : (binOp BinOp.eql 63 (.map (some b)) (.map none)).run Try.prog w = .ok (.bool false) w := by kernel_rfl
theorem eq_none (w : World) : (binOp BinOp.eql 63 (.map none) (.map none)).run Try.prog w = .ok (.bool true) w := by kernel_rfl
set_option maxRecDepth 100000 in
set_option maxHeartbeats 2000000 in
theorem put_any (B p : Nat) (S : Ds) (k : ByteArray) (hk : k.size ≤ 1000000) (r : Rw) (bs : List UInt8) (hl : S.fs.length ≤ 100000) (w : World) (hB : B ≤ w.heap.size) (hD : Dk w B p S) (hr : Rp w B (r, bs)) (hap : ∀ x ∈ S.fs, x.1 ≠ k → ∀ g, x.2.1.A = some g → r.A ≠ some g) :
    Calls Try.prog 42 #[.pointer (some ⟨p, 0, none⟩), .string k, r.val] w fun e w' => e = .returned (.tuple #[]) ∧ (∃ b, (S.mp = some b ∨ S.mp = none ∧ w.heap.size ≤ b) ∧ Dk w' B p ⟨S.cap, S.dn, S.lim, S.lft, some b, pt S.fs k (r, bs)⟩) ∧ Tn (fun i => i = p ∨ S.mp = some i) w w' := by
  obtain ⟨W1, hW1⟩ : ∃ W1, W1 = w.alloc (.cells #[r.sl, .int .i64 r.s, .bool r.d] 69) := ⟨_, rfl⟩
  have hb1 : Below w.heap.size w W1 := by rw [hW1]; exact (Below.refl _ _).alloc (Nat.le_refl _) _
  have hD1 := hD.below hb1
  have hz1 : W1.heap.size = w.heap.size + 1 := by rw [hW1]; simp
  have hf1 : W1.heap[w.heap.size]? = some (.cells #[r.sl, .int .i64 r.s, .bool r.d] 69 (0, 0)) := by rw [hW1]; exact Deep.blk_alloc_new _ _
  have hp := hD.lt
  have HR1 := Lib.hid (hr.below hb1)
  have c1 := cell_of_row _ _ 1 _ _ _ hD1.blk
  have f1 := frz hD1.blk 1
  simp [Ds.row] at c1
  have HD := Lib.hid hD
  have HD1 := Lib.hid hD1
  have HF1 := Lib.hid hf1
  have HB1 := Lib.hid hb1
  have HAp := Lib.hid hap
  have HW := Lib.hid hW1
  have HV : Hid (r.val = .agg #[r.sl, .int .i64 r.s, .bool r.d]) := Lib.hid rfl
  have hor : S.mp = none ∨ ∃ b, S.mp = some b := by cases S.mp <;> simp
  rcases hor with hmp | ⟨b, hmp⟩
  rotate_left 1
  · skip
    rw [hmp] at c1
    have hH := (hD1.map b hmp).2
    have hBb := (hD1.map b hmp).1
    have hHl : (mv Prod.fst S.fs).length ≤ 1000000 := by simp [mv]; omega
    have HH := Lib.hid hH
    have g0 := cell_of_row _ _ 0 _ _ _ hf1
    have g1 := cell_of_row _ _ 1 _ _ _ hf1
    have g2 := cell_of_row _ _ 2 _ _ _ hf1
    simp at g0 g1 g2
    have HM : Hid (S.mp = some b) := Lib.hid hmp
    rw [HV.out]
    clear hD hr hap hb1 hD1 hf1 hH hW1 hmp HV
    go_enter Try.func42, Try.ntmps42
    have c1r := c1
    have g0r := g0
    have g1r := g1
    have g2r := g2
    rw [HW.out] at c1r g0r g1r g2r
    have q1 := eq_map b
    go_wp2_with fail
    rw [← HW.out]
    clear c1r g0r g1r g2r q1
    refine wp_region_last 6 (fun W => W.cell? ⟨p, 1, none⟩ = some (.map (some b)) ∧ W.cell? ⟨w.heap.size, 0, none⟩ = some r.sl ∧ W.cell? ⟨w.heap.size, 1, none⟩ = some (.int .i64 (r.s : Int)) ∧ W.cell? ⟨w.heap.size, 2, none⟩ = some (.bool r.d)) (by kernel_rfl) (by decide +kernel) (by rfl) ⟨c1, g0, g1, g2⟩ (fun hHeld => ?_)
    simp only [List.take_succ_cons, List.take_zero]
    refine wpAnyH_take (i := 0) (v := ?_) rfl (by decide +kernel) (by decide +kernel) (by decide +kernel) (fun _ _ _ h => h) (Or.inl ⟨by rfl, ?_⟩) (by assumption) ?_
    rotate_left 1
    · (intro w' hSw; (try dsimp only at hSw); go_simp; (try (with_reducible rfl)))
    try simp only [List.getElem_toArray, List.getElem_cons_zero, Act.put, List.setIfInBounds_toArray, List.set_cons_zero, List.set_cons_succ]
    refine wpAnyH_take (i := 1) (v := ?_) rfl (by decide +kernel) (by decide +kernel) (by decide +kernel) (fun _ _ _ h => h) (Or.inl ⟨by rfl, ?_⟩) (by assumption) ?_
    rotate_left 1
    · (intro w' hSw; (try dsimp only at hSw); go_simp; (try (with_reducible rfl)))
    try simp only [List.getElem_toArray, List.getElem_cons_zero, List.getElem_cons_succ, Act.put, List.setIfInBounds_toArray, List.set_cons_zero, List.set_cons_succ]
    refine wpAnyH_take (i := 2) (v := ?_) rfl (by decide +kernel) (by decide +kernel) (by decide +kernel) (fun _ _ _ h => h) (Or.inl ⟨by rfl, ?_⟩) (by assumption) ?_
    rotate_left 1
    · (intro w' hSw; (try dsimp only at hSw); go_simp; (try (with_reducible rfl)))
    try simp only [List.getElem_toArray, List.getElem_cons_zero, List.getElem_cons_succ, Act.put, List.setIfInBounds_toArray, List.set_cons_zero, List.set_cons_succ]
    refine wpAnyH_take (i := 3) (v := ?_) rfl (by decide +kernel) (by decide +kernel) (by decide +kernel) (fun _ _ _ h => h) (Or.inl ⟨by rfl, ?_⟩) (by assumption) ?_
    rotate_left 1
    · (intro w' hSw; (try dsimp only at hSw); go_simp; (try (with_reducible rfl)))
    try simp only [List.getElem_toArray, List.getElem_cons_zero, List.getElem_cons_succ, Act.put, List.setIfInBounds_toArray, List.set_cons_zero, List.set_cons_succ]
    refine wpAnyH_take (i := 4) (v := ?_) rfl (by decide +kernel) (by decide +kernel) (by decide +kernel) (fun _ _ _ h => h) (Or.inl ⟨by rfl, ?_⟩) (by assumption) ?_
    rotate_left 1
    · (intro w' hSw; (try dsimp only at hSw); go_simp; (try (with_reducible rfl)))
    try simp only [List.getElem_toArray, List.getElem_cons_zero, List.getElem_cons_succ, Act.put, List.setIfInBounds_toArray, List.set_cons_zero, List.set_cons_succ]
    refine wpAnyH_take (i := 5) (v := ?_) rfl (by decide +kernel) (by decide +kernel) (by decide +kernel) (fun _ _ _ h => h) (Or.inl ⟨by rfl, ?_⟩) (by assumption) ?_
    rotate_left 1
    · (intro w' hSw; (try dsimp only at hSw); go_simp; (try (with_reducible rfl)))
    try simp only [List.getElem_toArray, List.getElem_cons_zero, List.getElem_cons_succ, Act.put, List.setIfInBounds_toArray, List.set_cons_zero, List.set_cons_succ]
    refine wpAnyH_done (by decide +kernel) ?_ _
    intro K hK
    refine step_set rfl (.tmp 18) (.tmp 19) (.tmp 20) rfl b (mv Prod.fst S.fs) rfl HH.out hHl k hk rfl r rfl ?_
    intro w2 hm2 hg2
    have HM2 := Lib.hid hm2
    have HG2 := Lib.hid hg2
    clear hm2 hg2
    refine hK.out _ _ ?_
    clear hK K
    try simp only [Act.put]

    all_goals
      refine bodyPost_end (results_none rfl _ _ _) rfl ?_
      have hg : W1.grownBy w2 (some b) := drew_grown HG2.out
      refine ⟨rfl, ⟨b, .inl HM.out, HD1.out.set hBb HM2.out ?_ (fun x hx _ => ((HD1.out.rows x hx).apart HH.out hg)) (HR1.out.apart HH.out hg) (fun x hx e => HAp.out x hx e)⟩, (Tn.of HB1.out).trans (Tn.grown (F := fun i => i = p ∨ S.mp = some i) hg (fun i e => .inr (by rw [HM.out]; exact e))) (fun i h => .inl h)⟩
      have hne : p ≠ b := fun e => by
        obtain ⟨es, c, h2⟩ := HH.out.block
        rw [← e, HD1.out.blk] at h2
        cases h2
      rw [hg.block p (by omega) (fun e => by injection e with e; exact hne e), HD1.out.blk]
      show some (Obj.cells (Ds.row S) _ _) = some (Obj.cells #[_, .map (some b), _, _, _] _ _)
      unfold Ds.row
      rw [HM.out]
  · rw [hmp] at c1
    have hnil := hD.non hmp
    have HM : Hid (S.mp = none) := Lib.hid hmp
    obtain ⟨b, hbe⟩ : ∃ b, b = w.heap.size + 1 := ⟨_, rfl⟩
    obtain ⟨V1, hV1⟩ : ∃ V1, V1 = w.setCell ⟨p, 1, none⟩ (.map (some b)) := ⟨_, rfl⟩
    have hd1 := tn_cell (j := 1) hD.blk (.map (some b))
    rw [← hV1] at hd1
    have hs1 : V1.heap.size = w.heap.size := by rw [hV1]; simp
    obtain ⟨V2, hV2⟩ : ∃ V2, V2 = V1.alloc (.cells #[r.sl, .int .i64 r.s, .bool r.d] 69) := ⟨_, rfl⟩
    have hb2 : Below V1.heap.size V1 V2 := by rw [hV2]; exact (Below.refl _ _).alloc (Nat.le_refl _) _
    have hs2 : V2.heap.size = w.heap.size + 1 := by rw [hV2]; simp [hs1]
    obtain ⟨W3, hW3⟩ : ∃ W3, W3 = V2.alloc (.map #[] 0) := ⟨_, rfl⟩
    have hb3 : Below V2.heap.size V2 W3 := by rw [hW3]; exact (Below.refl _ _).alloc (Nat.le_refl _) _
    have hpb : p < b := by omega
    have hH3 : Hm W3 b (mv Prod.fst S.fs) := by
      have := Hm.made V2
      rw [← hW3, hs2, ← hbe] at this
      rw [hnil]; exact this
    have hT1 : Tn (fun i => i = p ∨ S.mp = some i) w V1 := ⟨hd1.2.os, hd1.2.tape, hd1.2.output, hd1.2.size, fun i hi hF => hd1.2.block i hi (fun e => hF (.inl e))⟩
    have hT3 : Tn (fun i => i = p ∨ S.mp = some i) w W3 := (hT1.trans (Tn.of hb2) (fun i h => .inl h)).trans (Tn.of hb3) (fun i h => .inl h)
    have hf3 : W3.heap[w.heap.size]? = some (.cells #[r.sl, .int .i64 r.s, .bool r.d] 69 (0, 0)) := (hb3.block _ (by omega)).trans (by
      have := Deep.blk_alloc_new V1 (.cells #[r.sl, .int .i64 r.s, .bool r.d] 69)
      rw [← hV2, hs1] at this; exact this)
    have hR3 : Rp W3 B (r, bs) := hr.keep fun g hg => by
      have hgl := (hr.lt hg).2
      have hne : g ≠ p := fun e => by
        obtain ⟨cs, m, h⟩ := hr.cells hg
        rw [e, hD.blk] at h
        injection h with h
        injection h with _ h _
        exact absurd h (by decide)
      exact (hb3.block g (by omega)).trans ((hb2.block g (by omega)).trans (hd1.2.block g hgl hne))
    have hd3 : W3.heap[p]? = some (.cells (S.row.setIfInBounds 1 (.map (some b))) 65 (0, 0)) ∧ True := ⟨(hb3.block p (by omega)).trans ((hb2.block p (by omega)).trans hd1.1), trivial⟩
    have f2 := frz hD.blk 1
    have k1 := cell_of_row _ _ 1 _ _ _ hD.blk
    simp [Ds.row] at k1
    rw [hmp] at k1
    have m1 := cell_of_row _ _ 1 _ _ _ hd3.1
    simp [Ds.row] at m1
    have g0 := cell_of_row _ _ 0 _ _ _ hf3
    have g1 := cell_of_row _ _ 1 _ _ _ hf3
    have g2 := cell_of_row _ _ 2 _ _ _ hf3
    simp at g0 g1 g2
    have HH := Lib.hid hH3
    have HR3 := Lib.hid hR3
    have HT3 := Lib.hid hT3
    have HD3 := Lib.hid hd3.1
    have hnf : S.fs = [] := hnil
    have HNil' := hnf
    have HBb : Hid (B ≤ b ∧ w.heap.size ≤ b) := Lib.hid (by omega)
    have HBe := Lib.hid hbe
    have HW3 : Hid (W3 = ((w.setCell ⟨p, 1, none⟩ (.map (some (w.heap.size + 1)))).alloc (.cells #[r.sl, .int .i64 r.s, .bool r.d] 69)).alloc (.map #[] 0)) := Lib.hid (by rw [hW3, hV2, hV1, hbe])
    have c1r := c1
    rw [HW.out] at c1r
    clear hV1 hV2 hd1 hs1 hs2 hb3 hT1
    have q1 := eq_none
    have q2 := @run_makeMap Try.prog
    rw [HV.out]
    clear hD hr hap hb1 hD1 hf1 hW1 hmp HV hnil hb2 hW3 hd3 hH3 hf3 hR3 hT3 c1 f1 hbe
    go_enter Try.func42, Try.ntmps42
    go_wp2_with fail
    rw [← HW3.out, ← HBe.out]
    clear c1r k1 f2 q1 q2
    have hHl : (mv Prod.fst S.fs).length ≤ 1000000 := by simp [mv]; omega
    refine wp_region_last 6 (fun W => W.cell? ⟨p, 1, none⟩ = some (.map (some b)) ∧ W.cell? ⟨w.heap.size, 0, none⟩ = some r.sl ∧ W.cell? ⟨w.heap.size, 1, none⟩ = some (.int .i64 (r.s : Int)) ∧ W.cell? ⟨w.heap.size, 2, none⟩ = some (.bool r.d)) (by kernel_rfl) (by decide +kernel) (by rfl) ⟨m1, g0, g1, g2⟩ (fun hHeld => ?_)
    simp only [List.take_succ_cons, List.take_zero]
    refine wpAnyH_take (i := 0) (v := ?_) rfl (by decide +kernel) (by decide +kernel) (by decide +kernel) (fun _ _ _ h => h) (Or.inl ⟨by rfl, ?_⟩) (by assumption) ?_
    rotate_left 1
    · (intro w' hSw; (try dsimp only at hSw); go_simp; (try (with_reducible rfl)))
    try simp only [List.getElem_toArray, List.getElem_cons_zero, Act.put, List.setIfInBounds_toArray, List.set_cons_zero, List.set_cons_succ]
    refine wpAnyH_take (i := 1) (v := ?_) rfl (by decide +kernel) (by decide +kernel) (by decide +kernel) (fun _ _ _ h => h) (Or.inl ⟨by rfl, ?_⟩) (by assumption) ?_
    rotate_left 1
    · (intro w' hSw; (try dsimp only at hSw); go_simp; (try (with_reducible rfl)))
    try simp only [List.getElem_toArray, List.getElem_cons_zero, List.getElem_cons_succ, Act.put, List.setIfInBounds_toArray, List.set_cons_zero, List.set_cons_succ]
    refine wpAnyH_take (i := 2) (v := ?_) rfl (by decide +kernel) (by decide +kernel) (by decide +kernel) (fun _ _ _ h => h) (Or.inl ⟨by rfl, ?_⟩) (by assumption) ?_
    rotate_left 1
    · (intro w' hSw; (try dsimp only at hSw); go_simp; (try (with_reducible rfl)))
    try simp only [List.getElem_toArray, List.getElem_cons_zero, List.getElem_cons_succ, Act.put, List.setIfInBounds_toArray, List.set_cons_zero, List.set_cons_succ]
    refine wpAnyH_take (i := 3) (v := ?_) rfl (by decide +kernel) (by decide +kernel) (by decide +kernel) (fun _ _ _ h => h) (Or.inl ⟨by rfl, ?_⟩) (by assumption) ?_
    rotate_left 1
    · (intro w' hSw; (try dsimp only at hSw); go_simp; (try (with_reducible rfl)))
    try simp only [List.getElem_toArray, List.getElem_cons_zero, List.getElem_cons_succ, Act.put, List.setIfInBounds_toArray, List.set_cons_zero, List.set_cons_succ]
    refine wpAnyH_take (i := 4) (v := ?_) rfl (by decide +kernel) (by decide +kernel) (by decide +kernel) (fun _ _ _ h => h) (Or.inl ⟨by rfl, ?_⟩) (by assumption) ?_
    rotate_left 1
    · (intro w' hSw; (try dsimp only at hSw); go_simp; (try (with_reducible rfl)))
    try simp only [List.getElem_toArray, List.getElem_cons_zero, List.getElem_cons_succ, Act.put, List.setIfInBounds_toArray, List.set_cons_zero, List.set_cons_succ]
    refine wpAnyH_take (i := 5) (v := ?_) rfl (by decide +kernel) (by decide +kernel) (by decide +kernel) (fun _ _ _ h => h) (Or.inl ⟨by rfl, ?_⟩) (by assumption) ?_
    rotate_left 1
    · (intro w' hSw; (try dsimp only at hSw); go_simp; (try (with_reducible rfl)))
    try simp only [List.getElem_toArray, List.getElem_cons_zero, List.getElem_cons_succ, Act.put, List.setIfInBounds_toArray, List.set_cons_zero, List.set_cons_succ]
    refine wpAnyH_done (by decide +kernel) ?_ _
    intro K hK
    refine step_set rfl (.tmp 18) (.tmp 19) (.tmp 20) rfl b (mv Prod.fst S.fs) rfl HH.out hHl k hk rfl r rfl ?_
    intro w2 hm2 hg2
    have HM2 := Lib.hid hm2
    have HG2 := Lib.hid hg2
    clear hm2 hg2
    refine hK.out _ _ ?_
    clear hK K
    try simp only [Act.put]

    all_goals
      refine bodyPost_end (results_none rfl _ _ _) rfl ?_
      have hg : W3.grownBy w2 (some b) := drew_grown HG2.out
      have hD' : Dk w B p S := HD.out
      refine ⟨rfl, ⟨b, .inr ⟨HM.out, HBb.out.2⟩, hD'.set HBb.out.1 HM2.out ?_ (fun x hx _ => absurd hx (by rw [HNil']; simp)) (HR3.out.apart HH.out hg) (fun x hx e => HAp.out x hx e)⟩, HT3.out.trans (Tn.grown (F := fun i => i = b) hg (fun i e => by injection e with e; exact e.symm)) (fun i h => .inr (by rw [h]; exact HBb.out.2))⟩
      have hpw := HD.out.lt
      rw [hg.block p (by have := HT3.out.size; omega) (fun e => by injection e with e; omega), HD3.out]
      rfl
end Go.Proofs.Ytjajmlamlmnljaa
