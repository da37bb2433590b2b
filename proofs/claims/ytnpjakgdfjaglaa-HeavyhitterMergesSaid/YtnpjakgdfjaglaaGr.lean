/- slices.Concat of two slices of counters. -/
import Derived.Test.YtnpjakgdfjaglaaGq
namespace Go.Proofs.Ytnpjakgdfjaglaa
open Go.ChangeShapes Go.WideShapes Go.ChangeAt Go.RowKit Go.Joins

set_option maxRecDepth 100000 in
set_option maxHeartbeats 1000000 in
theorem concat_any (g : Nat) (v1 v2 : Value) (L1 L2 : List Ct) (hl1 : L1.length ≤ 200000) (hl2 : L2.length ≤ 200000) (T : TypeId) (w : World) (hg : w.heap[g]? = some (.cells #[v1, v2] T (0, 0))) (h1 : SlV w v1 L1) (h2 : SlV w v2 L2) :
    Calls Try.prog 48 #[.slice (some ⟨g, 0, none⟩) 2 2] w fun e w' => (∃ v, e = .returned v ∧ w'.ownsRow w.heap.size 27 2 v (L1.length + L2.length) (ctCells (L1 ++ L2))) ∧ Below w.heap.size w w' := by
  obtain ⟨A1, c1, rfl, k1, n1, R1⟩ := h1
  obtain ⟨A2, c2, rfl, k2, n2, R2⟩ := h2
  have a0 := cell_of_row w g 0 _ _ _ hg
  have a1 := cell_of_row w g 1 _ _ _ hg
  simp at a0 a1
  have HG := Lib.hid hg
  have hgl : g < w.heap.size := (Array.getElem?_eq_some_iff.1 hg).1
  have HR1 := Lib.hid R1
  have HR2 := Lib.hid R2
  have HN1 := Lib.hid n1
  have HN2 := Lib.hid n2
  have HA : Hid (∀ l1 l2, L1.length = l1 → L2.length = l2 → ∀ (W : World) v, W.ownsRow w.heap.size 27 2 v (l1 + l2) (ctCells ([] ++ L1 ++ L2)) → W.ownsRow w.heap.size 27 2 v (L1.length + L2.length) (ctCells (L1 ++ L2))) := Lib.hid (fun l1 l2 e1 e2 W v h => by rw [e1, e2]; exact h)
  obtain ⟨l1, e1⟩ : ∃ l1, L1.length = l1 := ⟨_, rfl⟩
  obtain ⟨l2, e2⟩ : ∃ l2, L2.length = l2 := ⟨_, rfl⟩
  obtain ⟨ls, es⟩ : ∃ ls, l1 + l2 = ls := ⟨_, rfl⟩
  have hgr := grow_any ls (by omega) w
  rw [e1] at hl1 k1 a0
  rw [e2] at hl2 k2 a1
  rw [e1, e2]
  rw [e1, e2] at HA
  have HA := HA.out _ _ rfl rfl
  rw [← es, Int.natCast_add] at hgr
  have E1 := Lib.hid e1
  have E2 := Lib.hid e2
  have HGr := Lib.hid hgr
  clear R1 R2 n1 n2 hg e1 e2 es hgr
  go_enter Try.func48, Try.ntmps48
  go_wp2_with fail
  refine wp_loop_rounds 3 ?_
  rw [rounds_succ]
  go_wp2_with fail
  rw [rounds_succ]
  go_wp2_with fail
  rw [rounds_succ]
  go_wp2_with fail
  refine HGr.out.mono ?_
  rintro e w1 ⟨⟨v, rfl, hown⟩, hB1⟩
  have HB1 := Lib.hid hB1
  have HO1 : Hid (w1.ownsRow w.heap.size 27 2 v 0 (ctCells [])) := Lib.hid hown
  have HP : Hid (∀ (W : World), Below w.heap.size w W → W.heap[g]? = some (.cells #[.slice A1 l1 c1, .slice A2 l2 c2] T (0, 0))) := Lib.hid (fun W hb => (hb.block g hgl).trans (by rw [← E1.out, ← E2.out]; exact HG.out))
  have d0 := cell_of_row w1 g 0 _ _ _ (HP.out _ hB1)
  have d1 := cell_of_row w1 g 1 _ _ _ (HP.out _ hB1)
  simp at d0 d1
  clear hown hB1 a0 a1
  go_wp2_with fail
  refine wp_loop_rounds 3 ?_
  rw [rounds_succ]
  go_wp2_with (at_builtin; refine wpList_append_ct rfl (.tmp 31) (.tmp 32) rfl w.heap.size v 0 [] rfl HO1.out A1 l1 c1 rfl L1 E1.out HN1.out (by omega) (HR1.out.below HB1.out) (by omega) HB1.out.size ?_; intro v2 w2 hown hg)
  have HB2 := Lib.hid (below_grownk (B := w.heap.size) (a := w) HB1.out HO1.out hg (Nat.le_refl _) (Nat.le_refl _))
  have HO2 := Lib.hid hown
  clear hown hg d0 d1
  have d0 := cell_of_row w2 g 0 _ _ _ (HP.out _ HB2.out)
  have d1 := cell_of_row w2 g 1 _ _ _ (HP.out _ HB2.out)
  simp at d0 d1
  go_wp2_with fail
  rw [rounds_succ]
  go_wp2_with (at_builtin; refine wpList_append_ct rfl (.tmp 31) (.tmp 32) rfl w.heap.size v2 (0 + l1) ([] ++ L1) rfl HO2.out A2 l2 c2 rfl L2 E2.out HN2.out (by omega) (HR2.out.below HB2.out) (by omega) HB2.out.size ?_; intro v3 w3 hown hg)
  have HB3 := Lib.hid (below_grownk (B := w.heap.size) (a := w) HB2.out HO2.out hg (Nat.le_refl _) (Nat.le_refl _))
  have HO3 := Lib.hid hown
  clear hown hg d0 d1
  go_wp2_with fail
  rw [rounds_succ]
  go_wp2_with fail
  go_ret
  exact ⟨⟨_, rfl, HA _ _ (by have h := HO3.out; rw [Nat.zero_add] at h; exact h)⟩, HB3.out⟩
end Go.Proofs.Ytnpjakgdfjaglaa
