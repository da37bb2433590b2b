/- slices.SortedFunc of counters, ranked: of some counters at least. -/
import Derived.Test.YtnpjakgdfjaglaaGp
namespace Go.Proofs.Ytnpjakgdfjaglaa
open Go.ChangeShapes Go.WideShapes Go.ChangeAt Go.RowKit Go.Joins Go.Shelf

theorem values_any (A : Option Addr) (m c : Nat) (w : World) :
    Calls Try.prog 56 #[.slice A m c] w fun e w' => e = .returned (.func (.func 65) #[] #[.pointer (some ⟨w.heap.size, 0, none⟩)]) ∧ w' = w.alloc (.cells #[.slice A m c] 22) :=
  (callsIn_wide (n := 5)).1 (values_in Fence.wide 5 trivial rfl A m c w)
/-- Counters by decreasing counts, and by increasing keys. -/
def Rkd (D L : List Ct) : Prop := D.Perm L ∧ D.Pairwise fun x y => rkl y x = false
set_option maxRecDepth 100000 in
set_option maxHeartbeats 1000000 in
theorem sortedc_any (Bs : Nat) (A : Option Addr) (c : Nat) (L : List Ct) (hl : L.length ≤ 1000000) (h0 : 0 < L.length) (w : World) (hb : Bs < w.heap.size) (hBs : w.cell? ⟨Bs, 0, none⟩ = some (.slice A L.length c)) (hR : CR w A L) :
    Calls Try.prog 55 #[.func (.func 65) #[] #[.pointer (some ⟨Bs, 0, none⟩)], .func (.func 57) #[] #[]] w fun e W' => (∃ g cap D, e = .returned (.slice (some ⟨g, 0, none⟩) L.length cap) ∧ L.length ≤ cap ∧ Rkd D L ∧ Rs W' W'.heap.size (some ⟨g, 0, none⟩) (ctCells D)) ∧ Below w.heap.size w W' := by
  have HC := Lib.hid (collect_any Bs A c L hl w hb hBs hR)
  have hw0 : 0 ≤ w.heap.size := Nat.zero_le _
  clear hBs hR
  go_enter Try.func55, Try.ntmps55
  go_wp2_with fail
  refine HC.out.mono ?_
  rintro e w1 ⟨v, rfl, h1, h2⟩
  obtain ⟨g, cap, rfl⟩ := ownsRow_form h1 h0
  have hgl := (h1.lt g rfl).1
  obtain ⟨A', c', e', hcap, _, _⟩ := rs_own h1
  injection e' with e1 e2 e3
  subst e3
  have HS := Lib.hid (sortc_any w.heap.size g cap L hl w1 h1)
  have HB1 := Lib.hid h2
  clear h1 h2 e1 e2
  go_wp2_with fail
  refine HS.out.mono ?_
  rintro e w2 ⟨rfl, D, hp, hs, hr, hg⟩
  have HB2 := Lib.hid (below_turn HB1.out hg hgl (Nat.le_refl _))
  have HR2 := Lib.hid hr
  clear hr hg
  go_wp2_with fail
  go_ret
  exact ⟨⟨g, cap, D, rfl, hcap, ⟨hp, hs⟩, HR2.out⟩, HB2.out⟩
set_option maxRecDepth 100000 in
set_option maxHeartbeats 1000000 in
theorem ranked_any (A : Option Addr) (c : Nat) (L : List Ct) (hl : L.length ≤ 1000000) (h0 : 0 < L.length) (w : World) (hR : CR w A L) :
    Calls Try.prog 49 #[.slice A L.length c] w fun e W' => (∃ g cap D, e = .returned (.slice (some ⟨g, 0, none⟩) L.length cap) ∧ L.length ≤ cap ∧ Rkd D L ∧ Rs W' W'.heap.size (some ⟨g, 0, none⟩) (ctCells D)) ∧ Below w.heap.size w W' := by
  have hBa : Below w.heap.size w (w.alloc (.cells #[.slice A L.length c] 22)) := (Below.refl _ _).alloc (Nat.le_refl _) _
  have HV := Lib.hid (values_any A L.length c w)
  have HS := Lib.hid (sortedc_any w.heap.size A c L hl h0 (w.alloc (.cells #[.slice A L.length c] 22)) (by simp) (cell_of_row _ _ 0 _ _ _ (Deep.blk_alloc_new w _)) (hR.below hBa))
  have HB := Lib.hid hBa
  clear hBa hR
  go_enter Try.func49, Try.ntmps49
  go_wp2_with fail
  refine HV.out.mono ?_
  rintro e w1 ⟨rfl, rfl⟩
  go_wp2_with fail
  refine HS.out.mono ?_
  rintro e w2 ⟨⟨g, cap, D, rfl, h1, h2, h3⟩, hb⟩
  have HB2 := Lib.hid (HB.out.trans (hb.mono HB.out.size))
  have HR2 := Lib.hid h3
  clear hb h3
  go_wp2_with fail
  go_ret
  exact ⟨⟨g, cap, D, rfl, h1, h2, HR2.out⟩, HB2.out⟩
end Go.Proofs.Ytnpjakgdfjaglaa
