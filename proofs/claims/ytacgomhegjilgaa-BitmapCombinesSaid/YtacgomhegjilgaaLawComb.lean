/- The statement BitmapCombines: for any two sets, the law returns true and changes nothing (written by wip/bin/gen_comb5.py). -/
import Derived.Test.YtacgomhegjilgaaHe
import Derived.Test.YtacgomhegjilgaaGh
import Derived.Test.YtacgomhegjilgaaGi
import Derived.Test.YtacgomhegjilgaaGj
import Derived.Test.YtacgomhegjilgaaHf
namespace Go.Proofs.Ytacgomhegjilgaa.lawCombines
open Go.Proofs.Ytacgomhegjilgaa Go.ChangeShapes Go.WideShapes Go.ChangeAt Go.RowKit Go.Joins Ts

attribute [local go_sem ↓] Go.wp_at_zero Go.wp_at_succ
set_option maxRecDepth 100000 in
set_option maxHeartbeats 64000000 in
theorem walk (w : World) (b0 : Int) (hb0 : 0 ≤ b0 ∧ b0 ≤ 65535) (A0 : Option Addr) (c0 : Nat) (L0 : List Iv) (hL0 : L0.length ≤ 9223372036854775807) (hs0 : ∀ x ∈ L0, PrOk x) (hR0 : Rs w w.heap.size A0 (prCells L0)) (b1 : Int) (hb1 : 0 ≤ b1 ∧ b1 ≤ 65535) (A1 : Option Addr) (c1 : Nat) (L1 : List Iv) (hL1 : L1.length ≤ 9223372036854775807) (hs1 : ∀ x ∈ L1, PrOk x) (hR1 : Rs w w.heap.size A1 (prCells L1)) :
    Calls Try.prog 8 #[.agg #[.int .u16 b0, .slice A0 L0.length c0], .agg #[.int .u16 b1, .slice A1 L1.length c1]] w fun e w' => e = .returned (.bool true) ∧ Below w.heap.size w w' := by
  obtain ⟨hi0, hrw0, hln0⟩ := rowS_spec b0 hs0
  have CM0 := Lib.hid (fun W (g : Gb w W) => made_any b0 hb0 A0 c0 L0 hL0 hs0 W ((hR0.below g.out).more g.out.size))
  have CR0 := Lib.hid (fun W (g : Gb w W) => rows_any b0 hb0 A0 c0 L0 hL0 hs0 W ((hR0.below g.out).more g.out.size))
  obtain ⟨l0, hl0⟩ : ∃ l, l = rowS b0 L0 := ⟨_, rfl⟩
  rw [← hl0] at hi0 hrw0 hln0 CM0 CR0
  have hB0 : Bs 80000 (setL l0) := set_bs (by omega) hrw0
  have hm0 : ∀ n, n ∈ l0 ↔ In n (setL l0) := fun n => ((setL_spec l0).2 n).symm
  obtain ⟨M0, hM0⟩ : ∃ M, M = setL l0 := ⟨_, rfl⟩
  rw [← hM0] at hB0 hm0 CM0
  obtain ⟨R0, hRn0⟩ : ∃ R, R = rn M0 := ⟨_, rfl⟩
  rw [← hRn0] at CM0
  have HRn0 := Lib.hid hRn0
  have HRw0 := Lib.hid hrw0
  have HI0 := Lib.hid hi0
  have HBs0 := Lib.hid hB0
  have HM0 := Lib.hid hm0
  clear hR0 hl0 hM0 hRn0 hs0 hL0 hrw0 hi0 hB0 hm0
  obtain ⟨hi1, hrw1, hln1⟩ := rowS_spec b1 hs1
  have CM1 := Lib.hid (fun W (g : Gb w W) => made_any b1 hb1 A1 c1 L1 hL1 hs1 W ((hR1.below g.out).more g.out.size))
  have CR1 := Lib.hid (fun W (g : Gb w W) => rows_any b1 hb1 A1 c1 L1 hL1 hs1 W ((hR1.below g.out).more g.out.size))
  obtain ⟨l1, hl1⟩ : ∃ l, l = rowS b1 L1 := ⟨_, rfl⟩
  rw [← hl1] at hi1 hrw1 hln1 CM1 CR1
  have hB1 : Bs 80000 (setL l1) := set_bs (by omega) hrw1
  have hm1 : ∀ n, n ∈ l1 ↔ In n (setL l1) := fun n => ((setL_spec l1).2 n).symm
  obtain ⟨M1, hM1⟩ : ∃ M, M = setL l1 := ⟨_, rfl⟩
  rw [← hM1] at hB1 hm1 CM1
  obtain ⟨R1, hRn1⟩ : ∃ R, R = rn M1 := ⟨_, rfl⟩
  rw [← hRn1] at CM1
  have HRn1 := Lib.hid hRn1
  have HRw1 := Lib.hid hrw1
  have HI1 := Lib.hid hi1
  have HBs1 := Lib.hid hB1
  have HM1 := Lib.hid hm1
  clear hR1 hl1 hM1 hRn1 hs1 hL1 hrw1 hi1 hB1 hm1
  go_enter Try.func8, Try.ntmps8
  go_wp2_with fail
  refine (known_any _).mono ?_
  rintro e w1 ⟨rfl, hb⟩
  have F1 : Fr ((w.alloc (.cells #[.int .u16 b0, .slice A0 L0.length c0] 36)).alloc (.cells #[.int .u16 b1, .slice A1 L1.length c1] 36)) w1 := ⟨hb⟩
  have G1 : Gb w w1 := Gb.call (Gb.alloc (Gb.alloc (Gb.refl w) _) _) F1
  have K0 : Bk1 (w.heap.size) (.cells #[.int .u16 b0, .slice A0 L0.length c0] 36 (0, 0)) w1 := Bk1.call (Bk1.old ((Bk1.new (W := w) (by rfl) (fun v => Deep.blk_alloc_new v _) : Bk1 (w.heap.size) (.cells #[.int .u16 b0, .slice A0 L0.length c0] 36 (0, 0)) _)) _) F1
  have hk00 : w1.cell? ⟨w.heap.size, 0, none⟩ = some (.int .u16 b0) := cell_of_row w1 _ 0 _ _ _ K0.out
  have hk01 : w1.cell? ⟨w.heap.size, 1, none⟩ = some (.slice A0 L0.length c0) := cell_of_row w1 _ 1 _ _ _ K0.out
  have K1 : Bk1 (w.heap.size + 1) (.cells #[.int .u16 b1, .slice A1 L1.length c1] 36 (0, 0)) w1 := Bk1.call ((Bk1.new (W := (w.alloc (.cells #[.int .u16 b0, .slice A0 L0.length c0] 36))) (by simp) (fun v => Deep.blk_alloc_new v _) : Bk1 (w.heap.size + 1) (.cells #[.int .u16 b1, .slice A1 L1.length c1] 36 (0, 0)) _)) F1
  have hk10 : w1.cell? ⟨w.heap.size + 1, 0, none⟩ = some (.int .u16 b1) := cell_of_row w1 _ 0 _ _ _ K1.out
  have hk11 : w1.cell? ⟨w.heap.size + 1, 1, none⟩ = some (.slice A1 L1.length c1) := cell_of_row w1 _ 1 _ _ _ K1.out
  have hz1 := F1.size1
  simp at hz1
  clear hb
  have HS : Hid (∀ W, Gb w1 W → W.cell? ⟨w.heap.size, 0, none⟩ = some (.int .u16 b0) ∧ W.cell? ⟨w.heap.size, 1, none⟩ = some (.slice A0 L0.length c0) ∧ W.cell? ⟨w.heap.size + 1, 0, none⟩ = some (.int .u16 b1) ∧ W.cell? ⟨w.heap.size + 1, 1, none⟩ = some (.slice A1 L1.length c1)) := Lib.hid (fun W g => by
    have f0 : W.heap[w.heap.size]? = some (.cells #[.int .u16 b0, .slice A0 L0.length c0] 36 (0, 0)) := (g.out.block _ (Array.getElem?_eq_some_iff.1 K0.out).1).trans K0.out
    have f1 : W.heap[w.heap.size + 1]? = some (.cells #[.int .u16 b1, .slice A1 L1.length c1] 36 (0, 0)) := (g.out.block _ (Array.getElem?_eq_some_iff.1 K1.out).1).trans K1.out
    exact ⟨cell_of_row W _ 0 _ _ _ f0, cell_of_row W _ 1 _ _ _ f0, cell_of_row W _ 0 _ _ _ f1, cell_of_row W _ 1 _ _ _ f1⟩)
  go_upto_region 3 with fail
  go_cut [5, 6, 7, 8] (fun s5 s6 s7 s8 wx => ∃ (X0 : Nat) (P0 : Option Addr) (p0 : Nat) (X1 : Nat) (P1 : Option Addr) (p1 : Nat) (Q0 : Option Addr) (q0 : Nat) (Q1 : Option Addr) (q1 : Nat), s5 = .pointer (some ⟨X0, 0, none⟩) ∧ s6 = .pointer (some ⟨X1, 0, none⟩) ∧ s7 = .slice Q0 l0.length q0 ∧ s8 = .slice Q1 l1.length q1 ∧ Hid (Hold w [(X0, Obj.cells #[.slice P0 R0.length p0] 26 (0, 0)), (X1, Obj.cells #[.slice P1 R1.length p1] 26 (0, 0))] [(.slice P0 R0.length p0, R0), (.slice P1 R1.length p1, R1)] [(Q0, nC l0), (Q1, nC l1)] wx) ∧ Hid (Ow w.heap.size Q0 q0 l0 wx) ∧ Hid (Ow w.heap.size Q1 q1 l1 wx))
  case first =>
    go_region_held3 (fun W => W.cell? ⟨w.heap.size, 0, none⟩ = some (.int .u16 b0) ∧ W.cell? ⟨w.heap.size, 1, none⟩ = some (.slice A0 L0.length c0) ∧ W.cell? ⟨w.heap.size + 1, 0, none⟩ = some (.int .u16 b1) ∧ W.cell? ⟨w.heap.size + 1, 1, none⟩ = some (.slice A1 L1.length c1))
      (exact HS.out _ (by ((repeat (first | (with_reducible assumption) | (with_reducible exact Gb.refl _) | (with_reducible refine Gb.call ?_ (by with_reducible assumption)) | (with_reducible refine Gb.alloc ?_ _) | (with_reducible refine Gb.drew ?_) | (with_reducible refine Gb.setCell ?_ (by omega) _))); (first | done | fail))))
      ((first
        | (go_at_call 24; have := E2; refine (CR1.out _ (by ((repeat (first | (with_reducible assumption) | (with_reducible exact Gb.refl _) | (with_reducible refine Gb.call ?_ (by with_reducible assumption)) | (with_reducible refine Gb.alloc ?_ _) | (with_reducible refine Gb.drew ?_) | (with_reducible refine Gb.setCell ?_ (by omega) _))); (first | done | fail)))).mono ?_; rintro e v3 ⟨⟨y1, rfl, hown⟩, hb3⟩; have E3 : Fr _ v3 := ⟨hb3⟩; obtain ⟨Q1, q1, rfl, _, hro, _⟩ := rs_ownn hown; have U1 : Rt Q1 l1 v3 := ⟨hro⟩; have O1 : Ow w.heap.size Q1 q1 l1 v3 := ⟨own_base hown (le_gb (by ((repeat (first | (with_reducible assumption) | (with_reducible exact Gb.refl _) | (with_reducible refine Gb.call ?_ (by with_reducible assumption)) | (with_reducible refine Gb.alloc ?_ _) | (with_reducible refine Gb.drew ?_) | (with_reducible refine Gb.setCell ?_ (by omega) _))); (first | done | fail))))⟩; have z3 := E3.size1; (try simp at z3); clear hb3 hown hro; (try (have kk : Bk1 (w1.heap.size) (.cells #[.slice none 0 0] 26 (0, 0)) v3 := (by ((repeat (first | (with_reducible assumption) | (with_reducible refine Bk1.call ?_ (by with_reducible assumption)) | (with_reducible refine Bk1.new ?_ (new_bm _); first | rfl | (simp; done)) | (with_reducible refine Bk1.old ?_ _) | (with_reducible refine Bk1.drew ?_) | (with_reducible refine Bk1.same ?_) | (with_reducible refine Bk1.other ?_ (by omega) _))); (first | done | fail))); have cc : v3.cell? ⟨w1.heap.size, 0, none⟩ = some (.slice none 0 0) := cell_of_row _ _ 0 _ _ _ kk.out; have ff : v3.frozen? ⟨w1.heap.size, 0, none⟩ = false := frozen_of_row _ _ _ _ _ kk.out; have ll : w1.heap.size < v3.heap.size := (Array.getElem?_eq_some_iff.1 kk.out).1; clear kk)); (try (have kk : Bk1 (w1.heap.size + 1) (.cells #[.slice none 0 0] 26 (0, 0)) v3 := (by ((repeat (first | (with_reducible assumption) | (with_reducible refine Bk1.call ?_ (by with_reducible assumption)) | (with_reducible refine Bk1.new ?_ (new_bm _); first | rfl | (simp; done)) | (with_reducible refine Bk1.old ?_ _) | (with_reducible refine Bk1.drew ?_) | (with_reducible refine Bk1.same ?_) | (with_reducible refine Bk1.other ?_ (by omega) _))); (first | done | fail))); have cc : v3.cell? ⟨w1.heap.size + 1, 0, none⟩ = some (.slice none 0 0) := cell_of_row _ _ 0 _ _ _ kk.out; have ff : v3.frozen? ⟨w1.heap.size + 1, 0, none⟩ = false := frozen_of_row _ _ _ _ _ kk.out; have ll : w1.heap.size + 1 < v3.heap.size := (Array.getElem?_eq_some_iff.1 kk.out).1; clear kk)); (try (have kk : Bk1 (v0.heap.size) (.cells #[.slice none 0 0] 26 (0, 0)) v3 := (by ((repeat (first | (with_reducible assumption) | (with_reducible refine Bk1.call ?_ (by with_reducible assumption)) | (with_reducible refine Bk1.new ?_ (new_bm _); first | rfl | (simp; done)) | (with_reducible refine Bk1.old ?_ _) | (with_reducible refine Bk1.drew ?_) | (with_reducible refine Bk1.same ?_) | (with_reducible refine Bk1.other ?_ (by omega) _))); (first | done | fail))); have cc : v3.cell? ⟨v0.heap.size, 0, none⟩ = some (.slice none 0 0) := cell_of_row _ _ 0 _ _ _ kk.out; have ff : v3.frozen? ⟨v0.heap.size, 0, none⟩ = false := frozen_of_row _ _ _ _ _ kk.out; have ll : v0.heap.size < v3.heap.size := (Array.getElem?_eq_some_iff.1 kk.out).1; clear kk)); (try (have kk : Bk1 (v0.heap.size + 1) (.cells #[.slice none 0 0] 26 (0, 0)) v3 := (by ((repeat (first | (with_reducible assumption) | (with_reducible refine Bk1.call ?_ (by with_reducible assumption)) | (with_reducible refine Bk1.new ?_ (new_bm _); first | rfl | (simp; done)) | (with_reducible refine Bk1.old ?_ _) | (with_reducible refine Bk1.drew ?_) | (with_reducible refine Bk1.same ?_) | (with_reducible refine Bk1.other ?_ (by omega) _))); (first | done | fail))); have cc : v3.cell? ⟨v0.heap.size + 1, 0, none⟩ = some (.slice none 0 0) := cell_of_row _ _ 0 _ _ _ kk.out; have ff : v3.frozen? ⟨v0.heap.size + 1, 0, none⟩ = false := frozen_of_row _ _ _ _ _ kk.out; have ll : v0.heap.size + 1 < v3.heap.size := (Array.getElem?_eq_some_iff.1 kk.out).1; clear kk)); (try (have kk : Bk1 (v1.heap.size) (.cells #[.slice none 0 0] 26 (0, 0)) v3 := (by ((repeat (first | (with_reducible assumption) | (with_reducible refine Bk1.call ?_ (by with_reducible assumption)) | (with_reducible refine Bk1.new ?_ (new_bm _); first | rfl | (simp; done)) | (with_reducible refine Bk1.old ?_ _) | (with_reducible refine Bk1.drew ?_) | (with_reducible refine Bk1.same ?_) | (with_reducible refine Bk1.other ?_ (by omega) _))); (first | done | fail))); have cc : v3.cell? ⟨v1.heap.size, 0, none⟩ = some (.slice none 0 0) := cell_of_row _ _ 0 _ _ _ kk.out; have ff : v3.frozen? ⟨v1.heap.size, 0, none⟩ = false := frozen_of_row _ _ _ _ _ kk.out; have ll : v1.heap.size < v3.heap.size := (Array.getElem?_eq_some_iff.1 kk.out).1; clear kk)); (try (have kk : Bk1 (v1.heap.size + 1) (.cells #[.slice none 0 0] 26 (0, 0)) v3 := (by ((repeat (first | (with_reducible assumption) | (with_reducible refine Bk1.call ?_ (by with_reducible assumption)) | (with_reducible refine Bk1.new ?_ (new_bm _); first | rfl | (simp; done)) | (with_reducible refine Bk1.old ?_ _) | (with_reducible refine Bk1.drew ?_) | (with_reducible refine Bk1.same ?_) | (with_reducible refine Bk1.other ?_ (by omega) _))); (first | done | fail))); have cc : v3.cell? ⟨v1.heap.size + 1, 0, none⟩ = some (.slice none 0 0) := cell_of_row _ _ 0 _ _ _ kk.out; have ff : v3.frozen? ⟨v1.heap.size + 1, 0, none⟩ = false := frozen_of_row _ _ _ _ _ kk.out; have ll : v1.heap.size + 1 < v3.heap.size := (Array.getElem?_eq_some_iff.1 kk.out).1; clear kk)); (try (have kk : Bk1 (v2.heap.size) (.cells #[.slice none 0 0] 26 (0, 0)) v3 := (by ((repeat (first | (with_reducible assumption) | (with_reducible refine Bk1.call ?_ (by with_reducible assumption)) | (with_reducible refine Bk1.new ?_ (new_bm _); first | rfl | (simp; done)) | (with_reducible refine Bk1.old ?_ _) | (with_reducible refine Bk1.drew ?_) | (with_reducible refine Bk1.same ?_) | (with_reducible refine Bk1.other ?_ (by omega) _))); (first | done | fail))); have cc : v3.cell? ⟨v2.heap.size, 0, none⟩ = some (.slice none 0 0) := cell_of_row _ _ 0 _ _ _ kk.out; have ff : v3.frozen? ⟨v2.heap.size, 0, none⟩ = false := frozen_of_row _ _ _ _ _ kk.out; have ll : v2.heap.size < v3.heap.size := (Array.getElem?_eq_some_iff.1 kk.out).1; clear kk)); (try (have kk : Bk1 (v2.heap.size + 1) (.cells #[.slice none 0 0] 26 (0, 0)) v3 := (by ((repeat (first | (with_reducible assumption) | (with_reducible refine Bk1.call ?_ (by with_reducible assumption)) | (with_reducible refine Bk1.new ?_ (new_bm _); first | rfl | (simp; done)) | (with_reducible refine Bk1.old ?_ _) | (with_reducible refine Bk1.drew ?_) | (with_reducible refine Bk1.same ?_) | (with_reducible refine Bk1.other ?_ (by omega) _))); (first | done | fail))); have cc : v3.cell? ⟨v2.heap.size + 1, 0, none⟩ = some (.slice none 0 0) := cell_of_row _ _ 0 _ _ _ kk.out; have ff : v3.frozen? ⟨v2.heap.size + 1, 0, none⟩ = false := frozen_of_row _ _ _ _ _ kk.out; have ll : v2.heap.size + 1 < v3.heap.size := (Array.getElem?_eq_some_iff.1 kk.out).1; clear kk)))
        | (go_at_call 24; have := E1; refine (CR0.out _ (by ((repeat (first | (with_reducible assumption) | (with_reducible exact Gb.refl _) | (with_reducible refine Gb.call ?_ (by with_reducible assumption)) | (with_reducible refine Gb.alloc ?_ _) | (with_reducible refine Gb.drew ?_) | (with_reducible refine Gb.setCell ?_ (by omega) _))); (first | done | fail)))).mono ?_; rintro e v2 ⟨⟨y0, rfl, hown⟩, hb2⟩; have E2 : Fr _ v2 := ⟨hb2⟩; obtain ⟨Q0, q0, rfl, _, hro, _⟩ := rs_ownn hown; have U0 : Rt Q0 l0 v2 := ⟨hro⟩; have O0 : Ow w.heap.size Q0 q0 l0 v2 := ⟨own_base hown (le_gb (by ((repeat (first | (with_reducible assumption) | (with_reducible exact Gb.refl _) | (with_reducible refine Gb.call ?_ (by with_reducible assumption)) | (with_reducible refine Gb.alloc ?_ _) | (with_reducible refine Gb.drew ?_) | (with_reducible refine Gb.setCell ?_ (by omega) _))); (first | done | fail))))⟩; have z2 := E2.size1; (try simp at z2); clear hb2 hown hro; (try (have kk : Bk1 (w1.heap.size) (.cells #[.slice none 0 0] 26 (0, 0)) v2 := (by ((repeat (first | (with_reducible assumption) | (with_reducible refine Bk1.call ?_ (by with_reducible assumption)) | (with_reducible refine Bk1.new ?_ (new_bm _); first | rfl | (simp; done)) | (with_reducible refine Bk1.old ?_ _) | (with_reducible refine Bk1.drew ?_) | (with_reducible refine Bk1.same ?_) | (with_reducible refine Bk1.other ?_ (by omega) _))); (first | done | fail))); have cc : v2.cell? ⟨w1.heap.size, 0, none⟩ = some (.slice none 0 0) := cell_of_row _ _ 0 _ _ _ kk.out; have ff : v2.frozen? ⟨w1.heap.size, 0, none⟩ = false := frozen_of_row _ _ _ _ _ kk.out; have ll : w1.heap.size < v2.heap.size := (Array.getElem?_eq_some_iff.1 kk.out).1; clear kk)); (try (have kk : Bk1 (w1.heap.size + 1) (.cells #[.slice none 0 0] 26 (0, 0)) v2 := (by ((repeat (first | (with_reducible assumption) | (with_reducible refine Bk1.call ?_ (by with_reducible assumption)) | (with_reducible refine Bk1.new ?_ (new_bm _); first | rfl | (simp; done)) | (with_reducible refine Bk1.old ?_ _) | (with_reducible refine Bk1.drew ?_) | (with_reducible refine Bk1.same ?_) | (with_reducible refine Bk1.other ?_ (by omega) _))); (first | done | fail))); have cc : v2.cell? ⟨w1.heap.size + 1, 0, none⟩ = some (.slice none 0 0) := cell_of_row _ _ 0 _ _ _ kk.out; have ff : v2.frozen? ⟨w1.heap.size + 1, 0, none⟩ = false := frozen_of_row _ _ _ _ _ kk.out; have ll : w1.heap.size + 1 < v2.heap.size := (Array.getElem?_eq_some_iff.1 kk.out).1; clear kk)); (try (have kk : Bk1 (v0.heap.size) (.cells #[.slice none 0 0] 26 (0, 0)) v2 := (by ((repeat (first | (with_reducible assumption) | (with_reducible refine Bk1.call ?_ (by with_reducible assumption)) | (with_reducible refine Bk1.new ?_ (new_bm _); first | rfl | (simp; done)) | (with_reducible refine Bk1.old ?_ _) | (with_reducible refine Bk1.drew ?_) | (with_reducible refine Bk1.same ?_) | (with_reducible refine Bk1.other ?_ (by omega) _))); (first | done | fail))); have cc : v2.cell? ⟨v0.heap.size, 0, none⟩ = some (.slice none 0 0) := cell_of_row _ _ 0 _ _ _ kk.out; have ff : v2.frozen? ⟨v0.heap.size, 0, none⟩ = false := frozen_of_row _ _ _ _ _ kk.out; have ll : v0.heap.size < v2.heap.size := (Array.getElem?_eq_some_iff.1 kk.out).1; clear kk)); (try (have kk : Bk1 (v0.heap.size + 1) (.cells #[.slice none 0 0] 26 (0, 0)) v2 := (by ((repeat (first | (with_reducible assumption) | (with_reducible refine Bk1.call ?_ (by with_reducible assumption)) | (with_reducible refine Bk1.new ?_ (new_bm _); first | rfl | (simp; done)) | (with_reducible refine Bk1.old ?_ _) | (with_reducible refine Bk1.drew ?_) | (with_reducible refine Bk1.same ?_) | (with_reducible refine Bk1.other ?_ (by omega) _))); (first | done | fail))); have cc : v2.cell? ⟨v0.heap.size + 1, 0, none⟩ = some (.slice none 0 0) := cell_of_row _ _ 0 _ _ _ kk.out; have ff : v2.frozen? ⟨v0.heap.size + 1, 0, none⟩ = false := frozen_of_row _ _ _ _ _ kk.out; have ll : v0.heap.size + 1 < v2.heap.size := (Array.getElem?_eq_some_iff.1 kk.out).1; clear kk)); (try (have kk : Bk1 (v1.heap.size) (.cells #[.slice none 0 0] 26 (0, 0)) v2 := (by ((repeat (first | (with_reducible assumption) | (with_reducible refine Bk1.call ?_ (by with_reducible assumption)) | (with_reducible refine Bk1.new ?_ (new_bm _); first | rfl | (simp; done)) | (with_reducible refine Bk1.old ?_ _) | (with_reducible refine Bk1.drew ?_) | (with_reducible refine Bk1.same ?_) | (with_reducible refine Bk1.other ?_ (by omega) _))); (first | done | fail))); have cc : v2.cell? ⟨v1.heap.size, 0, none⟩ = some (.slice none 0 0) := cell_of_row _ _ 0 _ _ _ kk.out; have ff : v2.frozen? ⟨v1.heap.size, 0, none⟩ = false := frozen_of_row _ _ _ _ _ kk.out; have ll : v1.heap.size < v2.heap.size := (Array.getElem?_eq_some_iff.1 kk.out).1; clear kk)); (try (have kk : Bk1 (v1.heap.size + 1) (.cells #[.slice none 0 0] 26 (0, 0)) v2 := (by ((repeat (first | (with_reducible assumption) | (with_reducible refine Bk1.call ?_ (by with_reducible assumption)) | (with_reducible refine Bk1.new ?_ (new_bm _); first | rfl | (simp; done)) | (with_reducible refine Bk1.old ?_ _) | (with_reducible refine Bk1.drew ?_) | (with_reducible refine Bk1.same ?_) | (with_reducible refine Bk1.other ?_ (by omega) _))); (first | done | fail))); have cc : v2.cell? ⟨v1.heap.size + 1, 0, none⟩ = some (.slice none 0 0) := cell_of_row _ _ 0 _ _ _ kk.out; have ff : v2.frozen? ⟨v1.heap.size + 1, 0, none⟩ = false := frozen_of_row _ _ _ _ _ kk.out; have ll : v1.heap.size + 1 < v2.heap.size := (Array.getElem?_eq_some_iff.1 kk.out).1; clear kk)))
        | (go_at_call 22; have := E0; refine (CM1.out _ (by ((repeat (first | (with_reducible assumption) | (with_reducible exact Gb.refl _) | (with_reducible refine Gb.call ?_ (by with_reducible assumption)) | (with_reducible refine Gb.alloc ?_ _) | (with_reducible refine Gb.drew ?_) | (with_reducible refine Gb.setCell ?_ (by omega) _))); (first | done | fail)))).mono ?_; rintro e v1 ⟨⟨r1, rfl, hr1⟩, hb1⟩; have E1 : Fr _ v1 := ⟨hb1⟩; have T1 : St r1 R1 v1 := ⟨hr1⟩; have z1 := E1.size1; obtain ⟨P1, p1, rfl, _, _, _, _⟩ := hr1; (try simp at z1); clear hb1; (try (have kk : Bk1 (w1.heap.size) (.cells #[.slice none 0 0] 26 (0, 0)) v1 := (by ((repeat (first | (with_reducible assumption) | (with_reducible refine Bk1.call ?_ (by with_reducible assumption)) | (with_reducible refine Bk1.new ?_ (new_bm _); first | rfl | (simp; done)) | (with_reducible refine Bk1.old ?_ _) | (with_reducible refine Bk1.drew ?_) | (with_reducible refine Bk1.same ?_) | (with_reducible refine Bk1.other ?_ (by omega) _))); (first | done | fail))); have cc : v1.cell? ⟨w1.heap.size, 0, none⟩ = some (.slice none 0 0) := cell_of_row _ _ 0 _ _ _ kk.out; have ff : v1.frozen? ⟨w1.heap.size, 0, none⟩ = false := frozen_of_row _ _ _ _ _ kk.out; have ll : w1.heap.size < v1.heap.size := (Array.getElem?_eq_some_iff.1 kk.out).1; clear kk)); (try (have kk : Bk1 (w1.heap.size + 1) (.cells #[.slice none 0 0] 26 (0, 0)) v1 := (by ((repeat (first | (with_reducible assumption) | (with_reducible refine Bk1.call ?_ (by with_reducible assumption)) | (with_reducible refine Bk1.new ?_ (new_bm _); first | rfl | (simp; done)) | (with_reducible refine Bk1.old ?_ _) | (with_reducible refine Bk1.drew ?_) | (with_reducible refine Bk1.same ?_) | (with_reducible refine Bk1.other ?_ (by omega) _))); (first | done | fail))); have cc : v1.cell? ⟨w1.heap.size + 1, 0, none⟩ = some (.slice none 0 0) := cell_of_row _ _ 0 _ _ _ kk.out; have ff : v1.frozen? ⟨w1.heap.size + 1, 0, none⟩ = false := frozen_of_row _ _ _ _ _ kk.out; have ll : w1.heap.size + 1 < v1.heap.size := (Array.getElem?_eq_some_iff.1 kk.out).1; clear kk)); (try (have kk : Bk1 (v0.heap.size) (.cells #[.slice none 0 0] 26 (0, 0)) v1 := (by ((repeat (first | (with_reducible assumption) | (with_reducible refine Bk1.call ?_ (by with_reducible assumption)) | (with_reducible refine Bk1.new ?_ (new_bm _); first | rfl | (simp; done)) | (with_reducible refine Bk1.old ?_ _) | (with_reducible refine Bk1.drew ?_) | (with_reducible refine Bk1.same ?_) | (with_reducible refine Bk1.other ?_ (by omega) _))); (first | done | fail))); have cc : v1.cell? ⟨v0.heap.size, 0, none⟩ = some (.slice none 0 0) := cell_of_row _ _ 0 _ _ _ kk.out; have ff : v1.frozen? ⟨v0.heap.size, 0, none⟩ = false := frozen_of_row _ _ _ _ _ kk.out; have ll : v0.heap.size < v1.heap.size := (Array.getElem?_eq_some_iff.1 kk.out).1; clear kk)); (try (have kk : Bk1 (v0.heap.size + 1) (.cells #[.slice none 0 0] 26 (0, 0)) v1 := (by ((repeat (first | (with_reducible assumption) | (with_reducible refine Bk1.call ?_ (by with_reducible assumption)) | (with_reducible refine Bk1.new ?_ (new_bm _); first | rfl | (simp; done)) | (with_reducible refine Bk1.old ?_ _) | (with_reducible refine Bk1.drew ?_) | (with_reducible refine Bk1.same ?_) | (with_reducible refine Bk1.other ?_ (by omega) _))); (first | done | fail))); have cc : v1.cell? ⟨v0.heap.size + 1, 0, none⟩ = some (.slice none 0 0) := cell_of_row _ _ 0 _ _ _ kk.out; have ff : v1.frozen? ⟨v0.heap.size + 1, 0, none⟩ = false := frozen_of_row _ _ _ _ _ kk.out; have ll : v0.heap.size + 1 < v1.heap.size := (Array.getElem?_eq_some_iff.1 kk.out).1; clear kk)))
        | (go_at_call 22; refine (CM0.out _ (by ((repeat (first | (with_reducible assumption) | (with_reducible exact Gb.refl _) | (with_reducible refine Gb.call ?_ (by with_reducible assumption)) | (with_reducible refine Gb.alloc ?_ _) | (with_reducible refine Gb.drew ?_) | (with_reducible refine Gb.setCell ?_ (by omega) _))); (first | done | fail)))).mono ?_; rintro e v0 ⟨⟨r0, rfl, hr0⟩, hb0⟩; have E0 : Fr _ v0 := ⟨hb0⟩; have T0 : St r0 R0 v0 := ⟨hr0⟩; have z0 := E0.size1; obtain ⟨P0, p0, rfl, _, _, _, _⟩ := hr0; (try simp at z0); clear hb0; (try (have kk : Bk1 (w1.heap.size) (.cells #[.slice none 0 0] 26 (0, 0)) v0 := (by ((repeat (first | (with_reducible assumption) | (with_reducible refine Bk1.call ?_ (by with_reducible assumption)) | (with_reducible refine Bk1.new ?_ (new_bm _); first | rfl | (simp; done)) | (with_reducible refine Bk1.old ?_ _) | (with_reducible refine Bk1.drew ?_) | (with_reducible refine Bk1.same ?_) | (with_reducible refine Bk1.other ?_ (by omega) _))); (first | done | fail))); have cc : v0.cell? ⟨w1.heap.size, 0, none⟩ = some (.slice none 0 0) := cell_of_row _ _ 0 _ _ _ kk.out; have ff : v0.frozen? ⟨w1.heap.size, 0, none⟩ = false := frozen_of_row _ _ _ _ _ kk.out; have ll : w1.heap.size < v0.heap.size := (Array.getElem?_eq_some_iff.1 kk.out).1; clear kk)); (try (have kk : Bk1 (w1.heap.size + 1) (.cells #[.slice none 0 0] 26 (0, 0)) v0 := (by ((repeat (first | (with_reducible assumption) | (with_reducible refine Bk1.call ?_ (by with_reducible assumption)) | (with_reducible refine Bk1.new ?_ (new_bm _); first | rfl | (simp; done)) | (with_reducible refine Bk1.old ?_ _) | (with_reducible refine Bk1.drew ?_) | (with_reducible refine Bk1.same ?_) | (with_reducible refine Bk1.other ?_ (by omega) _))); (first | done | fail))); have cc : v0.cell? ⟨w1.heap.size + 1, 0, none⟩ = some (.slice none 0 0) := cell_of_row _ _ 0 _ _ _ kk.out; have ff : v0.frozen? ⟨w1.heap.size + 1, 0, none⟩ = false := frozen_of_row _ _ _ _ _ kk.out; have ll : w1.heap.size + 1 < v0.heap.size := (Array.getElem?_eq_some_iff.1 kk.out).1; clear kk)))
        | fail))
    all_goals
      go_wp2_with fail
      go_meet
      refine ⟨_, P0, p0, _, P1, p1, Q0, q0, Q1, q1, rfl, rfl, rfl, rfl, Lib.hid ⟨(by ((repeat (first | (with_reducible assumption) | (with_reducible exact Gb.refl _) | (with_reducible refine Gb.call ?_ (by with_reducible assumption)) | (with_reducible refine Gb.alloc ?_ _) | (with_reducible refine Gb.drew ?_) | (with_reducible refine Gb.setCell ?_ (by omega) _))); (first | done | fail)) : Gb w _).out, ?_, ?_, ?_⟩, Lib.hid (by ((repeat (first | (with_reducible assumption) | (with_reducible refine Ow.call ?_ (by with_reducible assumption)) | (with_reducible refine Ow.alloc ?_ _) | (with_reducible refine Ow.drew ?_) | (with_reducible refine Ow.store ?_ (by ((repeat (first | (with_reducible assumption) | (with_reducible refine Bk1.call ?_ (by with_reducible assumption)) | (with_reducible refine Bk1.new ?_ (new_bm _); first | rfl | (simp; done)) | (with_reducible refine Bk1.old ?_ _) | (with_reducible refine Bk1.drew ?_) | (with_reducible refine Bk1.same ?_) | (with_reducible refine Bk1.other ?_ (by omega) _))); (first | done | fail))) _))); (first | done | fail))), Lib.hid (by ((repeat (first | (with_reducible assumption) | (with_reducible refine Ow.call ?_ (by with_reducible assumption)) | (with_reducible refine Ow.alloc ?_ _) | (with_reducible refine Ow.drew ?_) | (with_reducible refine Ow.store ?_ (by ((repeat (first | (with_reducible assumption) | (with_reducible refine Bk1.call ?_ (by with_reducible assumption)) | (with_reducible refine Bk1.new ?_ (new_bm _); first | rfl | (simp; done)) | (with_reducible refine Bk1.old ?_ _) | (with_reducible refine Bk1.drew ?_) | (with_reducible refine Bk1.same ?_) | (with_reducible refine Bk1.other ?_ (by omega) _))); (first | done | fail))) _))); (first | done | fail)))⟩
      · intro p hp
        simp only [List.mem_cons, List.not_mem_nil, or_false] at hp
        rcases hp with rfl | rfl
        all_goals dsimp only
        all_goals refine Bk1.out ?_
        all_goals ((repeat (first | (with_reducible assumption) | (with_reducible refine Bk1.call ?_ (by with_reducible assumption)) | (with_reducible refine Bk1.new ?_ (new_bm _); first | rfl | (simp; done)) | (with_reducible refine Bk1.old ?_ _) | (with_reducible refine Bk1.drew ?_) | (with_reducible refine Bk1.same ?_) | (with_reducible refine Bk1.other ?_ (by omega) _))); (first | done | fail))
      · intro p hp
        simp only [List.mem_cons, List.not_mem_nil, or_false] at hp
        rcases hp with rfl | rfl
        all_goals dsimp only
        all_goals refine St.out ?_
        all_goals ((repeat (first | (with_reducible assumption) | (with_reducible refine St.call ?_ (by with_reducible assumption)) | (with_reducible refine St.alloc ?_ _) | (with_reducible refine St.drew ?_) | (with_reducible refine St.store ?_ (by ((repeat (first | (with_reducible assumption) | (with_reducible refine Bk1.call ?_ (by with_reducible assumption)) | (with_reducible refine Bk1.new ?_ (new_bm _); first | rfl | (simp; done)) | (with_reducible refine Bk1.old ?_ _) | (with_reducible refine Bk1.drew ?_) | (with_reducible refine Bk1.same ?_) | (with_reducible refine Bk1.other ?_ (by omega) _))); (first | done | fail))) _))); (first | done | fail))
      · intro p hp
        simp only [List.mem_cons, List.not_mem_nil, or_false] at hp
        rcases hp with rfl | rfl
        all_goals dsimp only
        all_goals refine Rt.out ?_
        all_goals ((repeat (first | (with_reducible assumption) | (with_reducible refine Rt.call ?_ (by with_reducible assumption)) | (with_reducible refine Rt.alloc ?_ _) | (with_reducible refine Rt.drew ?_) | (with_reducible refine Rt.store ?_ (by ((repeat (first | (with_reducible assumption) | (with_reducible refine Bk1.call ?_ (by with_reducible assumption)) | (with_reducible refine Bk1.new ?_ (new_bm _); first | rfl | (simp; done)) | (with_reducible refine Bk1.old ?_ _) | (with_reducible refine Bk1.drew ?_) | (with_reducible refine Bk1.same ?_) | (with_reducible refine Bk1.other ?_ (by omega) _))); (first | done | fail))) _))); (first | done | fail))
  case rest =>
    obtain ⟨X0, P0, p0, X1, P1, p1, Q0, q0, Q1, q1, rfl, rfl, rfl, rfl, H2, HO0, HO1⟩ := hcut
    clear HS K0 K1 hk00 hk01 hk10 hk11 F1 G1 CM0 CR0 CM1 CR1 hz1
    have e0 := HRn0.out
    have e1 := HRn1.out
    subst e0 e1
    clear HRn0 HRn1
    have HN0 := Lib.hid HO0.out.nil
    have HN1 := Lib.hid HO1.out.nil
    clear HO0 HO1
    have hA := small HBs0.out HI0.out HM0.out hln0
    have hB := small HBs1.out HI1.out HM1.out hln1
    obtain ⟨N1, c1, b1⟩ := ex_cmb fAnd rfl hA hB
    obtain ⟨N2, c2, b2⟩ := ex_cmb fOr rfl hA hB
    obtain ⟨N3, c3, b3⟩ := ex_cmb fBut rfl hA hB
    have BA := Lib.hid (hA.more (show 84 ≤ 90000 by omega))
    have BB := Lib.hid (hB.more (show 84 ≤ 90000 by omega))
    have m0 := HM0.out
    have m1 := HM1.out
    have t1 : ∀ n, n ∈ l0.filter (fun x => decide (x ∈ l1)) ↔ In n N1 := fun n => by
      rw [List.mem_filter, m0 n, c1.2 n, decide_eq_true_eq, m1 n]
      show _ ↔ (has n M0 && has n M1) = true
      rw [Bool.and_eq_true, has_in, has_in]
    have t2 : ∀ n, n ∈ bds (l0 ++ l1) ↔ In n N2 := fun n => by
      rw [bds_mem, List.mem_append, m0 n, m1 n, c2.2 n]
      show _ ↔ (has n M0 || has n M1) = true
      rw [Bool.or_eq_true, has_in, has_in]
    have t3 : ∀ n, n ∈ l0.filter (fun x => !decide (x ∈ l1)) ↔ In n N3 := fun n => by
      rw [List.mem_filter, m0 n, c3.2 n, Bool.not_eq_true', decide_eq_false_iff_not, m1 n]
      show _ ↔ (has n M0 && !has n M1) = true
      rw [Bool.and_eq_true, has_in, Bool.not_eq_true', ← has_in n M1, Bool.not_eq_true]
    have f1 : (l0.filter (fun x => decide (x ∈ l1))).length ≤ 84 := Nat.le_trans (List.length_filter_le _ _) hln0
    have f3 : (l0.filter (fun x => !decide (x ∈ l1))).length ≤ 84 := Nat.le_trans (List.length_filter_le _ _) hln0
    have f2 : (bds (l0 ++ l1)).length ≤ 168 := by have := (bds_gen (l0 ++ l1) [] List.Pairwise.nil).2.2; unfold bds; simp only [List.length_nil, List.length_append] at this; omega
    have j1 : Inc (l0.filter (fun x => decide (x ∈ l1))) := HI0.out.filter _
    have j3 : Inc (l0.filter (fun x => !decide (x ∈ l1))) := HI0.out.filter _
    have j2 : Inc (bds (l0 ++ l1)) := (bds_gen (l0 ++ l1) [] List.Pairwise.nil).1
    have CI1 := Lib.hid (fun A c v W (hv : Sl W v (rn N1)) (hR : Rs W W.heap.size A (nC (l0.filter (fun x => decide (x ∈ l1))))) => is_true (v := v) (b1.more (by omega)) A c _ (by omega) j1 t1 W hv hR)
    have CI2 := Lib.hid (fun A c v W (hv : Sl W v (rn N2)) (hR : Rs W W.heap.size A (nC (bds (l0 ++ l1)))) => is_true (v := v) (b2.more (by omega)) A c _ (by omega) j2 t2 W hv hR)
    have CI3 := Lib.hid (fun A c v W (hv : Sl W v (rn N3)) (hR : Rs W W.heap.size A (nC (l0.filter (fun x => !decide (x ∈ l1))))) => is_true (v := v) (b3.more (by omega)) A c _ (by omega) j3 t3 W hv hR)
    have CIA := Lib.hid (fun A c v W (hv : Sl W v (rn M0)) (hR : Rs W W.heap.size A (nC l0)) => is_true (v := v) (hA.more (by omega)) A c _ (by omega) HI0.out HM0.out W hv hR)
    have CIB := Lib.hid (fun A c v W (hv : Sl W v (rn M1)) (hR : Rs W W.heap.size A (nC l1)) => is_true (v := v) (hB.more (by omega)) A c _ (by omega) HI1.out HM1.out W hv hR)
    have CAnd := Lib.hid (fun A B c d W h k => ref_and A B c d l0 l1 (by omega) (by omega) W h k)
    have CBut := Lib.hid (fun A B c d W h k => ref_but A B c d l0 l1 (by omega) (by omega) W h k)
    have COr := Lib.hid (fun A B c d hA hB W h k => ref_or A B c d l0 l1 (by omega) (by omega) hA hB W h k)
    have CSame := Lib.hid (fun A B c d W h k => same_any A B c d l0 l1 (by omega) (by omega) W h k)
    have CEq := Lib.hid (fun u v W (h : Sl W u (rn M0)) (k : Sl W v (rn M1)) => equal_sl (by rw [rn_len]; have := hA.len; omega) (by rw [rn_len]; have := hB.len; omega) W h k)
    have q1 : decide (rn M0 = rn M1) = decide (l0 = l1) := decide_eq_decide.2 ⟨fun h => by
      have e := rn_inj h
      subst e
      exact inc_ext HI0.out HI1.out (fun n => (m0 n).trans (m1 n).symm), fun h => by
      subst h
      rw [nrm_ext hA.nrm hB.nrm (fun n => (m0 n).symm.trans (m1 n))]⟩
    rw [q1] at CEq
    obtain ⟨Z1, hZ1⟩ : ∃ q, q = decide (l0 = l1) := ⟨_, rfl⟩
    rw [← hZ1] at CEq CSame
    have hQQ : (Z1 == Z1) = true := by cases Z1 <;> rfl
    have q2 : ((l0.filter (fun x => !decide (x ∈ l1))).length == 0) = (N3.length == 0) := by
      rw [Bool.eq_iff_iff, beq_iff_eq, beq_iff_eq]
      constructor
      · intro h
        have e := List.eq_nil_of_length_eq_zero h
        rw [e] at t3
        rw [nrm_ext c3.1 Nrm.nil (fun n => (t3 n).symm.trans ⟨(fun h => nomatch h), (fun h => absurd h In.nil)⟩)]; rfl
      · intro h
        have e := List.eq_nil_of_length_eq_zero h
        rw [e] at t3
        cases hc : l0.filter (fun x => !decide (x ∈ l1)) with
        | nil => rfl
        | cons x T => exact absurd ((t3 x).1 (by rw [hc]; exact List.mem_cons_self ..)) In.nil
    have CSub := Lib.hid (fun u v W (h : Sl W u (rn M0)) (k : Sl W v (rn M1)) => sub_any BA.out BB.out c3 W h k)
    have q3 : (((l0.filter (fun x => !decide (x ∈ l1))).length : Int) == 0) = (N3.length == 0) := by
      rw [← q2, Bool.eq_iff_iff, beq_iff_eq, beq_iff_eq]; omega
    obtain ⟨Z2, hZ2⟩ : ∃ q, q = (N3.length == 0) := ⟨_, rfl⟩
    rw [← hZ2] at CSub q3
    have hQQ2 : (Z2 == Z2) = true := by cases Z2 <;> rfl
    have Hc1 := Lib.hid c1
    have Hc2 := Lib.hid c2
    have Hc3 := Lib.hid c3
    obtain ⟨T1, hT1⟩ : ∃ T, T = l0.filter (fun x => decide (x ∈ l1)) := ⟨_, rfl⟩
    obtain ⟨T2, hT2⟩ : ∃ T, T = bds (l0 ++ l1) := ⟨_, rfl⟩
    obtain ⟨T3, hT3⟩ : ∃ T, T = l0.filter (fun x => !decide (x ∈ l1)) := ⟨_, rfl⟩
    rw [← hT1] at CI1 CAnd
    rw [← hT2] at CI2 COr
    rw [← hT3] at CI3 CBut q3
    clear hA hB b1 b2 b3 c1 c2 c3 m0 m1 t1 t2 t3 f1 f2 f3 j1 j2 j3 q1 q2 hZ1 hZ2 hT1 hT2 hT3 HBs0 HBs1 HM0 HM1 HI0 HI1 HRw0 HRw1
    have hc0 := H2.out.cell (.head _) 0
    have hc1 := H2.out.cell (.tail _ (.head _)) 0
    go_wp2_with fail
    refine (and_set BA.out BB.out Hc1.out _ (H2.out.set _ (.head _)) (H2.out.set _ (.tail _ (.head _)))).mono ?_
    rintro e v1 ⟨⟨r, rfl, hr⟩, hb⟩
    have HH1 := Lib.hid ((H2.out.next hb).addV hr)
    obtain ⟨D1, d1, rfl, _, _, _, _⟩ := hr
    clear hb
    clear hc0 hc1
    have hc0 := HH1.out.cell (.head _) 0
    have hc1 := HH1.out.cell (.tail _ (.head _)) 0
    go_wp2_with fail
    refine (CAnd.out Q0 Q1 q0 q1 _ (HH1.out.row _ (.head _)) (HH1.out.row _ (.tail _ (.head _)))).mono ?_
    rintro e v2 ⟨⟨r, rfl, hown⟩, hb⟩
    obtain ⟨D2, d2, rfl, _, hr, _⟩ := rs_ownn hown
    have HH2 := Lib.hid ((HH1.out.next hb).addN hr)
    clear hb hown hr
    clear hc0 hc1
    have hc0 := HH2.out.cell (.head _) 0
    have hc1 := HH2.out.cell (.tail _ (.head _)) 0
    go_wp2_with fail
    refine (CI1.out _ _ _ _ (HH2.out.set _ (.head _)) (HH2.out.row _ (.head _))).mono ?_
    rintro e v3 ⟨rfl, hb⟩
    have HH3 := Lib.hid (HH2.out.next hb)
    clear hb
    clear hc0 hc1
    have hc0 := HH3.out.cell (.head _) 0
    have hc1 := HH3.out.cell (.tail _ (.head _)) 0
    go_wp2_with fail
    refine (or_set BA.out BB.out Hc2.out _ (HH3.out.set _ (.tail _ (.head _))) (HH3.out.set _ (.tail _ (.tail _ (.head _))))).mono ?_
    rintro e v4 ⟨⟨r, rfl, hr⟩, hb⟩
    have HH4 := Lib.hid ((HH3.out.next hb).addV hr)
    obtain ⟨D4, d4, rfl, _, _, _, _⟩ := hr
    clear hb
    clear hc0 hc1
    have hc0 := HH4.out.cell (.head _) 0
    have hc1 := HH4.out.cell (.tail _ (.head _)) 0
    go_wp2_with fail
    refine (COr.out Q0 Q1 q0 q1 HN0.out HN1.out _ (HH4.out.row _ (.tail _ (.head _))) (HH4.out.row _ (.tail _ (.tail _ (.head _))))).mono ?_
    rintro e v5 ⟨⟨r, rfl, hown⟩, hb⟩
    obtain ⟨D5, d5, rfl, _, hr, _⟩ := rs_ownn hown
    have HH5 := Lib.hid ((HH4.out.next hb).addN hr)
    clear hb hown hr
    clear hc0 hc1
    have hc0 := HH5.out.cell (.head _) 0
    have hc1 := HH5.out.cell (.tail _ (.head _)) 0
    go_wp2_with fail
    refine (CI2.out _ _ _ _ (HH5.out.set _ (.head _)) (HH5.out.row _ (.head _))).mono ?_
    rintro e v6 ⟨rfl, hb⟩
    have HH6 := Lib.hid (HH5.out.next hb)
    clear hb
    clear hc0 hc1
    have hc0 := HH6.out.cell (.head _) 0
    have hc1 := HH6.out.cell (.tail _ (.head _)) 0
    go_wp2_with fail
    refine (but_set BA.out BB.out Hc3.out _ (HH6.out.set _ (.tail _ (.tail _ (.head _)))) (HH6.out.set _ (.tail _ (.tail _ (.tail _ (.head _)))))).mono ?_
    rintro e v7 ⟨⟨r, rfl, hr⟩, hb⟩
    have HH7 := Lib.hid ((HH6.out.next hb).addV hr)
    obtain ⟨D7, d7, rfl, _, _, _, _⟩ := hr
    clear hb
    clear hc0 hc1
    have hc0 := HH7.out.cell (.head _) 0
    have hc1 := HH7.out.cell (.tail _ (.head _)) 0
    go_wp2_with fail
    refine (CBut.out Q0 Q1 q0 q1 _ (HH7.out.row _ (.tail _ (.tail _ (.head _)))) (HH7.out.row _ (.tail _ (.tail _ (.tail _ (.head _)))))).mono ?_
    rintro e v8 ⟨⟨r, rfl, hown⟩, hb⟩
    obtain ⟨D8, d8, rfl, _, hr, _⟩ := rs_ownn hown
    have HH8 := Lib.hid ((HH7.out.next hb).addN hr)
    clear hb hown hr
    clear hc0 hc1
    have hc0 := HH8.out.cell (.head _) 0
    have hc1 := HH8.out.cell (.tail _ (.head _)) 0
    go_wp2_with fail
    refine (CI3.out _ _ _ _ (HH8.out.set _ (.head _)) (HH8.out.row _ (.head _))).mono ?_
    rintro e v9 ⟨rfl, hb⟩
    have HH9 := Lib.hid (HH8.out.next hb)
    clear hb
    clear hc0 hc1
    have hc0 := HH9.out.cell (.head _) 0
    have hc1 := HH9.out.cell (.tail _ (.head _)) 0
    go_wp2_with fail
    refine (CEq.out _ _ _ (HH9.out.set _ (.tail _ (.tail _ (.tail _ (.head _))))) (HH9.out.set _ (.tail _ (.tail _ (.tail _ (.tail _ (.head _))))))).mono ?_
    rintro e v10 ⟨rfl, hb⟩
    have HH10 := Lib.hid (HH9.out.next hb)
    clear hb
    clear hc0 hc1
    have hc0 := HH10.out.cell (.head _) 0
    have hc1 := HH10.out.cell (.tail _ (.head _)) 0
    go_wp2_with fail
    refine (CSame.out Q0 Q1 q0 q1 _ (HH10.out.row _ (.tail _ (.tail _ (.tail _ (.head _))))) (HH10.out.row _ (.tail _ (.tail _ (.tail _ (.tail _ (.head _))))))).mono ?_
    rintro e v11 ⟨rfl, hb⟩
    have HH11 := Lib.hid (HH10.out.next hb)
    clear hb
    clear hc0 hc1
    have hc0 := HH11.out.cell (.head _) 0
    have hc1 := HH11.out.cell (.tail _ (.head _)) 0
    go_wp2_with fail
    refine (CSub.out _ _ _ (HH11.out.set _ (.tail _ (.tail _ (.tail _ (.head _))))) (HH11.out.set _ (.tail _ (.tail _ (.tail _ (.tail _ (.head _))))))).mono ?_
    rintro e v12 ⟨rfl, hb⟩
    have HH12 := Lib.hid (HH11.out.next hb)
    clear hb
    clear hc0 hc1
    have hc0 := HH12.out.cell (.head _) 0
    have hc1 := HH12.out.cell (.tail _ (.head _)) 0
    go_wp2_with fail
    refine (CBut.out Q0 Q1 q0 q1 _ (HH12.out.row _ (.tail _ (.tail _ (.tail _ (.head _))))) (HH12.out.row _ (.tail _ (.tail _ (.tail _ (.tail _ (.head _))))))).mono ?_
    rintro e v13 ⟨⟨r, rfl, hown⟩, hb⟩
    obtain ⟨D13, d13, rfl, _, hr, _⟩ := rs_ownn hown
    have HH13 := Lib.hid ((HH12.out.next hb).addN hr)
    clear hb hown hr
    clear hc0 hc1
    have hc0 := HH13.out.cell (.head _) 0
    have hc1 := HH13.out.cell (.tail _ (.head _)) 0
    go_wp2_with fail
    refine (CIA.out _ _ _ _ (HH13.out.set _ (.tail _ (.tail _ (.tail _ (.head _))))) (HH13.out.row _ (.tail _ (.tail _ (.tail _ (.tail _ (.head _))))))).mono ?_
    rintro e v14 ⟨rfl, hb⟩
    have HH14 := Lib.hid (HH13.out.next hb)
    clear hb
    clear hc0 hc1
    have hc0 := HH14.out.cell (.head _) 0
    have hc1 := HH14.out.cell (.tail _ (.head _)) 0
    go_wp2_with fail
    refine (CIB.out _ _ _ _ (HH14.out.set _ (.tail _ (.tail _ (.tail _ (.tail _ (.head _)))))) (HH14.out.row _ (.tail _ (.tail _ (.tail _ (.tail _ (.tail _ (.head _)))))))).mono ?_
    rintro e v15 ⟨rfl, hb⟩
    have HH15 := Lib.hid (HH14.out.next hb)
    clear hb
    clear hc0 hc1
    go_wp2_with fail
    go_ret
    exact ⟨by simp, HH15.out.out⟩
set_option maxRecDepth 100000 in
theorem lifted (os : Os) (started : os.Started) (H : Type) (enc : TypeId × Value → H) :
    ReturnsInHanded {} Try.checked os 8 .any (Rows.bitmapCombinesSpec.pre6 enc Try.prog Try.f8 Rows.bitmapCombinesRow.domain false) (Rows.bitmapCombinesSpec.post enc Try.prog Try.f8 false true false false) := by
  refine returnsInHanded_of_change (C := Try.checked) own started (by kernel_rfl) Try.func8
    (ChangeSpec.witness6 (enc := enc) (C := Try.checked) false ⟨#[], #[.agg #[.int .u16 0, .slice none 0 0], .agg #[.int .u16 0, .slice none 0 0]], []⟩ 8 (by kernel_rfl) (by kernel_rfl) (by kernel_rfl) (by kernel_rfl)) ?_
  intro W base args ds gs before hval0 hW _ _
  have hval : ∀ (j : Nat) t v, Try.f8.params[j]? = some t → args[j]? = some v → Value.okWide Try.prog W .any base t v := hval0
  have hW' := hW
  obtain ⟨p, q, hA0, hV, rfl, _, _⟩ := hW
  have hA : DataW.TrodAll enc Try.prog W 0 (fun _ => true) true Try.f8.params.toList args.toList ds p := hA0
  rw [Try.params8] at hA hval
  obtain ⟨v0, vs0, d0, ds0, p0, q0, hargs0, rfl, rfl, h0, r0⟩ := trodAll_cons hA
  obtain ⟨v1, vs1, d1, ds1, p1, q1, hargs1, rfl, rfl, h1, r1⟩ := trodAll_cons r0
  obtain ⟨rfl, rfl, rfl⟩ := trodAll_nil r1
  obtain rfl : args = #[v0, v1] := by cases args; simp_all
  obtain ⟨rfl, rfl⟩ := trodVars_none hV
  have lt0 : ∀ x ∈ p0, x.block < W.heap.size := fun x hx => hW'.lt x (by simp [hx])
  obtain ⟨b0, A0, c0, L0, rfl, hb0, hL0, hs0, hR0⟩ := open_set (hval 0 36 v0 rfl rfl) h0 lt0
  have lt1 : ∀ x ∈ p1, x.block < W.heap.size := fun x hx => hW'.lt x (by simp [hx])
  obtain ⟨b1, A1, c1, L1, rfl, hb1, hL1, hs1, hR1⟩ := open_set (hval 1 36 v1 rfl rfl) h1 lt1
  clear hA0 hval0
  simp only [List.append_nil] at hW'
  refine (walk W b0 hb0 A0 c0 L0 hL0 hs0 hR0 b1 hb1 A1 c1 L1 hL1 hs1 hR1).mono fun e W' ⟨he, hb⟩ => ?_
  subst he
  exact ⟨_, rfl, post_mem hW' hb (fun _ _ _ => trodAll_mk1 (shut_bool Try.underlying4 _)) (fun sp hsp => by
    have t := trodAll_cons_mk (carry laidOut (by kernel_rfl) (of_decide_eq_true (by kernel_rfl)) h0 hb lt0 sp (fun x hx => hsp x (by simp [hx]))) (trodAll_cons_mk (carry laidOut (by kernel_rfl) (of_decide_eq_true (by kernel_rfl)) h1 hb lt1 sp (fun x hx => hsp x (by simp [hx]))) trodAll_mk0)
    simp only [List.append_nil] at t
    exact t) (fun _ => rfl) (ok_one (by kernel_rfl) rfl (okWide_bool_mk Try.underlying4 _))⟩

theorem proved : Rows.BitmapCombinesSaid :=
  OpenClaim.holds_of_wide 8 Try.f8 rfl rfl rfl rfl rfl rfl rfl ⟨rfl, rfl, rfl, rfl, rfl⟩ rfl rfl rfl rfl rfl (by kernel_rfl) Try.func8 (by kernel_rfl)
    (of_decide_eq_true (by kernel_rfl)) (by unfold Func.isWrapper; first | (rw [if_pos (by decide +kernel)]; kernel_rfl) | (rw [if_neg (by decide +kernel)]; exact ⟨rfl, rfl⟩))
    (fun os started H enc _ => lifted os started H enc)

end Go.Proofs.Ytacgomhegjilgaa.lawCombines
