/- layouts, layoutOf. -/
import Derived.Test.YtomjgkflnfjjbaaKc
import Derived.Laws.EntriesVeiled
namespace Go.Proofs.Ytomjgkflnfjjbaa
open Go.ChangeShapes Go.WideShapes Go.ChangeAt Go.RowKit En

/-- How the values are written in a form of a kind. -/
def wrF : Int → Nat
  | 1 => 56
  | 2 => 58
  | 3 => 60
  | _ => 62
/-- How they are read. -/
def rdF : Int → Nat
  | 1 => 57
  | 2 => 59
  | 3 => 61
  | _ => 63
/-- A layout as a value. -/
def layV (k : Int) : Array Value := #[.int .i64 k, .func (.func (wrF k)) #[] #[], .func (.func (rdF k)) #[] #[]]
theorem results_cell1 {fn : Func} {p : Tmp} {ty : TypeId} (h : fn.results = #[.cell p ty]) (tmps : Array Value) (P : Program) (w : World) :
    (results fn tmps).run P w =
      ((asAddr (tmps.getD p undef)).run P w).andThen fun a w₁ => (loadVar ty a).run P w₁ := by
  simp only [results, h]
  simp [Sem.run_bind]
set_option maxRecDepth 100000 in
theorem layouts_any (w : World) : Calls Try.prog 46 #[] w fun e w' => e = .returned (.agg #[.int .i64 1, .func (.func 56) #[] #[], .func (.func 57) #[] #[], .int .i64 2, .func (.func 58) #[] #[], .func (.func 59) #[] #[], .int .i64 3, .func (.func 60) #[] #[], .func (.func 61) #[] #[], .int .i64 4, .func (.func 62) #[] #[], .func (.func 63) #[] #[]]) ∧ Below w.heap.size w w' := by
  go_enter Try.func46, Try.ntmps46
  go_wp2_with fail
  refine bodyPost_ret (v := .agg #[.int .i64 1, .func (.func 56) #[] #[], .func (.func 57) #[] #[], .int .i64 2, .func (.func 58) #[] #[], .func (.func 59) #[] #[], .int .i64 3, .func (.func 60) #[] #[], .func (.func 61) #[] #[], .int .i64 4, .func (.func 62) #[] #[], .func (.func 63) #[] #[]]) ?_ rfl ⟨rfl, ?_⟩
  · rw [results_cell1 rfl]; go_simp <;> rfl
  · (repeat' (first | exact Below.refl _ _ | refine Below.drew ?_ | refine Below.setCell ?_ (by simp <;> omega) _ | refine Below.alloc ?_ (by simp <;> omega) _))
theorem results_cell_tmp1 {fn : Func} {p u : Tmp} {ty : TypeId} (h : fn.results = #[.cell p ty, .tmp u]) (tmps : Array Value) (P : Program) (w : World) :
    (results fn tmps).run P w =
      ((asAddr (tmps.getD p undef)).run P w).andThen fun a w₁ => ((loadVar ty a).run P w₁).andThen fun v w₂ => .ok (.tuple #[v, tmps.getD u undef]) w₂ := by
  simp only [results, h]
  simp [Sem.run_bind, Result.andThen]
/-- The zero layout. -/
def layZ : Array Value := #[.int .i64 0, .nilFunc, .nilFunc]
/-- The cells of a layout. -/
abbrev layB (v : Array Value) : Obj := .cells v 61 (0, 0)
/-- What layoutOf answers. -/
def layR (k : Int) : Value := if 1 ≤ k ∧ k ≤ 4 then .tuple #[.agg (layV k), .bool true] else .tuple #[.agg layZ, .bool false]
theorem index_lay0 (w : World) : (Instr.index 82 (.agg #[.int .i64 1, .func (.func 56) #[] #[], .func (.func 57) #[] #[], .int .i64 2, .func (.func 58) #[] #[], .func (.func 59) #[] #[], .int .i64 3, .func (.func 60) #[] #[], .func (.func 61) #[] #[], .int .i64 4, .func (.func 62) #[] #[], .func (.func 63) #[] #[]]) (.int .i64 0)).run Try.prog w = .ok (.agg #[.int .i64 1, .func (.func 56) #[] #[], .func (.func 57) #[] #[]]) w := by kernel_rfl
theorem index_lay1 (w : World) : (Instr.index 82 (.agg #[.int .i64 1, .func (.func 56) #[] #[], .func (.func 57) #[] #[], .int .i64 2, .func (.func 58) #[] #[], .func (.func 59) #[] #[], .int .i64 3, .func (.func 60) #[] #[], .func (.func 61) #[] #[], .int .i64 4, .func (.func 62) #[] #[], .func (.func 63) #[] #[]]) (.int .i64 1)).run Try.prog w = .ok (.agg #[.int .i64 2, .func (.func 58) #[] #[], .func (.func 59) #[] #[]]) w := by kernel_rfl
theorem index_lay2 (w : World) : (Instr.index 82 (.agg #[.int .i64 1, .func (.func 56) #[] #[], .func (.func 57) #[] #[], .int .i64 2, .func (.func 58) #[] #[], .func (.func 59) #[] #[], .int .i64 3, .func (.func 60) #[] #[], .func (.func 61) #[] #[], .int .i64 4, .func (.func 62) #[] #[], .func (.func 63) #[] #[]]) (.int .i64 2)).run Try.prog w = .ok (.agg #[.int .i64 3, .func (.func 60) #[] #[], .func (.func 61) #[] #[]]) w := by kernel_rfl
theorem index_lay3 (w : World) : (Instr.index 82 (.agg #[.int .i64 1, .func (.func 56) #[] #[], .func (.func 57) #[] #[], .int .i64 2, .func (.func 58) #[] #[], .func (.func 59) #[] #[], .int .i64 3, .func (.func 60) #[] #[], .func (.func 61) #[] #[], .int .i64 4, .func (.func 62) #[] #[], .func (.func 63) #[] #[]]) (.int .i64 3)).run Try.prog w = .ok (.agg #[.int .i64 4, .func (.func 62) #[] #[], .func (.func 63) #[] #[]]) w := by kernel_rfl
set_option maxRecDepth 100000 in
set_option maxHeartbeats 2000000 in
theorem layoutOf_any (k : Int) (hk : -9223372036854775808 ≤ k ∧ k ≤ 9223372036854775807) (w : World) : Calls Try.prog 28 #[.int .i64 k] w fun e w' => e = .returned (layR k) ∧ Below w.heap.size w w' := by
  go_enter Try.func28, Try.ntmps28
  go_wp2_with fail
  refine (layouts_any _).mono ?_
  rintro e w1 ⟨rfl, hb⟩
  have HB1 : Hid (Below w.heap.size w w1) := Lib.hid (((Below.refl _ _).alloc (Nat.le_refl _) _).trans (hb.mono (by simp)))
  have HZ1 : Hid (w1.heap[w.heap.size]? = some (layB layZ)) := Lib.hid ((hb.block w.heap.size (by simp)).trans (Deep.blk_alloc_new w _))
  clear hb
  go_wp2_with fail
  go_loopw [7] (fun iv wr => ∃ j : Nat, j ≤ 4 ∧ iv = .int .i64 (j : Int) ∧ Hid (∀ q : Nat, 1 ≤ q → q ≤ j → k ≠ (q : Int)) ∧ Hid (Below w.heap.size w wr) ∧ Hid (wr.heap[w.heap.size]? = some (layB layZ))) (fun iv _ => 4 - (intOf iv).toNat)
  case atStart => exact ⟨0, Nat.zero_le _, rfl, Lib.hid (fun q h1 h2 => by omega), HB1, HZ1⟩
  case round =>
    obtain ⟨j, hj, rfl, HN, HB, HZ⟩ := hrel
    have hj5 : j = 0 ∨ j = 1 ∨ j = 2 ∨ j = 3 ∨ j = 4 := by omega
    rcases hj5 with rfl | rfl | rfl | rfl | rfl
    · by_cases hkj : k = 1
      · subst hkj
        have hsz := HB.out.size
        have hlt : w.heap.size < wr.heap.size := (Array.getElem?_eq_some_iff.1 HZ.out).1
        have hc0 : wr.cell? ⟨w.heap.size, 0, none⟩ = some (.int .i64 0) := cell_of_row wr w.heap.size 0 layZ 61 (0, 0) HZ.out
        have hc1 : wr.cell? ⟨w.heap.size, 1, none⟩ = some .nilFunc := cell_of_row wr w.heap.size 1 layZ 61 (0, 0) HZ.out
        have hc2 : wr.cell? ⟨w.heap.size, 2, none⟩ = some .nilFunc := cell_of_row wr w.heap.size 2 layZ 61 (0, 0) HZ.out
        have hf0 := frozen_of_row wr w.heap.size 0 layZ 61 HZ.out
        have hf1 := frozen_of_row wr w.heap.size 1 layZ 61 HZ.out
        have hf2 := frozen_of_row wr w.heap.size 2 layZ 61 HZ.out
        rw [show (((0 : Nat) : Int)) = 0 from rfl]
        have i0 := fun W => index_lay0 W
        go_wp2_with fail
        (try simp only [Exit.inBlock, Exit.then])
        refine bodyPost_ret (v := .tuple #[.agg #[.int .i64 1, .func (.func 56) #[] #[], .func (.func 57) #[] #[]], .bool true]) ?_ rfl ⟨rfl, ?_⟩
        · rw [results_cell_tmp1 rfl]; go_simp <;> rfl
        · exact (((HB.out.setCell (p := ⟨w.heap.size, 0, none⟩) (Nat.le_refl _) _).setCell (p := ⟨w.heap.size, 1, none⟩) (Nat.le_refl _) _).setCell (p := ⟨w.heap.size, 2, none⟩) (Nat.le_refl _) _).alloc (by simp; omega) _
      · have hsz := HB.out.size
        have hlt : w.heap.size < wr.heap.size := (Array.getElem?_eq_some_iff.1 HZ.out).1
        have hkj2 : ¬ ((1 : Int) = k) := fun h => hkj h.symm
        rw [show (((0 : Nat) : Int)) = 0 from rfl]
        have i0 := fun W => index_lay0 W
        go_wp2_with fail
        go_roundw
        case rel =>
          refine ⟨1, by omega, by go_num, Lib.hid (fun q h1 h2 => ?_), Lib.hid ?_, Lib.hid ?_⟩
          · by_cases e : q = 1
            · subst e; exact hkj
            · exact HN.out q h1 (by omega)
          · exact HB.out.alloc HB.out.size _
          · exact (((Below.refl _ _).alloc (Nat.le_refl _) _).block _ hlt).trans HZ.out
        case measure => simp [intOf]
    · by_cases hkj : k = 2
      · subst hkj
        have hsz := HB.out.size
        have hlt : w.heap.size < wr.heap.size := (Array.getElem?_eq_some_iff.1 HZ.out).1
        have hc0 : wr.cell? ⟨w.heap.size, 0, none⟩ = some (.int .i64 0) := cell_of_row wr w.heap.size 0 layZ 61 (0, 0) HZ.out
        have hc1 : wr.cell? ⟨w.heap.size, 1, none⟩ = some .nilFunc := cell_of_row wr w.heap.size 1 layZ 61 (0, 0) HZ.out
        have hc2 : wr.cell? ⟨w.heap.size, 2, none⟩ = some .nilFunc := cell_of_row wr w.heap.size 2 layZ 61 (0, 0) HZ.out
        have hf0 := frozen_of_row wr w.heap.size 0 layZ 61 HZ.out
        have hf1 := frozen_of_row wr w.heap.size 1 layZ 61 HZ.out
        have hf2 := frozen_of_row wr w.heap.size 2 layZ 61 HZ.out
        rw [show (((1 : Nat) : Int)) = 1 from rfl]
        have i1 := fun W => index_lay1 W
        go_wp2_with fail
        (try simp only [Exit.inBlock, Exit.then])
        refine bodyPost_ret (v := .tuple #[.agg #[.int .i64 2, .func (.func 58) #[] #[], .func (.func 59) #[] #[]], .bool true]) ?_ rfl ⟨rfl, ?_⟩
        · rw [results_cell_tmp1 rfl]; go_simp <;> rfl
        · exact (((HB.out.setCell (p := ⟨w.heap.size, 0, none⟩) (Nat.le_refl _) _).setCell (p := ⟨w.heap.size, 1, none⟩) (Nat.le_refl _) _).setCell (p := ⟨w.heap.size, 2, none⟩) (Nat.le_refl _) _).alloc (by simp; omega) _
      · have hsz := HB.out.size
        have hlt : w.heap.size < wr.heap.size := (Array.getElem?_eq_some_iff.1 HZ.out).1
        have hkj2 : ¬ ((2 : Int) = k) := fun h => hkj h.symm
        rw [show (((1 : Nat) : Int)) = 1 from rfl]
        have i1 := fun W => index_lay1 W
        go_wp2_with fail
        go_roundw
        case rel =>
          refine ⟨2, by omega, by go_num, Lib.hid (fun q h1 h2 => ?_), Lib.hid ?_, Lib.hid ?_⟩
          · by_cases e : q = 2
            · subst e; exact hkj
            · exact HN.out q h1 (by omega)
          · exact HB.out.alloc HB.out.size _
          · exact (((Below.refl _ _).alloc (Nat.le_refl _) _).block _ hlt).trans HZ.out
        case measure => simp [intOf]
    · by_cases hkj : k = 3
      · subst hkj
        have hsz := HB.out.size
        have hlt : w.heap.size < wr.heap.size := (Array.getElem?_eq_some_iff.1 HZ.out).1
        have hc0 : wr.cell? ⟨w.heap.size, 0, none⟩ = some (.int .i64 0) := cell_of_row wr w.heap.size 0 layZ 61 (0, 0) HZ.out
        have hc1 : wr.cell? ⟨w.heap.size, 1, none⟩ = some .nilFunc := cell_of_row wr w.heap.size 1 layZ 61 (0, 0) HZ.out
        have hc2 : wr.cell? ⟨w.heap.size, 2, none⟩ = some .nilFunc := cell_of_row wr w.heap.size 2 layZ 61 (0, 0) HZ.out
        have hf0 := frozen_of_row wr w.heap.size 0 layZ 61 HZ.out
        have hf1 := frozen_of_row wr w.heap.size 1 layZ 61 HZ.out
        have hf2 := frozen_of_row wr w.heap.size 2 layZ 61 HZ.out
        rw [show (((2 : Nat) : Int)) = 2 from rfl]
        have i2 := fun W => index_lay2 W
        go_wp2_with fail
        (try simp only [Exit.inBlock, Exit.then])
        refine bodyPost_ret (v := .tuple #[.agg #[.int .i64 3, .func (.func 60) #[] #[], .func (.func 61) #[] #[]], .bool true]) ?_ rfl ⟨rfl, ?_⟩
        · rw [results_cell_tmp1 rfl]; go_simp <;> rfl
        · exact (((HB.out.setCell (p := ⟨w.heap.size, 0, none⟩) (Nat.le_refl _) _).setCell (p := ⟨w.heap.size, 1, none⟩) (Nat.le_refl _) _).setCell (p := ⟨w.heap.size, 2, none⟩) (Nat.le_refl _) _).alloc (by simp; omega) _
      · have hsz := HB.out.size
        have hlt : w.heap.size < wr.heap.size := (Array.getElem?_eq_some_iff.1 HZ.out).1
        have hkj2 : ¬ ((3 : Int) = k) := fun h => hkj h.symm
        rw [show (((2 : Nat) : Int)) = 2 from rfl]
        have i2 := fun W => index_lay2 W
        go_wp2_with fail
        go_roundw
        case rel =>
          refine ⟨3, by omega, by go_num, Lib.hid (fun q h1 h2 => ?_), Lib.hid ?_, Lib.hid ?_⟩
          · by_cases e : q = 3
            · subst e; exact hkj
            · exact HN.out q h1 (by omega)
          · exact HB.out.alloc HB.out.size _
          · exact (((Below.refl _ _).alloc (Nat.le_refl _) _).block _ hlt).trans HZ.out
        case measure => simp [intOf]
    · by_cases hkj : k = 4
      · subst hkj
        have hsz := HB.out.size
        have hlt : w.heap.size < wr.heap.size := (Array.getElem?_eq_some_iff.1 HZ.out).1
        have hc0 : wr.cell? ⟨w.heap.size, 0, none⟩ = some (.int .i64 0) := cell_of_row wr w.heap.size 0 layZ 61 (0, 0) HZ.out
        have hc1 : wr.cell? ⟨w.heap.size, 1, none⟩ = some .nilFunc := cell_of_row wr w.heap.size 1 layZ 61 (0, 0) HZ.out
        have hc2 : wr.cell? ⟨w.heap.size, 2, none⟩ = some .nilFunc := cell_of_row wr w.heap.size 2 layZ 61 (0, 0) HZ.out
        have hf0 := frozen_of_row wr w.heap.size 0 layZ 61 HZ.out
        have hf1 := frozen_of_row wr w.heap.size 1 layZ 61 HZ.out
        have hf2 := frozen_of_row wr w.heap.size 2 layZ 61 HZ.out
        rw [show (((3 : Nat) : Int)) = 3 from rfl]
        have i3 := fun W => index_lay3 W
        go_wp2_with fail
        (try simp only [Exit.inBlock, Exit.then])
        refine bodyPost_ret (v := .tuple #[.agg #[.int .i64 4, .func (.func 62) #[] #[], .func (.func 63) #[] #[]], .bool true]) ?_ rfl ⟨rfl, ?_⟩
        · rw [results_cell_tmp1 rfl]; go_simp <;> rfl
        · exact (((HB.out.setCell (p := ⟨w.heap.size, 0, none⟩) (Nat.le_refl _) _).setCell (p := ⟨w.heap.size, 1, none⟩) (Nat.le_refl _) _).setCell (p := ⟨w.heap.size, 2, none⟩) (Nat.le_refl _) _).alloc (by simp; omega) _
      · have hsz := HB.out.size
        have hlt : w.heap.size < wr.heap.size := (Array.getElem?_eq_some_iff.1 HZ.out).1
        have hkj2 : ¬ ((4 : Int) = k) := fun h => hkj h.symm
        rw [show (((3 : Nat) : Int)) = 3 from rfl]
        have i3 := fun W => index_lay3 W
        go_wp2_with fail
        go_roundw
        case rel =>
          refine ⟨4, by omega, by go_num, Lib.hid (fun q h1 h2 => ?_), Lib.hid ?_, Lib.hid ?_⟩
          · by_cases e : q = 4
            · subst e; exact hkj
            · exact HN.out q h1 (by omega)
          · exact HB.out.alloc HB.out.size _
          · exact (((Below.refl _ _).alloc (Nat.le_refl _) _).block _ hlt).trans HZ.out
        case measure => simp [intOf]
    · have hR : Hid (layR k = .tuple #[.agg layZ, .bool false]) := Lib.hid (by
        unfold layR
        rw [if_neg]
        rintro ⟨h1, h2⟩
        exact HN.out k.toNat (by omega) (by omega) (by omega))
      have hlt : w.heap.size < wr.heap.size := (Array.getElem?_eq_some_iff.1 HZ.out).1
      have hc0 : wr.cell? ⟨w.heap.size, 0, none⟩ = some (.int .i64 0) := cell_of_row wr w.heap.size 0 layZ 61 (0, 0) HZ.out
      have hc1 : wr.cell? ⟨w.heap.size, 1, none⟩ = some .nilFunc := cell_of_row wr w.heap.size 1 layZ 61 (0, 0) HZ.out
      have hc2 : wr.cell? ⟨w.heap.size, 2, none⟩ = some .nilFunc := cell_of_row wr w.heap.size 2 layZ 61 (0, 0) HZ.out
      have hf0 := frozen_of_row wr w.heap.size 0 layZ 61 HZ.out
      have hf1 := frozen_of_row wr w.heap.size 1 layZ 61 HZ.out
      have hf2 := frozen_of_row wr w.heap.size 2 layZ 61 HZ.out
      rw [show (((4 : Nat) : Int)) = 4 from rfl]
      go_wp2_with fail
      (try simp only [Exit.inBlock, Exit.then])
      refine bodyPost_ret (v := .tuple #[.agg layZ, .bool false]) ?_ rfl ⟨by rw [hR.out], ?_⟩
      · rw [results_cell_tmp1 rfl]; go_simp <;> rfl
      · exact ((HB.out.setCell (p := ⟨w.heap.size, 0, none⟩) (Nat.le_refl _) _).setCell (p := ⟨w.heap.size, 1, none⟩) (Nat.le_refl _) _).setCell (p := ⟨w.heap.size, 2, none⟩) (Nat.le_refl _) _
end Go.Proofs.Ytomjgkflnfjjbaa
