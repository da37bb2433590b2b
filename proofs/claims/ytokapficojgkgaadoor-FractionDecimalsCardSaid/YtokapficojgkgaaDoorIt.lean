
/- The table of powers that strconv reads, strconv.Itoa, the program's Print. -/
import Derived.Test.YtokapficojgkgaaDoorDg
import Derived.Test.YtokapficojgkgaaDoorShelf
import Derived.Lib.LaidTab
import Derived.Lib.SmallJoins
import Derived.Lib.QuietBelow
import Derived.Lib.Hide
import Derived.Sort.Grow
namespace Go.Proofs.YtokapficojgkgaaDoor
open Go.ChangeShapes Go.WideShapes Go.ChangeAt Go.RowKit Pl

def Tb (w : World) : Prop := Lib.TabIs Tryd.prog w "internal/strconv.uint64pow10" .u64 Lib.pow10Tab
theorem gPow : Tryd.prog.globalNamed "internal/strconv.uint64pow10" = some 0 := by kernel_rfl
theorem Tb.below {w w' : World} (h : Tb w) (hb : Below w.heap.size w w') : Tb w' := Joins.tab_stays gPow h hb (Nat.le_refl _)
def bsI (n : Int) : ByteArray := ⟨(Lib.itoa n).toArray⟩
theorem below_growN (w : World) (k : Nat) (os : Array Obj) : Below w.heap.size w (Go.Sort.grow (w.drewN k) os) :=
  ⟨rfl, rfl, rfl, by show w.heap.size ≤ (w.heap ++ os).size; rw [Array.size_append]; omega, fun j hj => by show (w.heap ++ os)[j]? = w.heap[j]?; rw [Array.getElem?_append_left hj]⟩
theorem itoa_any (n : Int) (h0 : -9223372036854775808 ≤ n) (h1 : n ≤ 9223372036854775807) (w : World) (ht : Tb w) :
    Calls Tryd.prog 18 #[.int .i64 n] w fun e w' => e = .returned (.string (bsI n)) ∧ Below w.heap.size w w' :=
  (Tryd.strconv_Itoa n h0 h1 w ht).mono fun e w' ⟨h, k, os, hw⟩ => ⟨h, by subst hw; exact below_growN w k os⟩
def slB : ByteArray := ⟨#[47]⟩
def prB (n d : Int) : ByteArray := if d = 1 then bsI n else bsI n ++ slB ++ bsI d
theorem bsI_size (n : Int) (h0 : -1048576 ≤ n) (h1 : n ≤ 1048576) : (bsI n).size ≤ 8 := by
  show (Lib.itoa n).toArray.size ≤ 8
  rw [List.size_toArray]
  unfold Lib.itoa
  by_cases h : n < 0
  · rw [if_pos h, List.length_cons, dec_len]
    have := nd_le (k := 6) (u := n.natAbs) (by omega)
    omega
  · rw [if_neg h, dec_len]
    have := nd_le (k := 6) (u := n.toNat) (by omega)
    omega
set_option maxRecDepth 100000 in
theorem print_one (n : Int) (h0 : -1048576 ≤ n) (h1 : n ≤ 1048576) (w : World) (ht : Tb w) :
    Calls Tryd.prog 7 #[.agg #[.int .i64 n, .int .i64 1]] w fun e w' => e = .returned (.string (prB n 1)) ∧ Below w.heap.size w w' := by
  have e1 : prB n 1 = bsI n := if_pos rfl
  have hb1 : Below w.heap.size w (w.alloc (.cells #[.int .i64 n, .int .i64 1] 23)) := (Below.refl _ _).alloc (Nat.le_refl _) _
  have HI := Lib.hid (itoa_any n (by omega) (by omega) _ (ht.below hb1))
  have HB1 := Lib.hid hb1
  rw [e1]
  clear e1 ht hb1
  go_enter Tryd.func7, Tryd.ntmps7
  go_wp2_with fail
  refine HI.out.mono ?_
  rintro e w1 ⟨rfl, hb⟩
  have HB := Lib.hid (HB1.out.trans (hb.mono (by simp)))
  clear hb
  go_wp2_with fail
  go_ret
  exact ⟨rfl, HB.out⟩
set_option maxRecDepth 100000 in
theorem print_two (n d : Int) (hd : d ≠ 1) (h0 : -1048576 ≤ n) (h1 : n ≤ 1048576) (h2 : 1 ≤ d) (h3 : d ≤ 1048576) (w : World) (ht : Tb w) :
    Calls Tryd.prog 7 #[.agg #[.int .i64 n, .int .i64 d]] w fun e w' => e = .returned (.string (prB n d)) ∧ Below w.heap.size w w' := by
  have e1 : prB n d = bsI n ++ slB ++ bsI d := if_neg hd
  have z1 := bsI_size n h0 h1
  have z2 := bsI_size d (by omega) h3
  have hb1 : Below w.heap.size w (w.alloc (.cells #[.int .i64 n, .int .i64 d] 23)) := (Below.refl _ _).alloc (Nat.le_refl _) _
  obtain ⟨W, hW⟩ : ∃ W, W = w.alloc (.cells #[.int .i64 n, .int .i64 d] 23) := ⟨_, rfl⟩
  have hT : Tb W := by rw [hW]; exact ht.below hb1
  have C1 : Hid (∀ e os, Calls Tryd.prog 18 #[.int .i64 n] (Go.Sort.grow (redrawn W e) os) fun e w'' => e = .returned (.string (bsI n)) ∧ ∃ p : Regrown, w'' = Go.Sort.grow (redrawn W p.d) p.os) := Lib.hid (fun e os => Calls.regrown_of (itoa_any n (by omega) (by omega) _ (hT.below (below_regrown W e os))))
  have C2 : Hid (∀ e os, Calls Tryd.prog 18 #[.int .i64 d] (Go.Sort.grow (redrawn W e) os) fun e w'' => e = .returned (.string (bsI d)) ∧ ∃ p : Regrown, w'' = Go.Sort.grow (redrawn W p.d) p.os) := Lib.hid (fun e os => Calls.regrown_of (itoa_any d (by omega) (by omega) _ (hT.below (below_regrown W e os))))
  have HB1 : Hid (Below w.heap.size w W) := Lib.hid (by rw [hW]; exact hb1)
  have c0 : W.cell? ⟨w.heap.size, 0, none⟩ = some (.int .i64 n) := by rw [hW]; exact (cell_of_row _ _ 0 _ _ _ (Deep.blk_alloc_new w _)).trans rfl
  have c1 : W.cell? ⟨w.heap.size, 1, none⟩ = some (.int .i64 d) := by rw [hW]; exact (cell_of_row _ _ 1 _ _ _ (Deep.blk_alloc_new w _)).trans rfl
  have k0 := cell_regrown c0
  have k1 := cell_regrown c1
  have n1 : ¬ 9223372036854775807 < (bsI n).size + 1 := by omega
  have n2 : ¬ 9223372036854775807 < (bsI n).size + 1 + (bsI d).size := by omega
  have hdb : (d == 1) = false := by simpa using hd
  rw [e1]
  clear e1 ht hb1 hT
  go_enter Tryd.func7, Tryd.ntmps7
  go_wp2_with fail
  rw [← hW]
  clear hW
  refine wp_region_quiet_below (by kernel_rfl) (by kernel_rfl) ?_
  repeat (go_big_quiet_step ((first | with_reducible exact C1.out _ _ | with_reducible exact C2.out _ _)))
  refine wpQuiet_nil ?_
  intro _ hw'
  obtain ⟨⟨dq, osq⟩, hw''⟩ := hw'
  subst hw''
  go_wp2_with fail
  go_ret
  exact ⟨rfl, HB1.out.trans ((below_regrown W dq osq).mono HB1.out.size)⟩
end Go.Proofs.YtokapficojgkgaaDoor
