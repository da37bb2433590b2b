/- The reference's forms: Bool, Text, Ref. -/
import Derived.Test.YtepcihfkkeahhaaRs
import Derived.Test.YtepcihfkkeahhaaRn
namespace Go.Proofs.Ytepcihfkkeahhaa
open Go.ChangeShapes Go.WideShapes Go.ChangeAt Go.RowKit En

theorem bytesOf_size (l : List UInt8) : (bytesOf l).size = l.length := by show l.toArray.size = _; simp
theorem bytesOf_append (a b : List UInt8) : bytesOf a ++ bytesOf b = bytesOf (a ++ b) := by
  apply ByteArray.ext; simp [bytesOf]
theorem bytesOf_data (s : ByteArray) : bytesOf s.data.toList = s := rfl
theorem num_le (n : Int) (h : In64 n) : (bytesOf (num n)).size ≤ 9 := by rw [bytesOf_size]; exact (num_bounds n h.1 h.2).2
theorem ref_bool (b : Bool) (w : World) :
    Calls Try.prog 65 #[.bool b] w fun e w' => e = .returned (.string (bytesOf (boolF b))) ∧ Below w.heap.size w w' := by
  cases b with
  | true =>
    have H := ref_number 1 ⟨by omega, by omega⟩ w
    rw [show (⟨(num 1).toArray⟩ : ByteArray) = bytesOf (boolF true) from rfl] at H
    obtain ⟨X, hX⟩ : ∃ X, X = bytesOf (boolF true) := ⟨_, rfl⟩
    rw [← hX] at H ⊢
    clear hX
    go_enter Try.func65, Try.ntmps65
    go_wp2_with fail
    refine H.mono ?_
    rintro e w1 ⟨rfl, hb⟩
    have HB := Lib.hid hb
    clear hb
    go_wp2_with fail
    go_ret
    exact ⟨rfl, HB.out⟩
  | false =>
    have H := ref_number 0 ⟨by omega, by omega⟩ w
    rw [show (⟨(num 0).toArray⟩ : ByteArray) = bytesOf (boolF false) from rfl] at H
    obtain ⟨X, hX⟩ : ∃ X, X = bytesOf (boolF false) := ⟨_, rfl⟩
    rw [← hX] at H ⊢
    clear hX
    go_enter Try.func65, Try.ntmps65
    go_wp2_with fail
    refine H.mono ?_
    rintro e w1 ⟨rfl, hb⟩
    have HB := Lib.hid hb
    clear hb
    go_wp2_with fail
    go_ret
    exact ⟨rfl, HB.out⟩
theorem ref_text (s : ByteArray) (hs : s.size ≤ 1000000) (w : World) :
    Calls Try.prog 66 #[.string s] w fun e w' => e = .returned (.string (bytesOf (text s))) ∧ Below w.heap.size w w' := by
  have H := ref_number (s.size : Int) ⟨by omega, by omega⟩ w
  have hl := num_le (s.size : Int) ⟨by omega, by omega⟩
  have e0 : bytesOf (num s.size) ++ s = bytesOf (text s) := by
    unfold text
    rw [← bytesOf_append, bytesOf_data]
  rw [show (⟨(num s.size).toArray⟩ : ByteArray) = bytesOf (num s.size) from rfl] at H
  obtain ⟨X, hX⟩ : ∃ X, X = bytesOf (num s.size) := ⟨_, rfl⟩
  obtain ⟨Y, hY⟩ : ∃ Y, Y = bytesOf (text s) := ⟨_, rfl⟩
  rw [← hX] at H e0 hl
  rw [← hY] at e0 ⊢
  have E0 := Lib.hid e0
  clear hX hY e0
  go_enter Try.func66, Try.ntmps66
  go_wp2_with fail
  refine H.mono ?_
  rintro e w1 ⟨rfl, hb⟩
  have HB := Lib.hid hb
  clear hb
  go_wp2_with fail

  go_ret
  exact ⟨by rw [← E0.out]; rfl, HB.out⟩
/-- What the reference's Number returns in a region. -/
def NumC (W : World) : Prop := ∀ (n : Int) (d : Nat) (os : Array Obj), In64 n → Calls Try.prog 16 #[.int .i64 n] (Go.Sort.grow (redrawn W d) os) fun e w'' => e = .returned (.string (bytesOf (num n))) ∧ ∃ p : Regrown, w'' = Go.Sort.grow (redrawn W p.d) p.os
theorem num_c (W : World) : NumC W := fun n _ _ hn => Calls.regrown_of (ref_number n hn _)
set_option maxRecDepth 100000 in
theorem ref_ref (x y : Int) (hx : In64 x) (hy : In64 y) (w : World) :
    Calls Try.prog 71 #[.agg #[.int .i64 x, .int .i64 y]] w fun e w' => e = .returned (.string (bytesOf (nums [x, y]))) ∧ Below w.heap.size w w' := by
  have hl1 := num_le x hx
  have hl2 := num_le y hy
  have e0 : bytesOf (num x) ++ bytesOf (num y) = bytesOf (nums [x, y]) := by rw [bytesOf_append]; simp [nums]
  obtain ⟨Z, hZ⟩ : ∃ X, X = bytesOf (nums [x, y]) := ⟨_, rfl⟩
  rw [← hZ] at e0 ⊢
  have E0 := Lib.hid e0
  clear hZ e0
  have hblk := Deep.blk_alloc_new w (.cells #[.int .i64 x, .int .i64 y] 83)
  have c0 := cell_of_row _ w.heap.size 0 _ _ _ hblk
  have c1 := cell_of_row _ w.heap.size 1 _ _ _ hblk
  have cG0 : ∀ d os, (Go.Sort.grow (redrawn (w.alloc (.cells #[.int .i64 x, .int .i64 y] 83)) d) os).cell? ⟨w.heap.size, 0, none⟩ = some (.int .i64 x) := fun d os => cell_regrown c0 d os
  have cG1 : ∀ d os, (Go.Sort.grow (redrawn (w.alloc (.cells #[.int .i64 x, .int .i64 y] 83)) d) os).cell? ⟨w.heap.size, 1, none⟩ = some (.int .i64 y) := fun d os => cell_regrown c1 d os
  have C : Hid (NumC (w.alloc (.cells #[.int .i64 x, .int .i64 y] 83))) := Lib.hid (num_c _)
  clear hblk c0 c1
  go_enter Try.func71, Try.ntmps71
  go_wp2_with fail
  refine wp_region_quiet_below (by kernel_rfl) (by kernel_rfl) ?_
  repeat (go_big_quiet_step ((exact C.out _ _ _ (by assumption))))
  refine wpQuiet_nil ?_
  intro _ hw'
  obtain ⟨⟨dq, osq⟩, hw''⟩ := hw'
  subst hw''
  have HB := Lib.hid (below_regrown (w.alloc (.cells #[.int .i64 x, .int .i64 y] 83)) dq osq)
  clear cG0 cG1
  generalize Go.Sort.grow (redrawn (w.alloc (.cells #[.int .i64 x, .int .i64 y] 83)) dq) osq = wg at *
  go_wp2_with fail
  go_ret
  refine ⟨by rw [← E0.out]; rfl, ?_⟩
  exact Below.trans ((Below.refl w.heap.size w).alloc (Nat.le_refl _) _) (HB.out.mono (by simp))
end Go.Proofs.Ytepcihfkkeahhaa
