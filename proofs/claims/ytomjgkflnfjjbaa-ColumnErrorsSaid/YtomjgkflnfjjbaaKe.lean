/- form: the form that a layout writes, over what its function writes. -/
import Derived.Test.YtomjgkflnfjjbaaKd
import Derived.Test.YtomjgkflnfjjbaaWb
namespace Go.Proofs.Ytomjgkflnfjjbaa
open Go.ChangeShapes Go.WideShapes Go.ChangeAt Go.RowKit En

theorem blk_under (w : World) (o o' : Obj) : ((w.alloc o).alloc o').heap[w.heap.size]? = some o := (Below.heap_alloc _ _ _ (by simp)).trans (Deep.blk_alloc_new w _)
theorem blk_over (w : World) (o o' : Obj) : ((w.alloc o).alloc o').heap[w.heap.size + 1]? = some o' := by
  have := Deep.blk_alloc_new (w.alloc o) o'
  rwa [World.size_alloc] at this
set_option maxRecDepth 100000 in
set_option maxHeartbeats 2000000 in
theorem form_any (F G : Nat) (k : Int) (hk : 1 ≤ k ∧ k ≤ 4) (P : List (List UInt8)) (hP : ∀ f ∈ P, 0 < f.length) (htot : total P ≤ 1000000) (A : Option Addr) (n c : Nat) (w : World)
    (hcall : ∀ g W, w.heap.size ≤ g → Below w.heap.size w W → WS W g [num k] → Calls Try.prog F #[.pointer (some ⟨g, 0, none⟩), .slice A n c] W fun e w' => e = .returned (.tuple #[]) ∧ WS w' g P ∧ Below w.heap.size w w')
    (hE : ∀ args W, (callFunc F args).run Try.prog W = .ok (.enter F args) W) :
    Calls Try.prog 29 #[.agg #[.int .i64 k, .func (.func F) #[] #[], .func (.func G) #[] #[]], .slice A n c] w fun e w' => e = .returned (.string ⟨(whole P).toArray⟩) ∧ Below w.heap.size w w' := by
  have hb0 := blk_over w (.cells #[.int .i64 k, .func (.func F) #[] #[], .func (.func G) #[] #[]] 61) (.cells #[.pointer none, .int .i64 0] 86)
  have hk1 := blk_under w (.cells #[.int .i64 k, .func (.func F) #[] #[], .func (.func G) #[] #[]] 61) (.cells #[.pointer none, .int .i64 0] 86)
  have hB2 : Below w.heap.size w ((w.alloc (.cells #[.int .i64 k, .func (.func F) #[] #[], .func (.func G) #[] #[]] 61)).alloc (.cells #[.pointer none, .int .i64 0] 86)) := ((Below.refl _ _).alloc (Nat.le_refl _) _).alloc (by simp) _
  have hz : ((w.alloc (.cells #[.int .i64 k, .func (.func F) #[] #[], .func (.func G) #[] #[]] 61)).alloc (.cells #[.pointer none, .int .i64 0] 86)).heap.size = w.heap.size + 1 + 1 := by simp
  have HW0 : Hid (WS ((w.alloc (.cells #[.int .i64 k, .func (.func F) #[] #[], .func (.func G) #[] #[]] 61)).alloc (.cells #[.pointer none, .int .i64 0] 86)) (w.heap.size + 1) []) := Lib.hid ⟨.pointer none, hb0, rfl⟩
  have HB2 := Lib.hid hB2
  have HK1 := Lib.hid hk1
  have HC := Lib.hid hcall
  have HP := Lib.hid hP
  clear hb0 hk1 hB2 hcall hP
  go_enter Try.func29, Try.ntmps29
  go_wp2_with fail
  refine (w_number (w.heap.size + 1) [] k (by omega) (by omega) (by decide) _ HW0.out).mono ?_
  rintro e w1 ⟨rfl, hws, hg⟩
  have HB1 := Lib.hid (HB2.out.grown hg (by rw [hz]; omega) (by intro k h; cases h; omega))
  have HK := Lib.hid ((hg.block w.heap.size (by rw [hz]; omega) (by intro h; injection h with h; omega)).trans HK1.out)
  have hcl : w1.cell? ⟨w.heap.size, 1, none⟩ = some (.func (.func F) #[] #[]) := by simp [World.cell?, HK.out]
  have H1 := Lib.hid (HC.out (w.heap.size + 1) w1 (by omega) HB1.out hws)
  clear hws hg
  go_wp2_with fail
  refine H1.out.mono ?_
  rintro e w2 ⟨rfl, hws, hb⟩
  have HB3 := Lib.hid hb
  have H2 := Lib.hid (w_bytes (w.heap.size + 1) P HP.out htot w2 hws)
  clear hws hb
  go_wp2_with fail
  refine H2.out.mono ?_
  rintro e w3 ⟨rfl, hb⟩
  have HB4 := Lib.hid (HB3.out.trans (hb.mono HB3.out.size))
  clear hb
  go_wp2_with fail
  go_ret
  exact ⟨rfl, HB4.out⟩
end Go.Proofs.Ytomjgkflnfjjbaa
