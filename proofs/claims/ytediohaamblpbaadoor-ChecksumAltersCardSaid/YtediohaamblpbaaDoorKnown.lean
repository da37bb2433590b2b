/- The law's 'known': the examples of the chapter hold. -/
import Derived.Test.YtediohaamblpbaaDoorM
namespace Go.Proofs.YtediohaamblpbaaDoor
open Go.ChangeShapes Go.WideShapes Go.ChangeAt Go.RowKit Ck

def t4 : ByteArray := ⟨#[49, 50, 51, 52]⟩
def t5 : ByteArray := ⟨#[53, 54, 55, 56, 57]⟩
def t9 : ByteArray := ⟨#[49, 50, 51, 52, 53, 54, 55, 56, 57]⟩
theorem s4 : Ck.sum t4.data.toList = 4131058926#32 := by decide +kernel
theorem s5 : Ck.sum t5.data.toList = 2209703384#32 := by decide +kernel
theorem s9 : Ck.sum t9.data.toList = 3808858755#32 := by decide +kernel
theorem s0 : Ck.sum (ByteArray.data ⟨#[]⟩).toList = 0#32 := by decide +kernel
theorem c45 : comb 4131058926#32 2209703384#32 5 = 3808858755#32 := by decide +kernel
theorem w10 : word 1#64 0#64 = 16294208416658607535#64 := by decide +kernel
theorem i10 : Ck.inv 1#64 16294208416658607535#64 = 0#64 := by decide +kernel

theorem sum4 (w : World) (hT : Tab w) : Calls Tryd.prog 20 #[.string ⟨#[49, 50, 51, 52]⟩] w fun e w' => e = .returned (.int .u32 4131058926) ∧ w = w' := by
  have h := sum_any t4 (by decide) w hT
  rwa [s4] at h
theorem sum5 (w : World) (hT : Tab w) : Calls Tryd.prog 20 #[.string ⟨#[53, 54, 55, 56, 57]⟩] w fun e w' => e = .returned (.int .u32 2209703384) ∧ w = w' := by
  have h := sum_any t5 (by decide) w hT
  rwa [s5] at h
theorem sum9 (w : World) (hT : Tab w) : Calls Tryd.prog 20 #[.string ⟨#[49, 50, 51, 52, 53, 54, 55, 56, 57]⟩] w fun e w' => e = .returned (.int .u32 3808858755) ∧ w = w' := by
  have h := sum_any t9 (by decide) w hT
  rwa [s9] at h
theorem sum0 (w : World) (hT : Tab w) : Calls Tryd.prog 20 #[.string ⟨#[]⟩] w fun e w' => e = .returned (.int .u32 0) ∧ w = w' := by
  have h := sum_any ⟨#[]⟩ (by decide) w hT
  rwa [s0] at h
theorem comb45 (w : World) (hT : Tab w) : Calls Tryd.prog 24 #[.int .u32 4131058926, .int .u32 2209703384, .int .i64 5] w fun e w' => e = .returned (.tuple #[.int .u32 3808858755, .int .i64 0]) ∧ Below w.heap.size w w' := by
  have h := comb_any 4131058926#32 2209703384#32 _ _ rfl rfl 5 (by decide) w hT
  rwa [c45] at h
theorem word10 (w : World) : Calls Tryd.prog 13 #[.int .u64 1, .int .u64 0] w fun e w' => e = .returned (.int .u64 16294208416658607535) ∧ w = w' := by
  have h := word_any 1#64 0#64 w
  rwa [w10] at h
theorem inv10 (w : World) : Calls Tryd.prog 16 #[.int .u64 1, .int .u64 16294208416658607535] w fun e w' => e = .returned (.int .u64 0) ∧ ∃ n, w' = w.drewN n := by
  have h := inverse_any 1#64 16294208416658607535#64 w
  rwa [i10] at h
theorem below_drewN {B : Nat} {a w : World} (h : Below B a w) (n : Nat) : Below B a (w.drewN n) := ⟨h.os, h.tape, h.output, h.size, h.block⟩

theorem known_any (w : World) (hT : Tab w) :
    Calls Tryd.prog 14 #[] w fun e w' => e = .returned (.bool true) ∧ Below w.heap.size w w' := by
  have HT := Lib.hid hT
  clear hT
  go_enter Tryd.func14, Tryd.ntmps14
  go_wp2_with fail
  refine (sum4 _ HT.out).mono ?_
  rintro e w' ⟨rfl, rfl⟩
  go_wp2_with fail
  refine (sum5 _ HT.out).mono ?_
  rintro e w' ⟨rfl, rfl⟩
  go_wp2_with fail
  refine (comb45 _ HT.out).mono ?_
  rintro e w1 ⟨rfl, hb⟩
  have Hb := Lib.hid hb
  have HT1 := Lib.hid (HT.out.below hb)
  clear hb
  go_wp2_with fail
  refine (sum9 _ HT1.out).mono ?_
  rintro e w' ⟨rfl, rfl⟩
  go_wp2_with fail
  refine (sum0 _ HT1.out).mono ?_
  rintro e w' ⟨rfl, rfl⟩
  go_wp2_with fail
  refine (word10 _).mono ?_
  rintro e w' ⟨rfl, rfl⟩
  go_wp2_with fail
  refine (inv10 _).mono ?_
  rintro e w' ⟨rfl, n, rfl⟩
  go_wp2_with fail
  go_ret
  exact ⟨rfl, below_drewN Hb.out n⟩
end Go.Proofs.YtediohaamblpbaaDoor
