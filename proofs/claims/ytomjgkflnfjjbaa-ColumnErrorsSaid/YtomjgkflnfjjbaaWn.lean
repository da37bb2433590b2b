/- The Writer's Number. -/
import Derived.Test.YtomjgkflnfjjbaaWr
namespace Go.Proofs.Ytomjgkflnfjjbaa
open Go.ChangeShapes Go.WideShapes Go.ChangeAt Go.RowKit En

theorem num_bounds (n : Int) (h1 : -9223372036854775808 ≤ n) (h2 : n ≤ 9223372036854775807) : 0 < (num n).length ∧ (num n).length ≤ 9 := by
  have := sz_le n.natAbs (by omega)
  rw [num_len]; omega
theorem w_number (g : Nat) (fs : List (List UInt8)) (n : Int) (h1 : -9223372036854775808 ≤ n) (h2 : n ≤ 9223372036854775807) (htot : total fs ≤ 1000000) (w : World) (hW : WS w g fs) :
    Calls Try.prog 47 #[.pointer (some ⟨g, 0, none⟩), .int .i64 n] w fun e w' => e = .returned (.tuple #[]) ∧ WS w' g (num n :: fs) ∧ w.grownBy w' (some g) := by
  have HW := Lib.hid hW
  have hglt := hW.lt
  have Hn := Lib.hid (num_bounds n h1 h2)
  have Hnil : Hid (w.ownsRow w.heap.size 5 1 (.slice none 0 0) 0 (List.map u8v [])) := Lib.hid (by exact ⟨rfl, Or.inl ⟨rfl, rfl⟩⟩)
  clear hW
  go_enter Try.func47, Try.ntmps47
  go_wp2_with fail
  refine (append_number w.heap.size _ 0 [] (by omega) n h1 h2 w (Nat.le_refl _) Hnil.out).mono ?_
  rintro e w1 ⟨⟨v, hown, rfl⟩, hB, _⟩
  have HW1 := Lib.hid (HW.out.below hB)
  have Hown : Hid (w1.ownsRow w.heap.size 5 1 v (num n).length ((num n).map u8v)) := Lib.hid (by rw [Nat.zero_add, List.nil_append] at hown; exact hown)
  have HB := Lib.hid hB
  clear hown hB
  go_wp2_with fail
  refine (add_any g fs (num n) _ v Hn.out.1 (by have := Hn.out.2; omega) (by omega) w1 HW1.out Hown.out).mono ?_
  rintro e w2 ⟨rfl, hWS, hgr⟩
  go_wp2_with fail
  go_end0
  exact ⟨rfl, hWS, hgr.os.trans HB.out.os, hgr.tape.trans HB.out.tape, hgr.output.trans HB.out.output, Nat.le_trans HB.out.size hgr.size, fun i hi hne => (hgr.block i (by have := HB.out.size; omega) hne).trans (HB.out.block i hi)⟩
end Go.Proofs.Ytomjgkflnfjjbaa
