/- EncodeAs, over what the form of the kind is. -/
import Derived.Test.YtomjgkflnfjjbaaKh
namespace Go.Proofs.Ytomjgkflnfjjbaa
open Go.ChangeShapes Go.WideShapes Go.ChangeAt Go.RowKit En

set_option maxRecDepth 100000 in
theorem as_kind (k : Int) (hk : -9223372036854775808 ≤ k ∧ k ≤ 9223372036854775807) (hk2 : ¬ (1 ≤ k ∧ k ≤ 4)) (A : Option Addr) (n c : Nat) (w : World) :
    Calls Try.prog 10 #[.int .i64 k, .slice A n c] w fun e w' => e = .returned (.tuple #[.string ⟨#[]⟩, .int .i64 12]) ∧ Below w.heap.size w w' := by
  have H := Lib.hid (fun W => layoutOf_any k hk W)
  rw [show layR k = .tuple #[.agg layZ, .bool false] from if_neg hk2] at H
  unfold layZ at H
  go_enter Try.func10, Try.ntmps10
  go_wp2_with fail
  refine (H.out _).mono ?_
  rintro e w1 ⟨rfl, hb⟩
  have HB1 := Lib.hid hb
  clear hb
  go_wp2_with fail
  exact bodyPost_ret (results_tmp2 rfl _ _ _) rfl ⟨rfl, HB1.out.alloc HB1.out.size _⟩
set_option maxRecDepth 100000 in
theorem as_bad (k : Int) (hk2 : 1 ≤ k ∧ k ≤ 4) (A : Option Addr) (c : Nat) (L : List Int) (hl : L.length ≤ 1000000) (hb : chkV L ≠ 0) (w : World) (hR : Rd (Value.int .i64) w A L) :
    Calls Try.prog 10 #[.int .i64 k, .slice A L.length c] w fun e w' => e = .returned (.tuple #[.string ⟨#[]⟩, .int .i64 (chkV L)]) ∧ Below w.heap.size w w' := by
  have H := Lib.hid (fun W => layoutOf_any k (by omega) W)
  rw [show layR k = .tuple #[.agg (layV k), .bool true] from if_pos hk2] at H
  unfold layV at H
  obtain ⟨F, hF⟩ : ∃ F, F = wrF k := ⟨_, rfl⟩
  obtain ⟨G, hG⟩ : ∃ G, G = rdF k := ⟨_, rfl⟩
  rw [← hF, ← hG] at H
  have HR := Lib.hid hR
  have HC := Lib.hid (fun W h => check_any A c L hl W h)
  obtain ⟨z, hz⟩ : ∃ z, z = chkV L := ⟨_, rfl⟩
  rw [← hz] at HC hb ⊢
  clear hF hG hR hz
  go_enter Try.func10, Try.ntmps10
  go_wp2_with fail
  refine (H.out _).mono ?_
  rintro e w1 ⟨rfl, hb⟩
  have HB1 := Lib.hid (hb.alloc hb.size (.cells #[.int .i64 k, .func (.func F) #[] #[], .func (.func G) #[] #[]] 61))
  clear hb
  go_wp2_with fail
  refine (HC.out _ (HR.out.below HB1.out)).mono ?_
  rintro e w2 ⟨rfl, hw⟩
  subst hw
  go_wp2_with fail
  exact bodyPost_ret (results_tmp2 rfl _ _ _) rfl ⟨rfl, HB1.out⟩
set_option maxRecDepth 100000 in
theorem as_ok (k : Int) (hk2 : 1 ≤ k ∧ k ≤ 4) (A : Option Addr) (c : Nat) (L : List Int) (hl : L.length ≤ 1000000) (hb : chkV L = 0) (S : ByteArray) (w : World) (hR : Rd (Value.int .i64) w A L)
    (hf : ∀ W, Below w.heap.size w W → Calls Try.prog 29 #[.agg (layV k), .slice A L.length c] W fun e w' => e = .returned (.string S) ∧ Below W.heap.size W w') :
    Calls Try.prog 10 #[.int .i64 k, .slice A L.length c] w fun e w' => e = .returned (.tuple #[.string S, .int .i64 0]) ∧ Below w.heap.size w w' := by
  have H := Lib.hid (fun W => layoutOf_any k (by omega) W)
  rw [show layR k = .tuple #[.agg (layV k), .bool true] from if_pos hk2] at H
  have HF := Lib.hid hf
  unfold layV at H HF
  obtain ⟨F, hF⟩ : ∃ F, F = wrF k := ⟨_, rfl⟩
  obtain ⟨G, hG⟩ : ∃ G, G = rdF k := ⟨_, rfl⟩
  rw [← hF, ← hG] at H HF
  have HR := Lib.hid hR
  have HC := Lib.hid (fun W h => check_any A c L hl W h)
  rw [hb] at HC
  clear hF hG hR hb hf
  go_enter Try.func10, Try.ntmps10
  go_wp2_with fail
  refine (H.out _).mono ?_
  rintro e w1 ⟨rfl, hb⟩
  have HB1 := Lib.hid (hb.alloc hb.size (.cells #[.int .i64 k, .func (.func F) #[] #[], .func (.func G) #[] #[]] 61))
  clear hb
  go_wp2_with fail
  refine (HC.out _ (HR.out.below HB1.out)).mono ?_
  rintro e w2 ⟨rfl, hw⟩
  subst hw
  go_wp2_with fail
  refine (HF.out _ HB1.out).mono ?_
  rintro e w3 ⟨rfl, hb3⟩
  have HB3 := Lib.hid (HB1.out.trans (hb3.mono HB1.out.size))
  clear hb3
  go_wp2_with fail
  exact bodyPost_ret (results_tmp2 rfl _ _ _) rfl ⟨rfl, HB3.out⟩
end Go.Proofs.Ytomjgkflnfjjbaa
