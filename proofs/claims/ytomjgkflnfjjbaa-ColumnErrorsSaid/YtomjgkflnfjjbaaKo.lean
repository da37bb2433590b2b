/- EncodeAs at any kind, Encode, known. -/
import Derived.Test.YtomjgkflnfjjbaaKn
namespace Go.Proofs.Ytomjgkflnfjjbaa
open Go.ChangeShapes Go.WideShapes Go.ChangeAt Go.RowKit En

theorem as_form (k : Int) (hk : 1 ≤ k ∧ k ≤ 4) (A : Option Addr) (c : Nat) (L : List Int) (hb : chkV L = 0) (w : World) (hR : Rd (Value.int .i64) w A L) :
    Calls Try.prog 10 #[.int .i64 k, .slice A L.length c] w fun e w' => e = .returned (.tuple #[.string (fmB k L), .int .i64 0]) ∧ Below w.heap.size w w' := by
  obtain ⟨hl, hv⟩ := chkV_ok hb
  exact as_ok k hk A c L (by omega) hb (fmB k L) w hR (fun W hB => form_of k hk A c L hl hv W (hR.below hB))
set_option maxRecDepth 100000 in
theorem encode_any (q : Nat) (L : List Int) (hb : chkV L = 0) (w : World) (hC : Cl w q L) :
    Calls Try.prog 16 #[.pointer (some ⟨q, 0, none⟩)] w fun e w' => e = .returned (.string (bsF L 4).2) ∧ Below w.heap.size w w' := by
  obtain ⟨hl, hv⟩ := chkV_ok hb
  obtain ⟨A, c, h1, h2⟩ := hC
  have c0 := cell_of_row w q 0 _ _ _ h1
  have H := Lib.hid (shortest_any A c L hl hv w h2)
  clear hb h1 h2 hv
  go_enter Try.func16, Try.ntmps16
  go_wp2_with fail
  refine H.out.mono ?_
  rintro e w1 ⟨rfl, hb⟩
  go_wp2_with fail
  go_ret
  exact ⟨rfl, hb⟩
theorem rd_new (w : World) (L : List Int) (t : TypeId) : Rd (Value.int .i64) (w.alloc (.cells (L.map (Value.int .i64)).toArray t)) (some ⟨w.heap.size, 0, none⟩) L := fun k hk => by
  refine ⟨_, _, rfl, by simp, ?_⟩
  rw [cell_of_row _ _ _ _ _ _ (Deep.blk_alloc_new w _)]
  simp [hk]
theorem known1 : (bsF [5, 5, 5] 4).2 = ⟨#[129, 2, 129, 3, 129, 5, 128, 128]⟩ := by kernel_rfl
theorem known2 : fmB 4 [3, 0, 2, 1] = ⟨#[129, 4, 129, 4, 128, 129, 2, 129, 1, 99]⟩ := by kernel_rfl
set_option maxRecDepth 100000 in
set_option maxHeartbeats 2000000 in
theorem known_any (w : World) : Calls Try.prog 7 #[] w fun e w' => e = .returned (.bool true) ∧ Below w.heap.size w w' := by
  have H1 := Lib.hid (fun W A c (h : Rd (Value.int .i64) W A [5, 5, 5]) => new_ok A c [5, 5, 5] (by decide) (by kernel_rfl) W h)
  have H2 := Lib.hid (fun W A c (h : Rd (Value.int .i64) W A [3, 0, 2, 1]) => as_form 4 (by omega) A c [3, 0, 2, 1] (by kernel_rfl) W h)
  have H3 := Lib.hid (fun W q (h : Cl W q [5, 5, 5]) => encode_any q [5, 5, 5] (by kernel_rfl) W h)
  rw [known1] at H3
  rw [known2] at H2
  have HR1 := Lib.hid (rd_new w [5, 5, 5] 3)
  have HR2 := Lib.hid (fun W => rd_new W [3, 0, 2, 1] 3)
  go_enter Try.func7, Try.ntmps7
  go_wp2_with fail
  refine (H1.out _ _ 3 HR1.out).mono ?_
  rintro e w1 ⟨⟨q, rfl, hc⟩, hb⟩
  have HC1 := Lib.hid hc
  have HB1 : Hid (Below w.heap.size w w1) := Lib.hid (((Below.refl _ _).alloc (Nat.le_refl _) _).trans (hb.mono (by simp)))
  clear hc hb
  go_wp2_with fail
  refine (H2.out _ _ 4 (HR2.out w1)).mono ?_
  rintro e w2 ⟨rfl, hb⟩
  have HB12 : Hid (Below w1.heap.size w1 w2) := Lib.hid (((Below.refl _ _).alloc (Nat.le_refl _) _).trans (hb.mono (by simp)))
  have HC2 := Lib.hid (HC1.out.below HB12.out)
  have HB2 := Lib.hid (HB1.out.trans (HB12.out.mono HB1.out.size))
  clear hb
  go_wp2_with fail
  refine (H3.out _ q HC2.out).mono ?_
  rintro e w3 ⟨rfl, hb⟩
  have HB3 := Lib.hid (HB2.out.trans (hb.mono HB2.out.size))
  clear hb
  go_wp2_with fail
  go_ret
  exact ⟨rfl, HB3.out⟩
end Go.Proofs.Ytomjgkflnfjjbaa
