/- slices.Clone of numbers, New. -/
import Derived.Test.YtomjgkflnfjjbaaKg
namespace Go.Proofs.Ytomjgkflnfjjbaa
open Go.ChangeShapes Go.WideShapes Go.ChangeAt Go.RowKit En

theorem clone_any (A : Option Addr) (c : Nat) (L : List Int) (hl : L.length ≤ 1000000) (w : World) (hR : Rd (Value.int .i64) w A L) :
    Calls Try.prog 27 #[.slice A L.length c] w fun e w' => (∃ A' c', e = .returned (.slice A' L.length c') ∧ Rd (Value.int .i64) w' A' L) ∧ Below w.heap.size w w' := by
  by_cases h0 : L.length = 0
  · obtain rfl : L = [] := List.eq_nil_of_length_eq_zero h0
    cases A with
    | none =>
      refine (Try.slices_Clone_int_nil 0 c w).mono ?_
      rintro e w' ⟨rfl, rfl⟩
      exact ⟨⟨_, _, rfl, Rd.nil⟩, Below.refl _ _⟩
    | some a =>
      refine (Try.slices_Clone_int_zero a c w).mono ?_
      rintro e w' ⟨v, rfl, ho, _, hb⟩
      obtain ⟨A', c', rfl, _⟩ := own_slice ho
      exact ⟨⟨_, _, rfl, Rd.nil⟩, hb⟩
  · obtain ⟨b, off, rfl, _, _⟩ := int_at hR 0 (by omega)
    refine (Try.slices_Clone_int b off L.length c L w (Nat.le_refl _) (by omega) (fun j hj => by
      obtain ⟨b', off', e, _, h⟩ := int_at hR j hj
      cases e
      rw [h, show L.getD j 0 = L[j] by simp [List.getD, List.getElem?_eq_getElem hj]])).mono ?_
    rintro e w' ⟨v, rfl, ho, _, hb⟩
    rw [List.take_length] at ho
    obtain ⟨A', c', rfl, _, h⟩ := out_own ho
    exact ⟨⟨_, _, rfl, h⟩, hb⟩
/-- A column in memory. -/
def Cl (w : World) (q : Nat) (L : List Int) : Prop := ∃ A c, w.heap[q]? = some (.cells #[.slice A L.length c] 57 (0, 0)) ∧ Rd (Value.int .i64) w A L
theorem Cl.below {w w' : World} {q : Nat} {L : List Int} (h : Cl w q L) (hb : Below w.heap.size w w') : Cl w' q L := by
  obtain ⟨A, c, h1, h2⟩ := h
  exact ⟨A, c, (hb.block q (Array.getElem?_eq_some_iff.1 h1).1).trans h1, h2.below hb⟩
set_option maxRecDepth 100000 in
theorem new_bad (A : Option Addr) (c : Nat) (L : List Int) (hl : L.length ≤ 1000000) (hb : chkV L ≠ 0) (w : World) (hR : Rd (Value.int .i64) w A L) :
    Calls Try.prog 9 #[.slice A L.length c] w fun e w' => e = .returned (.tuple #[.pointer none, .int .i64 (chkV L)]) ∧ w' = w := by
  have H := Lib.hid (check_any A c L hl w hR)
  obtain ⟨k, hk⟩ : ∃ k, k = chkV L := ⟨_, rfl⟩
  rw [← hk] at H hb ⊢
  clear hR hk
  go_enter Try.func9, Try.ntmps9
  go_wp2_with fail
  refine H.out.mono ?_
  rintro e w1 ⟨rfl, rfl⟩
  go_wp2_with fail
  exact bodyPost_ret (results_tmp2 rfl _ _ _) rfl ⟨rfl, rfl⟩
set_option maxRecDepth 100000 in
theorem new_ok (A : Option Addr) (c : Nat) (L : List Int) (hl : L.length ≤ 1000000) (hb : chkV L = 0) (w : World) (hR : Rd (Value.int .i64) w A L) :
    Calls Try.prog 9 #[.slice A L.length c] w fun e w' => (∃ q, e = .returned (.tuple #[.pointer (some ⟨q, 0, none⟩), .int .i64 0]) ∧ Cl w' q L) ∧ Below w.heap.size w w' := by
  have H := Lib.hid (check_any A c L hl w hR)
  rw [hb] at H
  have HC := Lib.hid (clone_any A c L hl w hR)
  clear hR hb
  go_enter Try.func9, Try.ntmps9
  go_wp2_with fail
  refine H.out.mono ?_
  rintro e w1 ⟨rfl, rfl⟩
  go_wp2_with fail
  refine HC.out.mono ?_
  rintro e w2 ⟨⟨A2, c2, rfl, hr⟩, hb2⟩
  have HR2 := Lib.hid hr
  have HB2 := Lib.hid hb2
  clear hr hb2
  go_wp2_with fail
  exact bodyPost_ret (results_tmp2 rfl _ _ _) rfl ⟨⟨w2.heap.size, rfl, A2, c2, Deep.blk_alloc_new w2 _, HR2.out.alloc _⟩, HB2.out.alloc HB2.out.size _⟩
end Go.Proofs.Ytomjgkflnfjjbaa
