/- The Writer's Len, the Reader's End; reading back what was written. -/
import Derived.Test.YtepcihfkkeahhaaOr
namespace Go.Proofs.Ytepcihfkkeahhaa
open Go.ChangeShapes Go.WideShapes Go.ChangeAt Go.RowKit En

theorem w_len (g : Nat) (fs : List (List UInt8)) (w : World) (h : WS w g fs) :
    Calls Try.prog 17 #[.pointer (some ⟨g, 0, none⟩)] w fun e w' => e = .returned (.int .i64 (total fs : Int)) ∧ w' = w := by
  obtain ⟨l, hg, _⟩ := h
  have c1 := cell_of_row w g 1 _ _ _ hg
  clear hg
  go_enter Try.func17, Try.ntmps17
  go_wp2_with fail
  go_ret
  exact ⟨rfl, rfl⟩
theorem r_end_ok (r : Nat) (s : ByteArray) (hs : s.size ≤ 1000000) (w : World) (h : RS w r s s.size 0) :
    Calls Try.prog 19 #[.pointer (some ⟨r, 0, none⟩)] w fun e w' => e = .returned (.int .i64 0) ∧ Below w.heap.size w w' := by
  have H := Lib.hid h
  clear h
  go_enter Try.func19, Try.ntmps19
  go_wp2_with fail
  refine (r_err r s s.size 0 w H.out).mono ?_
  rintro e w1 ⟨rfl, rfl⟩
  go_wp2_with fail
  refine (r_left r s s.size 0 hs w1 H.out).mono ?_
  rw [Nat.sub_self]
  rintro e w2 ⟨rfl, rfl⟩
  go_wp2_with fail
  go_ret
  exact ⟨rfl, Below.drew (Below.refl _ _)⟩

theorem szB_first (n : Int) (h : In64 n) : szB (first n) = sz n.natAbs ∧ maskB (first n) = mask n ∧ ((first n).toNat < 128 ↔ n < 0) := by
  have h8 := sz_le _ h.abs
  by_cases h0 : n < 0
  · have hp := sz_pos n.natAbs (by omega) h.abs
    have hf := first_neg n h0 h8
    have hl : (first n).toNat < 128 := by omega
    refine ⟨?_, ?_, ⟨fun _ => h0, fun _ => hl⟩⟩
    · unfold szB; rw [if_pos hl]; omega
    · unfold maskB mask; rw [if_pos hl, if_pos h0]
  · have hf := first_pos n h0 h8
    have hl : ¬ (first n).toNat < 128 := by omega
    refine ⟨?_, ?_, ⟨fun h => absurd h hl, fun h => absurd h h0⟩⟩
    · unfold szB; rw [if_neg hl]; omega
    · unfold maskB mask; rw [if_neg hl, if_neg h0]
/-- The greatest byte of a magnitude is not 0. -/
theorem top_digit (n : Int) (h : In64 n) (hp : 0 < sz n.natAbs) (t : List UInt8) : (digs n 0 ++ t).head? ≠ some (mask n) := by
  intro e
  have hd : digs n 0 = dig n (sz n.natAbs - 1) :: (digs n 0).tail := by
    have hne : digs n 0 ≠ [] := by intro h0; have := digs_len n 0; rw [h0] at this; simp at this; omega
    have e1 : (digs n 0).head? = some (dig n (sz n.natAbs - 1)) := by
      unfold digs
      rw [List.head?_map, List.head?_range, if_neg (by omega)]
      simp
    cases hc : digs n 0 with
    | nil => exact absurd hc hne
    | cons a b => rw [hc] at e1; simp at e1; rw [e1]; rfl
  rw [hd] at e
  have e2 : dig n (sz n.natAbs - 1) = mask n := by simpa using e
  have e3 : UInt8.ofNat (n.natAbs / 2 ^ (8 * (sz n.natAbs - 1)) % 256) = 0 := by
    have := congrArg (· ^^^ mask n) e2
    simp only [dig, mask_xor, UInt8.xor_self] at this
    exact this
  have e4 := congrArg UInt8.toNat e3
  rw [UInt8.toNat_ofNat'] at e4
  have hlt := lt_sz n.natAbs h.abs
  obtain ⟨_, h2, _⟩ := Lib.bitLenAux_bounds 64 n.natAbs h.abs (by
    intro h0; rw [h0] at hp; exact absurd hp (by decide))
  have h2' : 2 ^ (Lib.bitLen n.natAbs - 1) ≤ n.natAbs := h2
  have h3 : 2 ^ (8 * (sz n.natAbs - 1)) ≤ n.natAbs := Nat.le_trans (Nat.pow_le_pow_right (by omega) (by unfold sz at hp ⊢; omega)) h2'
  have h4 : 1 ≤ n.natAbs / 2 ^ (8 * (sz n.natAbs - 1)) := (Nat.one_le_div_iff (Nat.pow_pos (by omega))).2 h3
  have h5 : n.natAbs / 2 ^ (8 * (sz n.natAbs - 1)) < 256 := by
    rw [Nat.div_lt_iff_lt_mul (Nat.pow_pos (by omega))]
    rw [show 8 * sz n.natAbs = 8 + 8 * (sz n.natAbs - 1) by omega, Nat.pow_add] at hlt
    exact hlt
  simp at e4
  omega
theorem scan_num (n : Int) (h : In64 n) (t : List UInt8) : scan (num n ++ t) = (n, ((num n).length : Int), 0) := by
  obtain ⟨h1, h2, h3⟩ := szB_first n h
  have h8 := sz_le _ h.abs
  show scan (first n :: (digs n 0 ++ t)) = _
  have hl := digs_len n 0
  have ht : (digs n 0 ++ t).take (sz n.natAbs) = digs n 0 := by rw [List.take_left' (by omega)]
  have hsg : sg n.natAbs (decide ((first n).toNat < 128)) = (n, 0) := by
    unfold sg
    have := h.1; have := h.2
    by_cases h0 : n < 0
    · rw [decide_eq_true (h3.2 h0), if_pos ⟨rfl, by omega⟩]
      congr 1; omega
    · rw [decide_eq_false (fun hh => h0 (h3.1 hh)), if_neg (fun hh => nomatch hh.1), if_pos ⟨rfl, by omega⟩]
      congr 1; omega
  rw [scan_cons, h1, h2, if_neg (by omega), if_neg (by rw [List.length_append]; omega), if_neg, ht, mag_all n h.abs, hsg, num_len]
  · simp
  · rintro ⟨hp, he⟩
    exact top_digit n h hp t he
end Go.Proofs.Ytepcihfkkeahhaa
