/- The Reader: what it holds, NewReader, Err, Number. -/
import Derived.Test.YtomjgkflnfjjbaaSc
namespace Go.Proofs.Ytomjgkflnfjjbaa
open Go.ChangeShapes Go.WideShapes Go.ChangeAt Go.RowKit En

/-- The Reader in block r. -/
def RS (w : World) (r : Nat) (s : ByteArray) (p : Nat) (err : Int) : Prop :=
  w.heap[r]? = some (.cells #[.string s, .int .i64 (p : Int), .int .i64 err] 104 (0, 0)) ∧ p ≤ s.size
theorem RS.lt {w : World} {r : Nat} {s : ByteArray} {p : Nat} {err : Int} (h : RS w r s p err) : r < w.heap.size := (Array.getElem?_eq_some_iff.1 h.1).1
theorem RS.below {w w' : World} {r : Nat} {s : ByteArray} {p : Nat} {err : Int} (h : RS w r s p err) (hb : Below w.heap.size w w') : RS w' r s p err :=
  ⟨(hb.block r h.lt).trans h.1, h.2⟩
theorem new_reader (s : ByteArray) (w : World) :
    Calls Try.prog 49 #[.string s] w fun e w' => e = .returned (.pointer (some ⟨w.heap.size, 0, none⟩)) ∧ RS w' w.heap.size s 0 0 ∧ Below w.heap.size w w' := by
  go_enter Try.func49, Try.ntmps49
  go_wp2_with fail
  go_ret
  exact ⟨rfl, ⟨Deep.blk_alloc_new w _, Nat.zero_le _⟩, (Below.refl _ _).alloc (Nat.le_refl _) _⟩
theorem r_err (r : Nat) (s : ByteArray) (p : Nat) (err : Int) (w : World) (h : RS w r s p err) :
    Calls Try.prog 51 #[.pointer (some ⟨r, 0, none⟩)] w fun e w' => e = .returned (.int .i64 err) ∧ w' = w := by
  have c2 := cell_of_row w r 2 _ _ _ h.1
  clear h
  go_enter Try.func51, Try.ntmps51
  go_wp2_with fail
  go_ret
  exact ⟨rfl, rfl⟩

theorem scan_size (l : List UInt8) (h : (scan l).2.2 = 0) : ∃ k : Nat, (scan l).2.1 = (k : Int) ∧ 1 ≤ k ∧ k ≤ l.length := by
  cases l with
  | nil => simp [scan] at h
  | cons b t =>
    rw [scan_cons] at h ⊢
    by_cases h1 : 8 < szB b
    · rw [if_pos h1] at h; simp at h
    · rw [if_neg h1] at h ⊢
      by_cases h2 : t.length < szB b
      · rw [if_pos h2] at h; simp at h
      · rw [if_neg h2] at h ⊢
        by_cases h3 : 0 < szB b ∧ t.head? = some (maskB b)
        · rw [if_pos h3] at h; simp at h
        · rw [if_neg h3] at h ⊢
          by_cases h4 : (sg (magL (maskB b) (t.take (szB b))) (decide (b.toNat < 128))).2 = 0
          · rw [if_pos h4]
            exact ⟨1 + szB b, by simp, by omega, by rw [List.length_cons]; omega⟩
          · rw [if_neg h4] at h; exact absurd h h4
/-- What reading a number returns, and the state behind it. -/
def rdN (s : ByteArray) (p : Nat) (err : Int) : Int × Nat × Int :=
  if err = 0 then (if (scan (s.data.toList.drop p)).2.2 = 0 then ((scan (s.data.toList.drop p)).1, p + (scan (s.data.toList.drop p)).2.1.toNat, 0) else (0, p, (scan (s.data.toList.drop p)).2.2)) else (0, p, err)
theorem grown_same (w : World) (o : Option Nat) : w.grownBy w o := ⟨rfl, rfl, rfl, Nat.le_refl _, fun _ _ _ => rfl⟩
theorem grown_put (w : World) (n g o : Nat) (v : Value) : w.grownBy ((w.drewN n).setCell ⟨g, o, none⟩ v) (some g) :=
  ⟨rfl, rfl, rfl, by simp [World.setCell, World.drewN], fun i _ hi => by
    rw [Deep.blk_setCell_other _ _ _ _ (fun e => hi (by rw [e]))]; rfl⟩
theorem cut_list (s : ByteArray) (p : Nat) : (s.extract p s.size).data.toList = s.data.toList.drop p := by
  rw [Lib.extract_data]; exact List.take_of_length_le (by simp)

set_option maxRecDepth 100000 in
set_option maxHeartbeats 1000000 in
theorem read_int (r : Nat) (s : ByteArray) (p : Nat) (err : Int) (hs : s.size ≤ 1000000) (w : World) (h : RS w r s p err) :
    Calls Try.prog 66 #[.pointer (some ⟨r, 0, none⟩), .func (.func 67) #[] #[]] w fun e w' => e = .returned (.int .i64 (rdN s p err).1) ∧ RS w' r s (rdN s p err).2.1 (rdN s p err).2.2 ∧ w.grownBy w' (some r) := by
  by_cases he : err = 0
  · subst he
    obtain ⟨x, hx⟩ : ∃ x, x = scan (s.data.toList.drop p) := ⟨_, rfl⟩
    have e0 : rdN s p 0 = if x.2.2 = 0 then (x.1, p + x.2.1.toNat, 0) else (0, p, x.2.2) := by rw [hx]; rfl
    have Hx := Lib.hid (scan_size (s.data.toList.drop p))
    rw [← hx] at Hx
    have hsc : ∀ w, Calls Try.prog 67 #[.string (s.extract p s.size)] w fun e w' => e = .returned (.tuple #[.int .i64 x.1, .int .i64 x.2.1, .int .i64 x.2.2]) ∧ w' = w := fun w => by
      have h1 := scan_any (s.extract p s.size) (by have : (s.extract p s.size).size ≤ s.size := (by simp); omega) w
      rw [cut_list, ← hx] at h1
      exact h1
    have hp := h.2
    have hr := h.lt
    have c0 := cell_of_row w r 0 _ _ _ h.1
    have c1 := cell_of_row w r 1 _ _ _ h.1
    have c2 := cell_of_row w r 2 _ _ _ h.1
    have f0 := frozen_of_row w r 0 _ _ h.1
    have f1 := frozen_of_row w r 1 _ _ h.1
    have f2 := frozen_of_row w r 2 _ _ h.1
    have H := Lib.hid h
    rw [e0]
    clear h e0 hx
    by_cases hx0 : x.2.2 = 0
    · rw [if_pos hx0]
      obtain ⟨k, hk, hk1, hk2⟩ := Hx.out hx0
      rw [List.length_drop] at hk2
      have hk3 : p + k ≤ s.size := by simp at hk2; omega
      have hkw : IntKind.i64.wrap ((p : Int) + (k : Int)) = (p : Int) + (k : Int) := by simp only [IntKind.wrap_i64]; omega
      rw [hk] at hsc
      rw [hx0] at hsc
      simp only [hk, Int.toNat_natCast]
      go_enter Try.func66, Try.ntmps66
      go_wp2_with fail
      refine (r_err r s p 0 w H.out).mono ?_
      rintro e w1 ⟨rfl, rfl⟩
      go_wp2_with fail
      go_quiet ((go_at_call 67; exact Calls.quiet_of_same (hsc _)))
      (refine (by assumption : ∀ _ _, _ → _) _ _ ?_)
      go_wp2_with fail
      go_ret
      refine ⟨rfl, ⟨?_, hk3⟩, grown_put _ _ _ _ _⟩
      have := blk_set (w := w1.drewN nq) (off := 1) (.int .i64 ((p : Int) + (k : Int))) H.out.1
      rw [this]
      rfl
    · rw [if_neg hx0]
      go_enter Try.func66, Try.ntmps66
      go_wp2_with fail
      refine (r_err r s p 0 w H.out).mono ?_
      rintro e w1 ⟨rfl, rfl⟩
      go_wp2_with fail
      go_quiet ((go_at_call 67; exact Calls.quiet_of_same (hsc _)))
      (refine (by assumption : ∀ _ _, _ → _) _ _ ?_)
      go_wp2_with fail
      go_ret
      refine ⟨rfl, ⟨?_, hp⟩, grown_put _ _ _ _ _⟩
      have := blk_set (w := w1.drewN nq) (off := 2) (.int .i64 x.2.2) H.out.1
      rw [this]
      rfl
  · have e0 : rdN s p err = (0, p, err) := by unfold rdN; rw [if_neg he]
    rw [e0]
    have H := Lib.hid h
    clear h e0
    go_enter Try.func66, Try.ntmps66
    go_wp2_with fail
    refine (r_err r s p err w H.out).mono ?_
    rintro e w1 ⟨rfl, rfl⟩
    go_wp2_with fail
    go_ret
    exact ⟨rfl, H.out, grown_same _ _⟩
theorem read_number (r : Nat) (s : ByteArray) (p : Nat) (err : Int) (hs : s.size ≤ 1000000) (w : World) (h : RS w r s p err) :
    Calls Try.prog 52 #[.pointer (some ⟨r, 0, none⟩)] w fun e w' => e = .returned (.int .i64 (rdN s p err).1) ∧ RS w' r s (rdN s p err).2.1 (rdN s p err).2.2 ∧ w.grownBy w' (some r) := by
  obtain ⟨x, hx⟩ : ∃ x, x = rdN s p err := ⟨_, rfl⟩
  have hc := read_int r s p err hs w h
  rw [← hx] at hc ⊢
  clear hx h
  go_enter Try.func52, Try.ntmps52
  go_wp2_with fail
  refine hc.mono ?_
  rintro e w1 ⟨rfl, h1, h2⟩
  go_wp2_with fail
  go_ret
  exact ⟨rfl, h1, h2⟩
end Go.Proofs.Ytomjgkflnfjjbaa
