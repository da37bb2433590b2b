/- Shift, Grow. -/
import Derived.Test.YtkjpficpkpfkdaaMv
namespace Go.Proofs.Ytkjpficpkpfkdaa
open Go.ChangeShapes Go.WideShapes Go.ChangeAt Go.RowKit Ts

theorem lt_no {x y : Int} (h : y ≤ x) : (x < y) = False := eq_false (by omega)
attribute [local go_sem] lt_no
def Mod (L : List Iv) : Prop := ∀ x ∈ L, (-5000000000000000 ≤ x.1 ∧ x.1 ≤ 5000000000000000) ∧ (-5000000000000000 ≤ x.2 ∧ x.2 ≤ 5000000000000000)
set_option maxRecDepth 100000 in
theorem shift_out {v : Value} {L : List Iv} (x : Int) (hx : x < -2251799813685248 ∨ 2251799813685248 < x) (w : World) (hv : Sl w v L) :
    Calls Try.prog 41 #[v, .int .i64 x] w fun e w' => e = .returned (.tuple #[.slice none 0 0, .int .i64 2]) ∧ w' = w := by
  obtain ⟨A, c, rfl, _, _, _, hR⟩ := hv
  clear hR
  rcases hx with h | h
  · go_enter Try.func41, Try.ntmps41
    go_wp2_with fail
    go_ret2
    exact ⟨rfl, rfl⟩
  · have h2 : -2251799813685248 ≤ x := by omega
    go_enter Try.func41, Try.ntmps41
    go_wp2_with fail
    go_ret2
    exact ⟨rfl, rfl⟩
set_option maxRecDepth 100000 in
theorem shift_in {v : Value} {L : List Iv} (x : Int) (h1 : -2251799813685248 ≤ x) (h2 : x ≤ 2251799813685248) (hL : Mod L) (hl : L.length ≤ 1000) (w : World) (hv : Sl w v L) :
    Calls Try.prog 41 #[v, .int .i64 x] w fun e w' => mvN w' e (grown x x L) ∧ Below w.heap.size w w' := by
  have Hm := Lib.hid (move_any x x (by omega) (by omega) hL hl w hv)
  obtain ⟨A, c, rfl, _, _, _, hR⟩ := hv
  obtain ⟨G, hG⟩ : ∃ G, G = grown x x L := ⟨_, rfl⟩
  rw [← hG] at Hm ⊢
  clear hR hG
  go_enter Try.func41, Try.ntmps41
  go_wp2_with fail
  refine Hm.out.mono ?_
  rintro e w1 ⟨hN, hb⟩
  have HB := Lib.hid hb
  clear hb
  rcases hN with ⟨hin, r, rfl, hS⟩ | ⟨hin, rfl⟩
  · have HS := Lib.hid hS
    have HI := Lib.hid hin
    clear hS hin
    go_wp2_with fail
    go_ret2
    exact ⟨.inl ⟨HI.out, _, rfl, HS.out⟩, HB.out⟩
  · have HI := Lib.hid hin
    clear hin
    go_wp2_with fail
    go_ret2
    exact ⟨.inr ⟨HI.out, rfl⟩, HB.out⟩
set_option maxRecDepth 100000 in
theorem grow_in {v : Value} {L : List Iv} (x y : Int) (h1 : 0 ≤ x) (h2 : x ≤ 2251799813685248) (h3 : 0 ≤ y) (h4 : y ≤ 2251799813685248) (hL : Mod L) (hl : L.length ≤ 1000) (w : World) (hv : Sl w v L) :
    Calls Try.prog 42 #[v, .int .i64 x, .int .i64 y] w fun e w' => mvN w' e (grown (-x) y L) ∧ Below w.heap.size w w' := by
  have Hm := Lib.hid (move_any (-x) y (by omega) (by omega) hL hl w hv)
  have hw : IntKind.i64.wrap (-x) = -x := by simp only [IntKind.wrap_i64]; omega
  have hw0 : IntKind.i64.wrap (0 - x) = -x := by simp only [IntKind.wrap_i64]; omega
  obtain ⟨A, c, rfl, _, _, _, hR⟩ := hv
  obtain ⟨G, hG⟩ : ∃ G, G = grown (-x) y L := ⟨_, rfl⟩
  rw [← hG] at Hm ⊢
  clear hR hG
  go_enter Try.func42, Try.ntmps42
  go_wp2_with fail
  refine Hm.out.mono ?_
  rintro e w1 ⟨hN, hb⟩
  have HB := Lib.hid hb
  clear hb
  rcases hN with ⟨hin, r, rfl, hS⟩ | ⟨hin, rfl⟩
  · have HS := Lib.hid hS
    have HI := Lib.hid hin
    clear hS hin
    go_wp2_with fail
    go_ret2
    exact ⟨.inl ⟨HI.out, _, rfl, HS.out⟩, HB.out⟩
  · have HI := Lib.hid hin
    clear hin
    go_wp2_with fail
    go_ret2
    exact ⟨.inr ⟨HI.out, rfl⟩, HB.out⟩
set_option maxRecDepth 100000 in
set_option maxHeartbeats 1000000 in
theorem grow_out {v : Value} {L : List Iv} (x y : Int) (hx : x < 0 ∨ 2251799813685248 < x ∨ y < 0 ∨ 2251799813685248 < y) (w : World) (hv : Sl w v L) :
    Calls Try.prog 42 #[v, .int .i64 x, .int .i64 y] w fun e w' => e = .returned (.tuple #[.slice none 0 0, .int .i64 2]) ∧ w' = w := by
  obtain ⟨A, c, rfl, _, _, _, hR⟩ := hv
  clear hR
  by_cases h1 : x < 0
  · clear hx
    go_enter Try.func42, Try.ntmps42
    go_wp2_with fail
    go_ret2
    exact ⟨rfl, rfl⟩
  · have h1' : 0 ≤ x := by omega
    by_cases h2 : 2251799813685248 < x
    · clear hx
      go_enter Try.func42, Try.ntmps42
      go_wp2_with fail
      go_ret2
      exact ⟨rfl, rfl⟩
    · have h2' : x ≤ 2251799813685248 := by omega
      by_cases h3 : y < 0
      · clear hx
        go_enter Try.func42, Try.ntmps42
        go_wp2_with fail
        go_ret2
        exact ⟨rfl, rfl⟩
      · have h3' : 0 ≤ y := by omega
        have h4 : 2251799813685248 < y := by omega
        clear hx
        go_enter Try.func42, Try.ntmps42
        go_wp2_with fail
        go_ret2
        exact ⟨rfl, rfl⟩
end Go.Proofs.Ytkjpficpkpfkdaa
