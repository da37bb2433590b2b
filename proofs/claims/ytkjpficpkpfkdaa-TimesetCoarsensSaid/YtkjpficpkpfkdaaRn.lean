/- The reference's Normal; the program's at a bound out of range. -/
import Derived.Test.YtkjpficpkpfkdaaCk
namespace Go.Proofs.Ytkjpficpkpfkdaa
open Go.ChangeShapes Go.WideShapes Go.ChangeAt Go.RowKit Ts

def wi (x : Int) : Bool := decide (-1125899906842624 ≤ x) && decide (x ≤ 1125899906842624)
theorem wi_in (x : Iv) : inR x = (wi x.1 && wi x.2) := by unfold inR wi; simp [Bool.and_assoc]
theorem gt_no2 {x y : Int} (h : x < y) : (y ≤ x) = False := eq_false (by omega)
attribute [local go_sem] gt_no2
set_option maxRecDepth 100000 in
theorem within_any (x : Int) (w : World) : Calls Try.prog 48 #[.int .i64 x] w fun e w' => e = .returned (.bool (wi x)) ∧ w' = w := by
  obtain ⟨F, hF⟩ : ∃ F, F = wi x := ⟨_, rfl⟩
  rw [← hF]
  by_cases h1 : -1125899906842624 ≤ x
  · by_cases h2 : x ≤ 1125899906842624
    · have HT : Hid (F = true) := Lib.hid (by rw [hF]; unfold wi; simp [h1, h2])
      clear hF
      go_enter Try.func48, Try.ntmps48
      go_wp2_with fail
      go_ret
      rw [HT.out]
      exact ⟨rfl, rfl⟩
    · have HT : Hid (F = false) := Lib.hid (by rw [hF]; unfold wi; simp [h2])
      have h2' : 1125899906842624 < x := by omega
      clear hF
      go_enter Try.func48, Try.ntmps48
      go_wp2_with fail
      go_ret
      rw [HT.out]
      exact ⟨rfl, rfl⟩
  · have HT : Hid (F = false) := Lib.hid (by rw [hF]; unfold wi; simp [h1])
    have h1' : x < -1125899906842624 := by omega
    clear hF
    go_enter Try.func48, Try.ntmps48
    go_wp2_with fail
    go_ret
    rw [HT.out]
    exact ⟨rfl, rfl⟩
set_option maxRecDepth 100000 in
set_option maxHeartbeats 1000000 in
theorem normal_bad {v : Value} {L : List Iv} (hl : L.length ≤ 4096) (hin : allIn L = false) (w : World) (hv : Sl w v L) :
    Calls Try.prog 16 #[v] w fun e w' => e = .returned (.tuple #[.slice none 0 0, .int .i64 2]) ∧ Below w.heap.size w w' := by
  obtain ⟨A, c, rfl, _, _, hA, hR⟩ := hv
  have H1 := Lib.hid (all_in_range A c L (by omega) w hR)
  rw [hin] at H1
  clear hR hA hin
  have hl4 : ¬ (4096 : Int) < (L.length : Int) := by omega
  go_enter Try.func16, Try.ntmps16
  go_wp2_with fail
  refine H1.out.mono ?_
  rintro e w1 ⟨rfl, hb⟩
  have HB1 := Lib.hid hb
  clear hb
  go_wp2_with fail
  go_ret2
  exact ⟨rfl, HB1.out⟩
theorem allIn_false {L : List Iv} {q : Nat} (h : q < L.length) (hx : inR L[q] = false) : allIn L = false := by
  rw [Bool.eq_false_iff]; intro h2
  have := List.all_eq_true.1 h2 _ (List.getElem_mem h)
  rw [hx] at this; cases this
theorem allIn_true {L : List Iv} (h : ∀ q (hq : q < L.length), inR L[q] = true) : allIn L = true :=
  List.all_eq_true.2 (fun x hx => by obtain ⟨q, hq, rfl⟩ := List.getElem_of_mem hx; exact h q hq)
def refN (w' : World) (e : Ending) (L : List Iv) : Prop := (allIn L = true ∧ ∃ r, e = .returned (.tuple #[r, .int .i64 0]) ∧ Sl w' r (ofL L)) ∨ (allIn L = false ∧ e = .returned (.tuple #[.slice none 0 0, .int .i64 2]))
set_option maxRecDepth 100000 in
set_option maxHeartbeats 2000000 in
theorem ref_normal {v : Value} {L : List Iv} (hl : L.length ≤ 4096) (w : World) (hv : Sl w v L) :
    Calls Try.prog 17 #[v] w fun e w' => refN w' e L ∧ Below w.heap.size w w' := by
  obtain ⟨A, c, rfl, _, _, _, hR⟩ := hv
  have HR := Lib.hid hR
  have hl4 : ¬ (4096 : Int) < (L.length : Int) := by omega
  clear hR
  go_enter Try.func17, Try.ntmps17
  go_wp2_with fail
  go_loopw [4] (fun iv wr => ∃ j : Nat, j ≤ L.length ∧ iv = .int .i64 (j : Int) ∧ Hid (∀ q (h : q < L.length), q < j → inR L[q] = true) ∧ Hid (Below w.heap.size w wr)) (fun iv _ => L.length - (intOf iv).toNat)
  case atStart => exact ⟨0, Nat.zero_le _, rfl, Lib.hid (fun q _ hq => absurd hq (by omega)), Lib.hid (Below.refl _ _)⟩
  case round =>
    obtain ⟨j, hj, rfl, hall, HB⟩ := hrel
    by_cases hlt : j < L.length
    · obtain ⟨b, off, rfl, hb, h0, h1⟩ := iv_at (HR.out.below HB.out) j hlt
      obtain ⟨x, hx⟩ : ∃ x, x = L[j] := ⟨_, rfl⟩
      rw [← hx] at h0 h1
      have HX := Lib.hid hx
      clear hx
      obtain ⟨x1, x2⟩ := x
      dsimp only at h0 h1
      have hjl : (j : Int) < (L.length : Int) := by omega
      have hj0 : (0 : Int) ≤ (j : Int) := by omega
      have Hwi := Lib.hid (wi_in (x1, x2))
      obtain ⟨p, hp⟩ : ∃ p, p = wi x1 := ⟨_, rfl⟩
      obtain ⟨q, hq⟩ : ∃ q, q = wi x2 := ⟨_, rfl⟩
      have H1 := Lib.hid (within_any x1 wr)
      have H2 := Lib.hid (within_any x2 wr)
      dsimp only at Hwi
      rw [← hp] at H1 Hwi
      rw [← hq] at H2 Hwi
      clear hp hq
      go_wp2_with fail
      refine H1.out.mono ?_
      rintro e w1 ⟨rfl, hw⟩
      have hw2 := hw.symm
      subst hw2
      clear hw
      cases p with
      | false =>
        have HF := Lib.hid (allIn_false hlt (by rw [← HX.out, Hwi.out]; rfl))
        go_wp2_with fail
        go_ret2
        exact ⟨.inr ⟨HF.out, rfl⟩, HB.out⟩
      | true =>
        go_wp2_with fail
        refine H2.out.mono ?_
        rintro e w1 ⟨rfl, hw⟩
        have hw2 := hw.symm
        subst hw2
        clear hw
        cases q with
        | false =>
          have HF := Lib.hid (allIn_false hlt (by rw [← HX.out, Hwi.out]; rfl))
          go_wp2_with fail
          go_ret2
          exact ⟨.inr ⟨HF.out, rfl⟩, HB.out⟩
        | true =>
          go_wp2_with fail
          go_roundw
          case rel =>
            refine ⟨j + 1, by omega, by go_num, Lib.hid (fun q hq hqj => ?_), HB⟩
            by_cases e : q = j
            · subst e; rw [← HX.out, Hwi.out]; rfl
            · exact hall.out q hq (by omega)
          case measure => simp [intOf] <;> omega
    · obtain rfl : j = L.length := by omega
      have HT := Lib.hid (allIn_true (fun q hq => hall.out q hq hq))
      have Hof := Lib.hid (ref_of A c L (by omega) wr ((HR.out.below HB.out).more HB.out.size))
      go_wp2_with fail
      refine Hof.out.mono ?_
      rintro e w2 ⟨⟨r, rfl, hown⟩, hb⟩
      have HO := Lib.hid hown
      have HB2 := Lib.hid (HB.out.trans (hb.mono HB.out.size))
      clear hown hb
      go_wp2_with fail
      go_ret2
      exact ⟨.inl ⟨HT.out, _, rfl, sl_own HO.out⟩, HB2.out⟩
end Go.Proofs.Ytkjpficpkpfkdaa
