/- countEndedBy, Contains, Next, Previous. -/
import Derived.Test.YtkjpficpkpfkdaaCt
namespace Go.Proofs.Ytkjpficpkpfkdaa
open Go.ChangeShapes Go.WideShapes Go.ChangeAt Go.RowKit Ts

set_option maxRecDepth 100000 in
theorem ended_by (A : Option Addr) (c : Nat) (L : List Iv) (hN : Nrm L) (hl : L.length ≤ 1000000) (n : Int) (w : World) (hR : Rs w w.heap.size A (ivCells L)) :
    Calls Try.prog 61 #[.slice A L.length c, .int .i64 n] w fun e w' => e = .returned (.int .i64 (cE n L : Int)) ∧ Below w.heap.size w w' := by
  have hA : Below w.heap.size w (w.alloc (.cells #[.int .i64 n] 3)) := (Below.refl _ _).alloc (Nat.le_refl _) _
  have hc := count_ended (fun x => decide (x.2 ≤ n)) w.heap.size n (ended_cl w.heap.size n) A c L hl (cE n L) (cw_le _ _) (fun i hi => by rw [decide_eq_true_iff]; exact cE_iff hN n i hi) (w.alloc (.cells #[.int .i64 n] 3)) (cell_of_row _ w.heap.size 0 _ _ _ (Deep.blk_alloc_new w _)) ((hR.below hA).more (by simp))
  have Hc := Lib.hid hc
  have HA := Lib.hid hA
  clear hc hA hR
  go_enter Try.func61, Try.ntmps61
  go_wp2_with fail
  refine Hc.out.mono ?_
  rintro e w1 ⟨rfl, hb⟩
  have HB := Lib.hid (HA.out.trans (hb.mono (by simp)))
  clear hb
  go_wp2_with fail
  go_ret
  exact ⟨rfl, HB.out⟩
set_option maxRecDepth 100000 in
theorem contains_any (A : Option Addr) (c : Nat) (L : List Iv) (hN : Nrm L) (hl : L.length ≤ 1000000) (n : Int) (w : World) (hR : Rs w w.heap.size A (ivCells L)) :
    Calls Try.prog 25 #[.slice A L.length c, .int .i64 n] w fun e w' => e = .returned (.bool (has n L)) ∧ Below w.heap.size w w' := by
  have Hc := Lib.hid (ended_by A c L hN hl n w hR)
  have HR := Lib.hid hR
  have hIn := in_cE hN n
  have hk := cw_le (fun x => decide (x.2 ≤ n)) L
  obtain ⟨k, hkk⟩ : ∃ k, k = cE n L := ⟨_, rfl⟩
  have hk' : k ≤ L.length := by rw [hkk]; exact hk
  obtain ⟨F, hF⟩ : ∃ F, F = has n L := ⟨_, rfl⟩
  rw [← hF]
  have HI : Hid (F = true ↔ ∃ hi : k < L.length, L[k].1 ≤ n) := Lib.hid (by rw [hF, has_in, hIn]; simp only [hkk])
  rw [← hkk] at Hc
  clear hR hIn hk hF hkk
  by_cases hlt : k < L.length
  · obtain ⟨x, hx⟩ : ∃ x, x = L[k] := ⟨_, rfl⟩
    have HI2 : Hid (F = decide (x.1 ≤ n)) := Lib.hid (by
      rw [Bool.eq_iff_iff, HI.out, decide_eq_true_iff, hx]
      exact ⟨fun ⟨_, h⟩ => h, fun h => ⟨hlt, h⟩⟩)
    have HX := Lib.hid hx
    clear hx HI
    obtain ⟨x1, x2⟩ := x
    dsimp only at HI2
    go_enter Try.func25, Try.ntmps25
    go_wp2_with fail
    refine Hc.out.mono ?_
    rintro e w1 ⟨rfl, hb⟩
    obtain ⟨b, off, rfl, hb', h0, h1⟩ := iv_at (HR.out.below hb) k hlt
    rw [← HX.out] at h0 h1
    dsimp only at h0 h1
    have HB := Lib.hid hb
    have hlt' : (k : Int) < (L.length : Int) := by omega
    have hk0 : (0 : Int) ≤ (k : Int) := by omega
    clear hb
    go_wp2_with fail
    go_ret
    rw [HI2.out]
    exact ⟨rfl, HB.out⟩
  · have HI2 : Hid (F = false) := Lib.hid (by
      rw [Bool.eq_false_iff]
      intro h
      obtain ⟨hi, _⟩ := HI.out.1 h
      exact hlt hi)
    go_enter Try.func25, Try.ntmps25
    go_wp2_with fail
    refine Hc.out.mono ?_
    rintro e w1 ⟨rfl, hb⟩
    have HB := Lib.hid hb
    have hlt' : ¬ (k : Int) < (L.length : Int) := by omega
    clear hb
    go_wp2_with fail
    go_ret
    rw [HI2.out]
    exact ⟨rfl, HB.out⟩
set_option maxRecDepth 100000 in
theorem next_any (A : Option Addr) (c : Nat) (L : List Iv) (hN : Nrm L) (hl : L.length ≤ 1000000) (n : Int) (w : World) (hR : Rs w w.heap.size A (ivCells L)) :
    Calls Try.prog 34 #[.slice A L.length c, .int .i64 n] w fun e w' => e = .returned (.tuple #[.int .i64 (nxt n L).1, .bool (nxt n L).2]) ∧ Below w.heap.size w w' := by
  have Hc := Lib.hid (ended_by A c L hN hl n w hR)
  have HR := Lib.hid hR
  have hk := cw_le (fun x => decide (x.2 ≤ n)) L
  obtain ⟨k, hkk⟩ : ∃ k, k = cE n L := ⟨_, rfl⟩
  have hk' : k ≤ L.length := by rw [hkk]; exact hk
  obtain ⟨F, hF⟩ : ∃ F, F = nxt n L := ⟨_, rfl⟩
  rw [← hF]
  have HF : Hid (F = if hi : k < L.length then (max n L[k].1, true) else (0, false)) := Lib.hid (by rw [hF]; unfold nxt; simp only [hkk])
  rw [← hkk] at Hc
  clear hR hk hF hkk
  by_cases hlt : k < L.length
  · obtain ⟨x, hx⟩ : ∃ x, x = L[k] := ⟨_, rfl⟩
    have HF2 : Hid (F = (max n x.1, true)) := Lib.hid (by rw [HF.out, dif_pos hlt, hx])
    have HX := Lib.hid hx
    clear hx HF
    obtain ⟨x1, x2⟩ := x
    dsimp only at HF2
    have hne : ((k : Int) == (L.length : Int)) = false := by simpa using (show ¬ (k : Int) = (L.length : Int) by omega)
    go_enter Try.func34, Try.ntmps34
    go_wp2_with fail
    refine Hc.out.mono ?_
    rintro e w1 ⟨rfl, hb⟩
    obtain ⟨b, off, rfl, hb', h0, h1⟩ := iv_at (HR.out.below hb) k hlt
    rw [← HX.out] at h0 h1
    dsimp only at h0 h1
    have HB := Lib.hid hb
    have hlt' : (k : Int) < (L.length : Int) := by omega
    have hk0 : (0 : Int) ≤ (k : Int) := by omega
    clear hb
    go_wp2_with fail
    all_goals
      go_ret2
      rw [HF2.out]
      rcases Int.lt_or_le n x1 with hm | hm
      · exact ⟨by rw [show max n x1 = x1 by omega]; first | rfl | (exfalso; omega), HB.out⟩
      · exact ⟨by rw [show max n x1 = n by omega]; first | rfl | (have : n = x1 := by omega
                                                                  subst this; rfl), HB.out⟩
  · have HF2 : Hid (F = (0, false)) := Lib.hid (by rw [HF.out, dif_neg hlt])
    obtain rfl : k = L.length := by omega
    clear HF
    go_enter Try.func34, Try.ntmps34
    go_wp2_with fail
    refine Hc.out.mono ?_
    rintro e w1 ⟨rfl, hb⟩
    have HB := Lib.hid hb
    clear hb
    go_wp2_with fail
    go_ret2
    rw [HF2.out]
    exact ⟨rfl, HB.out⟩
set_option maxRecDepth 100000 in
set_option maxHeartbeats 1000000 in
theorem prev_any (A : Option Addr) (c : Nat) (L : List Iv) (hN : Nrm L) (hl : L.length ≤ 1000000) (hb : ∀ x ∈ L, -9000000000000000000 ≤ x.2 ∧ x.2 ≤ 9000000000000000000) (n : Int) (w : World) (hR : Rs w w.heap.size A (ivCells L)) :
    Calls Try.prog 35 #[.slice A L.length c, .int .i64 n] w fun e w' => e = .returned (.tuple #[.int .i64 (prv n L).1, .bool (prv n L).2]) ∧ Below w.heap.size w w' := by
  have hA : Below w.heap.size w (w.alloc (.cells #[.int .i64 n] 3)) := (Below.refl _ _).alloc (Nat.le_refl _) _
  have hc := count_begun (fun x => decide (x.1 ≤ n)) w.heap.size n (begun_cl w.heap.size n) A c L hl (cB n L) (cw_le _ _) (fun i hi => by rw [decide_eq_true_iff]; exact cB_iff hN n i hi) (w.alloc (.cells #[.int .i64 n] 3)) (cell_of_row _ w.heap.size 0 _ _ _ (Deep.blk_alloc_new w _)) ((hR.below hA).more (by simp))
  have hk := cw_le (fun x => decide (x.1 ≤ n)) L
  have HA := Lib.hid hA
  have HR := Lib.hid hR
  obtain ⟨k, hkk⟩ : ∃ k, k = cB n L := ⟨_, rfl⟩
  have hk' : k ≤ L.length := by rw [hkk]; exact hk
  obtain ⟨F, hF⟩ : ∃ F, F = prv n L := ⟨_, rfl⟩
  rw [← hF]
  have HF : Hid (F = if hi : 0 < k ∧ k - 1 < L.length then (min n (L[k - 1].2 - 1), true) else (0, false)) := Lib.hid (by rw [hF]; unfold prv; simp only [hkk])
  rw [← hkk] at hc
  have Hc := Lib.hid hc
  clear hc hA hR hk hF hkk
  by_cases hk0 : k = 0
  · have HF2 : Hid (F = (0, false)) := Lib.hid (by rw [HF.out, dif_neg (by omega)])
    subst hk0
    clear HF
    go_enter Try.func35, Try.ntmps35
    go_wp2_with fail
    refine Hc.out.mono ?_
    rintro e w1 ⟨rfl, hb1⟩
    have HB := Lib.hid (HA.out.trans (hb1.mono (by simp)))
    clear hb1
    go_wp2_with fail
    go_ret2
    rw [HF2.out]
    exact ⟨rfl, HB.out⟩
  · obtain ⟨i, rfl⟩ : ∃ i, k = i + 1 := ⟨k - 1, by omega⟩
    have hi : i < L.length := by omega
    have hbx := hb _ (List.getElem_mem hi)
    obtain ⟨x, hx⟩ : ∃ x, x = L[i] := ⟨_, rfl⟩
    have HF2 : Hid (F = (min n (x.2 - 1), true)) := Lib.hid (by rw [HF.out, dif_pos (by omega), hx]; rfl)
    rw [← hx] at hbx
    have HX := Lib.hid hx
    clear hx HF hb
    obtain ⟨x1, x2⟩ := x
    dsimp only at HF2 hbx
    have e1 : ((i + 1 : Nat) : Int) = (i : Int) + 1 := by omega
    rw [e1] at Hc
    have hne : ((i : Int) + 1 == 0) = false := by simpa using (show ¬ (i : Int) + 1 = 0 by omega)
    have hw1 : IntKind.i64.wrap ((i : Int) + 1 - 1) = (i : Int) := by simp only [IntKind.wrap_i64]; omega
    have hw2 : IntKind.i64.wrap (x2 - 1) = x2 - 1 := by simp only [IntKind.wrap_i64]; omega
    go_enter Try.func35, Try.ntmps35
    go_wp2_with fail
    refine Hc.out.mono ?_
    rintro e w1 ⟨rfl, hb1⟩
    have HB := Lib.hid (HA.out.trans (hb1.mono (by simp)))
    have c0 := cell_of_row w1 w.heap.size 0 _ _ _ ((hb1.block w.heap.size (by simp)).trans (Deep.blk_alloc_new w _))
    obtain ⟨b, off, rfl, hb', h0, h1⟩ := iv_at (HR.out.below HB.out) i hi
    rw [← HX.out] at h0 h1
    dsimp only at h0 h1 c0
    have hil : (i : Int) < (L.length : Int) := by omega
    have hi0 : (0 : Int) ≤ (i : Int) := by omega
    clear hb1
    go_wp2_with fail
    by_cases hm : n ≤ x2 - 1
    · have hm2 : ¬ x2 - 1 < n := by omega
      go_region
      all_goals
        go_wp2_with fail
        go_ret2
        rw [HF2.out]
        exact ⟨by rw [show min n (x2 - 1) = n by omega]; first | rfl | (exfalso; omega), Below.drew HB.out⟩
    · have hm2 : x2 - 1 < n := by omega
      go_region
      all_goals
        go_wp2_with fail
        go_ret2
        rw [HF2.out]
        exact ⟨by rw [show min n (x2 - 1) = x2 - 1 by omega]; first | rfl | (exfalso; omega), Below.drew HB.out⟩
end Go.Proofs.Ytkjpficpkpfkdaa
