/- The reference's Equal. -/
import Derived.Test.YtkjpficpkpfkdaaRc
namespace Go.Proofs.Ytkjpficpkpfkdaa
open Go.ChangeShapes Go.WideShapes Go.ChangeAt Go.RowKit Ts

set_option maxRecDepth 100000 in
set_option maxHeartbeats 1000000 in
theorem ref_equal (A : Option Addr) (c : Nat) (L : List Iv) (hl : L.length ≤ 1000000) (B : Option Addr) (d : Nat) (M : List Iv) (hm : M.length ≤ 1000000) (w : World) (hR : Rs w w.heap.size A (ivCells L)) (hS : Rs w w.heap.size B (ivCells M)) :
    Calls Try.prog 18 #[.slice A L.length c, .slice B M.length d] w fun e w' => e = .returned (.bool (decide (L = M))) ∧ Below w.heap.size w w' := by
  have HR := Lib.hid hR
  have HS := Lib.hid hS
  obtain ⟨F, hF⟩ : ∃ F, F = decide (L = M) := ⟨_, rfl⟩
  rw [← hF]
  have HF := Lib.hid hF
  clear hR hS hF
  by_cases hlm : L.length = M.length
  · have hlm' : (L.length : Int) = (M.length : Int) := by omega
    have hnm : ((L.length : Int) != (M.length : Int)) = false := by simpa using hlm'
    clear hlm'
    go_enter Try.func18, Try.ntmps18
    go_wp2_with fail
    go_loopw [5] (fun iv wr => ∃ j : Nat, j ≤ L.length ∧ iv = .int .i64 (j : Int) ∧ Hid (∀ q (h : q < L.length) (h' : q < M.length), q < j → L[q] = M[q]) ∧ Hid (Below w.heap.size w wr)) (fun iv _ => L.length - (intOf iv).toNat)
    case atStart => exact ⟨0, Nat.zero_le _, rfl, Lib.hid (fun q _ _ hq => absurd hq (by omega)), Lib.hid (Below.refl _ _)⟩
    case round =>
      obtain ⟨j, hj, rfl, hall, HB⟩ := hrel
      by_cases hlt : j < L.length
      · have hlt2 : j < M.length := by omega
        obtain ⟨b, off, rfl, hb, h0, h1⟩ := iv_at (HR.out.below HB.out) j hlt
        obtain ⟨b2, off2, rfl, hb2, k0, k1⟩ := iv_at (HS.out.below HB.out) j hlt2
        obtain ⟨x, hx⟩ : ∃ x, x = L[j] := ⟨_, rfl⟩
        obtain ⟨y, hy⟩ : ∃ x, x = M[j] := ⟨_, rfl⟩
        rw [← hx] at h0 h1
        rw [← hy] at k0 k1
        have HX := Lib.hid hx
        have HY := Lib.hid hy
        clear hx hy
        obtain ⟨x1, x2⟩ := x
        obtain ⟨y1, y2⟩ := y
        dsimp only at h0 h1 k0 k1
        have hjl : (j : Int) < (L.length : Int) := by omega
        have hjm : (j : Int) < (M.length : Int) := by omega
        have hj0 : (0 : Int) ≤ (j : Int) := by omega
        by_cases he : x1 = y1 ∧ x2 = y2
        · obtain ⟨rfl, rfl⟩ := he
          go_wp2_with fail
          go_region
          all_goals
            go_wp2_with fail
            go_roundw
            case rel =>
              refine ⟨j + 1, by omega, by go_num, Lib.hid (fun q hq hq' hqj => ?_), Lib.hid (Below.drew HB.out)⟩
              by_cases e : q = j
              · subst e; rw [← HX.out, ← HY.out]
              · exact hall.out q hq hq' (by omega)
            case measure => simp [intOf]; omega
        · have HT : Hid (F = false) := Lib.hid (by
            rw [HF.out]
            refine decide_eq_false (fun h => he ?_)
            have e : L[j] = M[j] := by subst h; rfl
            rw [← HX.out, ← HY.out] at e
            exact ⟨congrArg Prod.fst e, congrArg Prod.snd e⟩)
          by_cases h1e : x1 = y1
          · have h2e : ¬ x2 = y2 := fun h => he ⟨h1e, h⟩
            go_wp2_with fail
            go_region
            all_goals
              go_wp2_with fail
              go_ret
              rw [HT.out]
              exact ⟨rfl, Below.drew HB.out⟩
          · go_wp2_with fail
            go_region
            all_goals
              go_wp2_with fail
              go_ret
              rw [HT.out]
              exact ⟨rfl, Below.drew HB.out⟩
      · have HT : Hid (F = true) := Lib.hid (by
          rw [HF.out]
          exact decide_eq_true (List.ext_getElem hlm (fun q h1 h2 => hall.out q h1 h2 (by omega))))
        go_wp2_with fail
        go_ret
        rw [HT.out]
        exact ⟨rfl, HB.out⟩
  · have HT : Hid (F = false) := Lib.hid (by rw [HF.out]; exact decide_eq_false (fun h => hlm (by rw [h])))
    have hnm : ((L.length : Int) != (M.length : Int)) = true := by simpa using (show ¬ (L.length : Int) = (M.length : Int) by omega)
    go_enter Try.func18, Try.ntmps18
    go_wp2_with fail
    go_ret
    rw [HT.out]
    exact ⟨rfl, Below.refl _ _⟩
end Go.Proofs.Ytkjpficpkpfkdaa
