/- The reference's CheckRuns. -/
import Derived.Test.YtacgomhegjilgaaGk
import Derived.Test.YtacgomhegjilgaaGa
import Derived.Test.YtacgomhegjilgaaBr
namespace Go.Proofs.Ytacgomhegjilgaa
open Go.ChangeShapes Go.WideShapes Go.ChangeAt Go.RowKit Ts

set_option maxRecDepth 100000 in
set_option maxHeartbeats 8000000 in
theorem checkRuns_any (A : Option Addr) (c : Nat) (L : List Iv) (hl : L.length ≤ 90000) (w : World) (hR : Rs w w.heap.size A (ivCells L)) :
    Calls Try.prog 19 #[.slice A L.length c] w fun e w' => e = .returned (.int .i64 (frE L)) ∧ Below w.heap.size w w' := by
  have HR := Lib.hid hR
  have HHit := Lib.hid (frE_hit L)
  have HOk := Lib.hid (frE_ok L)
  obtain ⟨F, hF⟩ : ∃ F, F = frE L := ⟨_, rfl⟩
  rw [← hF] at HHit HOk ⊢
  clear hR hF
  go_enter Try.func19, Try.ntmps19
  go_wp2_with fail
  go_loopw [3] (fun iv wr => ∃ j : Nat, j ≤ L.length ∧ iv = .int .i64 (j : Int) ∧ Hid (∀ q, q < j → erR L q = 0) ∧ Hid (Below w.heap.size w wr)) (fun iv _ => L.length - (intOf iv).toNat)
  case atStart => exact ⟨0, Nat.zero_le _, rfl, Lib.hid (fun q hq => absurd hq (by omega)), Lib.hid (Below.refl _ _)⟩
  case round =>
    obtain ⟨j, hj, rfl, HE, HB⟩ := hrel
    have hbsz := HB.out.size
    by_cases hlt : j < L.length
    · obtain ⟨g, off, rfl, hg, d0, d1⟩ := iv_at (HR.out.below HB.out) j hlt
      have Hb1 := Lib.hid (er_bad1 L j hlt)
      have Hb2 := Lib.hid (er_bad2 L j hlt)
      have Hb3 := Lib.hid (er_bad3 L j hlt)
      have hHit := HHit.out j hlt HE.out
      have HH := Lib.hid hHit
      obtain ⟨x, hx⟩ : ∃ x, x = L[j] := ⟨_, rfl⟩
      rw [← hx] at d0 d1 Hb1 Hb2 Hb3
      have HX := Lib.hid hx
      clear hx hHit
      obtain ⟨x1, x2⟩ := x
      dsimp only at d0 d1 Hb1 Hb2 Hb3
      have hjl : (j : Int) < (L.length : Int) := by omega
      have hj0 : (0 : Int) ≤ (j : Int) := by omega
      have hwn : IntKind.i64.wrap ((j : Int) + 1) = (j : Int) + 1 := by simp only [IntKind.wrap_i64]; omega
      have hgr : g < wr.heap.size := by omega
      have HS : Hid (∀ W, Gb wr W → W.cell? ⟨g, off + j * 2, none⟩ = some (.int .i64 x1) ∧ W.cell? ⟨g, off + j * 2 + 1, none⟩ = some (.int .i64 x2)) := Lib.hid (fun W h => ⟨(h.out.cell hgr).trans d0, (h.out.cell hgr).trans d1⟩)
      have CV : Calls Try.prog 15 #[.slice (some ⟨wr.heap.size, 0, none⟩) 2 2] (wr.alloc (.cells #[.int .i64 x1, .int .i64 x2] 3)).drew fun e w' => e = .returned (.bool ([x1, x2].all isR)) ∧ w' = (wr.alloc (.cells #[.int .i64 x1, .int .i64 x2] 3)).drew :=
        valid_any _ 2 [x1, x2] (by simp) _ (rs_blk (e := 3) (X := wr.heap.size) (cs := [.int .i64 x1, .int .i64 x2]) (Deep.blk_alloc_new wr _))
      have CV := Lib.hid CV
      cases hv : [x1, x2].all isR with
      | false =>
        have HF : Hid (F = 2) := Lib.hid (HH.out 2 (by
          cases h1 : isR x1 with
          | false => exact Hb1.out h1
          | true =>
            cases h2 : isR x2 with
            | false => exact Hb2.out h2
            | true => simp [h1, h2] at hv) (by decide))
        rw [hv] at CV
        go_wp2_with fail
        go_region_held3 (fun W => W.cell? ⟨g, off + j * 2, none⟩ = some (.int .i64 x1) ∧ W.cell? ⟨g, off + j * 2 + 1, none⟩ = some (.int .i64 x2))
          (exact HS.out _ (by ((repeat (first | (with_reducible assumption) | (with_reducible exact Gb.refl _) | (with_reducible refine Gb.call ?_ (by with_reducible assumption)) | (with_reducible refine Gb.alloc ?_ _) | (with_reducible refine Gb.drew ?_) | (with_reducible refine Gb.setCell ?_ (by omega) _))); (first | done | fail))))
          ((first
            | (go_at_call 15; refine CV.out.mono ?_; rintro e v1 ⟨rfl, hw⟩; subst hw)
            | fail))
        go_wp2_with fail
        go_ret
        exact ⟨by rw [HF.out]; rfl, HB.out.trans ((Gb.drew (Gb.alloc (Gb.refl wr) _)).out.mono HB.out.size)⟩
      | true =>
        obtain ⟨hr1, hr2⟩ : isR x1 = true ∧ isR x2 = true := by
          cases h1 : isR x1 with
          | false => simp [h1] at hv
          | true =>
            cases h2 : isR x2 with
            | false => simp [h2] at hv
            | true => exact ⟨rfl, rfl⟩
        have hx1 := (isR_iff x1).1 hr1
        have hx2 := (isR_iff x2).1 hr2
        rw [hv] at CV
        clear hv
        go_wp2_with fail
        go_region_held3 (fun W => W.cell? ⟨g, off + j * 2, none⟩ = some (.int .i64 x1) ∧ W.cell? ⟨g, off + j * 2 + 1, none⟩ = some (.int .i64 x2))
          (exact HS.out _ (by ((repeat (first | (with_reducible assumption) | (with_reducible exact Gb.refl _) | (with_reducible refine Gb.call ?_ (by with_reducible assumption)) | (with_reducible refine Gb.alloc ?_ _) | (with_reducible refine Gb.drew ?_) | (with_reducible refine Gb.setCell ?_ (by omega) _))); (first | done | fail))))
          ((first
            | (go_at_call 15; refine CV.out.mono ?_; rintro e v1 ⟨rfl, hw⟩; subst hw)
            | fail))
        go_wp2_with fail
        obtain ⟨W5, hW5⟩ : ∃ W5, W5 = (wr.alloc (.cells #[.int .i64 x1, .int .i64 x2] 3)).drew := ⟨_, rfl⟩
        have hG : Gb wr W5 := by rw [hW5]; exact Gb.drew (Gb.alloc (Gb.refl wr) _)
        have HB5 : Hid (Below w.heap.size w W5) := Lib.hid (HB.out.trans (hG.out.mono HB.out.size))
        have e0 := (HS.out W5 hG).1
        have e1 := (HS.out W5 hG).2
        have hs5 : wr.heap.size ≤ W5.heap.size := hG.out.size
        have hg5 : g < W5.heap.size := by omega
        rw [← hW5]
        clear hW5 hG d0 d1
        by_cases hlow : x2 < x1
        · have HF : Hid (F = 8) := Lib.hid (HH.out 8 (Hb3.out hr1 hr2 hlow) (by decide))
          have hld : decide (x2 < x1) = true := decide_eq_true hlow
          clear hr1 hr2 hlow
          go_quiet (fail)
          (refine (by assumption : ∀ _ _, _ → _) _ _ ?_)
          have HB6 := Lib.hid (below_drewN HB5.out nq)
          generalize World.drewN W5 nq = W6 at HB6 ⊢
          clear e0 e1
          go_wp2_with fail
          go_ret
          exact ⟨by rw [HF.out]; rfl, HB6.out⟩
        · have hlow2 : x1 ≤ x2 := by omega
          rcases Nat.eq_zero_or_pos j with h0 | hp
          · have HEj : Hid (erR L j = 0) := Lib.hid (by
              subst h0
              have a1 : L[0] = (x1, x2) := HX.out.symm
              exact er_ok0 L hlt (by rw [a1]; exact hr1) (by rw [a1]; exact hr2) (by rw [a1]; exact hlow))
            have hjd : decide ((0 : Int) < (j : Int)) = false := decide_eq_false (by omega)
            have hjn : ¬ ((0 : Int) < (j : Int)) := by omega
            have hjn2 : ¬ (0 < j) := by omega
            have hld : decide (x2 < x1) = false := decide_eq_false hlow
            have HZ := Lib.hid h0
            clear hr1 hr2 h0
            go_quiet (fail)
            (refine (by assumption : ∀ _ _, _ → _) _ _ ?_)
            have HB6 := Lib.hid (below_drewN HB5.out nq)
            generalize World.drewN W5 nq = W6 at HB6 ⊢
            clear e0 e1
            go_wp2_with fail
            go_roundw
            case rel => exact ⟨j + 1, by omega, by go_num, Lib.hid (fun q hq => by rcases Nat.lt_or_ge q j with h | h; exact HE.out q h; obtain rfl : q = j := (by omega); exact HEj.out), HB6⟩
            case measure => simp [intOf] <;> omega
          · obtain ⟨m, hm1⟩ : ∃ m, j = m + 1 := ⟨j - 1, by omega⟩
            have hml : m < L.length := by omega
            obtain ⟨g2, off2, eg, _, _, p1⟩ := iv_at (HR.out.below HB5.out) m hml
            simp only [Option.some.injEq, Addr.mk.injEq, and_true] at eg
            obtain ⟨rfl, rfl⟩ := eg
            have hy := er_row L m hml (HE.out m (by omega))
            have hy2 := (isR_iff _).1 hy.2
            obtain ⟨y, hyy⟩ : ∃ y, y = L[m].2 := ⟨_, rfl⟩
            rw [← hyy] at p1 hy2
            have hjp : (0 : Int) < (j : Int) := by omega
            have hjd : decide ((0 : Int) < (j : Int)) = true := decide_eq_true hjp
            have hjm : IntKind.i64.wrap ((j : Int) - 1) = (m : Int) := by simp only [IntKind.wrap_i64]; omega
            have hjm2 : wrap64 ((j : Int) - 1) = (m : Int) := by unfold wrap64; omega
            have hmI : (m : Int) < (L.length : Int) := by omega
            have hm0 : (0 : Int) ≤ (m : Int) := by omega
            have hwy : IntKind.i64.wrap (y + 1) = y + 1 := by simp only [IntKind.wrap_i64]; omega
            have hwy2 : wrap64 (y + 1) = y + 1 := by unfold wrap64; omega
            have HM1 := Lib.hid hm1
            have HYY := Lib.hid hyy
            clear hy hyy hm1
            by_cases hnear : x1 ≤ y + 1
            · have HF : Hid (F = 8) := Lib.hid (HH.out 8 (by
                have hm1 := HM1.out
                subst hm1
                have a1 : L[m + 1] = (x1, x2) := HX.out.symm
                exact er_bad4 L m hlt (by rw [a1]; exact hr1) (by rw [a1]; exact hr2) (by rw [a1, ← HYY.out]; exact hnear)) (by decide))
              clear hr1 hr2
              go_quiet (fail)
              (refine (by assumption : ∀ _ _, _ → _) _ _ ?_)
              have HB6 := Lib.hid (below_drewN HB5.out nq)
              generalize World.drewN W5 nq = W6 at HB6 ⊢
              clear e0 e1
              go_wp2_with fail
              go_ret
              exact ⟨by rw [HF.out]; rfl, HB6.out⟩
            · have HEj : Hid (erR L j = 0) := Lib.hid (by
                have hm1 := HM1.out
                subst hm1
                have a1 : L[m + 1] = (x1, x2) := HX.out.symm
                exact er_ok1 L m hlt (by rw [a1]; exact hr1) (by rw [a1]; exact hr2) (by rw [a1]; exact hlow) (by rw [a1, ← HYY.out]; exact hnear))
              clear hr1 hr2
              go_quiet (fail)
              (refine (by assumption : ∀ _ _, _ → _) _ _ ?_)
              have HB6 := Lib.hid (below_drewN HB5.out nq)
              generalize World.drewN W5 nq = W6 at HB6 ⊢
              clear e0 e1
              go_wp2_with fail
              go_roundw
              case rel => exact ⟨j + 1, by omega, by go_num, Lib.hid (fun q hq => by rcases Nat.lt_or_ge q j with h | h; exact HE.out q h; obtain rfl : q = j := (by omega); exact HEj.out), HB6⟩
              case measure => simp [intOf] <;> omega
    · obtain rfl : j = L.length := by omega
      have HF : Hid (F = 0) := Lib.hid (HOk.out HE.out)
      go_wp2_with fail
      go_ret
      exact ⟨by rw [HF.out]; rfl, HB.out⟩
end Go.Proofs.Ytacgomhegjilgaa
