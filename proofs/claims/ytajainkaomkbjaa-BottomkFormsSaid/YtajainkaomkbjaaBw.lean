/- Equal; the law's check of a key. -/
import Derived.Test.YtajainkaomkbjaaBv
import Derived.Deep.RegionHeld3
namespace Go.Proofs.Ytajainkaomkbjaa
open Go.ChangeShapes Go.WideShapes Go.ChangeAt Go.RowKit Go.Joins Bt

set_option maxRecDepth 100000 in
set_option maxHeartbeats 2000000 in
theorem sleq_any (v u : Value) (L M : List Ky) (hl : L.length ≤ 1000000) (w : World) (hv : SlV w v L) (hu : SlV w u M) :
    Calls Try.prog 44 #[v, u] w fun e w' => e = .returned (.bool (decide (L = M))) ∧ Below w.heap.size w w' := by
  obtain ⟨A, c, rfl, _, _, hR⟩ := hv
  obtain ⟨B, d, rfl, _, _, hR2⟩ := hu
  by_cases hlen : L.length = M.length
  · have HR := Lib.hid hR
    have HR2 := Lib.hid hR2
    clear hR hR2
    rw [hlen]
    have HLen := Lib.hid hlen
    obtain ⟨m, hmm⟩ : ∃ m, m = M.length := ⟨_, rfl⟩
    have Hm := Lib.hid hmm
    rw [← hmm]
    rw [hlen, ← hmm] at hl
    clear hlen hmm
    go_enter Try.func44, Try.ntmps44
    go_wp2_with fail
    go_loopw [5, 13] (fun _v iv wr => ∃ j : Nat, j ≤ m ∧ iv = .int .i64 (j : Int) ∧ Hid (∀ q, q < j → L.getD q (0, ByteArray.empty) = M.getD q (0, ByteArray.empty)) ∧ Hid (Below w.heap.size w wr)) (fun _ iv _ => m - (intOf iv).toNat)
    case atStart => exact ⟨0, Nat.zero_le _, rfl, Lib.hid (fun q hq => by omega), Lib.hid (Below.refl _ _)⟩
    case round =>
      obtain ⟨j, hj, rfl, HQ, HB⟩ := hrel
      by_cases hlt : j < m
      · have hltM : j < M.length := by rw [← Hm.out]; exact hlt
        have hltL : j < L.length := by rw [HLen.out]; exact hltM
        obtain ⟨b1, o1, rfl, hb1, h0, h1⟩ := (HR.out.below HB.out).at j hltL
        obtain ⟨b2, o2, rfl, hb2, g0, g1⟩ := (HR2.out.below HB.out).at j hltM
        have HX := Lib.hid (getD_ky j hltL)
        have HY := Lib.hid (getD_ky j hltM)
        obtain ⟨x, hx⟩ : ∃ x, x = L[j] := ⟨_, rfl⟩
        obtain ⟨y, hy⟩ : ∃ y, y = M[j] := ⟨_, rfl⟩
        rw [← hx] at h0 h1 HX
        rw [← hy] at g0 g1 HY
        obtain ⟨x1, x2⟩ := x
        obtain ⟨y1, y2⟩ := y
        dsimp only at h0 h1 g0 g1
        have hjI : (j : Int) < (m : Int) := by omega
        have hj0 : (0 : Int) ≤ (j : Int) := by omega
        have hw1 : IntKind.i64.wrap ((j : Int) + 1) = (j : Int) + 1 := by simp only [IntKind.wrap_i64]; omega
        clear hx hy hltL hltM
        by_cases hxy : x1 = y1 ∧ x2 = y2
        · obtain ⟨rfl, rfl⟩ := hxy
          have HQ2 : Hid (∀ q, q < j + 1 → L.getD q (0, ByteArray.empty) = M.getD q (0, ByteArray.empty)) := Lib.hid (fun q hq => by
            by_cases e : q = j
            · subst e; rw [HX.out, HY.out]
            · exact HQ.out q (by omega))
          go_wp2_with fail
          go_quiet (fail)
          go_wp2_with fail
          go_roundw
          case rel => exact ⟨j + 1, by omega, by go_num, HQ2, Lib.hid (below_drewN HB.out _)⟩
          case measure => simp [intOf] <;> omega
        · have HNe : Hid (decide (L = M) = false) := Lib.hid (decide_eq_false (fun e => by
            have h1 := HX.out
            rw [e, HY.out] at h1
            injection h1 with e1 e2
            exact hxy ⟨e1.symm, e2.symm⟩))
          by_cases hx1 : x1 = y1
          · subst hx1
            have hx2 : (x2.toList == y2.toList) = false := (Lib.bytes_beq_false_iff x2 y2).2 (fun e => hxy ⟨rfl, e⟩)
            clear hxy
            go_wp2_with fail
            go_quiet (fail)
            go_wp2_with fail
            go_ret
            exact ⟨by rw [HNe.out]; rfl, below_drewN HB.out _⟩
          · have hx1b : (x1 == y1) = false := by simpa using hx1
            clear hxy
            go_wp2_with fail
            go_quiet (fail)
            go_wp2_with fail
            go_ret
            exact ⟨by rw [HNe.out]; rfl, below_drewN HB.out _⟩
      · obtain rfl : j = m := by omega
        have HEq : Hid (decide (L = M) = true) := Lib.hid (decide_eq_true (List.ext_getElem HLen.out (fun i h1 h2 => by
          have := HQ.out i (by rw [Hm.out]; exact h2)
          rwa [getD_ky i h1, getD_ky i h2] at this)))
        go_wp2_with fail
        go_ret
        exact ⟨by rw [HEq.out]; rfl, HB.out⟩
  · have hd : ((L.length : Int) == (M.length : Int)) = false := by rw [beq_eq_false_iff_ne]; omega
    have HNe : Hid (decide (L = M) = false) := Lib.hid (decide_eq_false (fun e => hlen (by rw [e])))
    have hne : ¬ (L.length : Int) = (M.length : Int) := by omega
    clear hR hR2
    go_enter Try.func44, Try.ntmps44
    go_wp2_with fail
    go_ret
    exact ⟨by rw [HNe.out]; rfl, Below.refl _ _⟩
set_option maxRecDepth 100000 in
set_option maxHeartbeats 4000000 in
theorem equal_any (g h : Nat) (n sd n2 sd2 : Int) (x y : List Ky × Bool) (hl : x.1.length ≤ 1000000) (w : World) (hk : Sk w g n sd x) (hk2 : Sk w h n2 sd2 y) :
    Calls Try.prog 21 #[.pointer (some ⟨g, 0, none⟩), .pointer (some ⟨h, 0, none⟩)] w fun e w' => e = .returned (.bool (decide (n = n2 ∧ sd = sd2 ∧ x.2 = y.2 ∧ x.1 = y.1))) ∧ Below w.heap.size w w' := by
  obtain ⟨xl, xm⟩ := x
  obtain ⟨yl, ym⟩ := y
  dsimp only at hl ⊢
  obtain ⟨v, hv, hg⟩ := hk
  obtain ⟨u, hu, hh⟩ := hk2
  dsimp only at hg hh hv hu
  have HSE := Lib.hid (sleq_any v u xl yl hl w.drew hv hu)
  obtain ⟨A, c, rfl, _, _, _⟩ := hv
  obtain ⟨B, d, rfl, _, _, _⟩ := hu
  have hgl := (Array.getElem?_eq_some_iff.1 hg).1
  have hhl := (Array.getElem?_eq_some_iff.1 hh).1
  obtain ⟨ln, hln⟩ : ∃ ln, ln = xl.length := ⟨_, rfl⟩
  obtain ⟨lm, hlm⟩ : ∃ lm, lm = yl.length := ⟨_, rfl⟩
  rw [← hln] at HSE hg
  rw [← hlm] at HSE hh
  have HC : Hid (w.cell? ⟨g, 0, none⟩ = some (.int .i64 n) ∧ w.cell? ⟨g, 1, none⟩ = some (.int .i64 sd) ∧ w.cell? ⟨g, 2, none⟩ = some (.slice A ln c) ∧ w.cell? ⟨g, 3, none⟩ = some (.bool xm) ∧ w.cell? ⟨h, 0, none⟩ = some (.int .i64 n2) ∧ w.cell? ⟨h, 1, none⟩ = some (.int .i64 sd2) ∧ w.cell? ⟨h, 2, none⟩ = some (.slice B lm d) ∧ w.cell? ⟨h, 3, none⟩ = some (.bool ym)) := Lib.hid ⟨cell_of_row w g 0 _ _ _ hg, cell_of_row w g 1 _ _ _ hg, cell_of_row w g 2 _ _ _ hg, cell_of_row w g 3 _ _ _ hg, cell_of_row w h 0 _ _ _ hh, cell_of_row w h 1 _ _ _ hh, cell_of_row w h 2 _ _ _ hh, cell_of_row w h 3 _ _ _ hh⟩
  have HP : Hid (∀ W, Below w.heap.size w W → W.cell? ⟨g, 0, none⟩ = some (.int .i64 n) ∧ W.cell? ⟨g, 1, none⟩ = some (.int .i64 sd) ∧ W.cell? ⟨g, 2, none⟩ = some (.slice A ln c) ∧ W.cell? ⟨g, 3, none⟩ = some (.bool xm) ∧ W.cell? ⟨h, 0, none⟩ = some (.int .i64 n2) ∧ W.cell? ⟨h, 1, none⟩ = some (.int .i64 sd2) ∧ W.cell? ⟨h, 2, none⟩ = some (.slice B lm d) ∧ W.cell? ⟨h, 3, none⟩ = some (.bool ym)) := Lib.hid (fun W b => ⟨(b.cell hgl).trans HC.out.1, (b.cell hgl).trans HC.out.2.1, (b.cell hgl).trans HC.out.2.2.1, (b.cell hgl).trans HC.out.2.2.2.1, (b.cell hhl).trans HC.out.2.2.2.2.1, (b.cell hhl).trans HC.out.2.2.2.2.2.1, (b.cell hhl).trans HC.out.2.2.2.2.2.2.1, (b.cell hhl).trans HC.out.2.2.2.2.2.2.2⟩)
  have HD0 : Hid (Below w.heap.size w w.drew) := Lib.hid (Below.refl _ _).drew
  obtain ⟨r, hr⟩ : ∃ r, r = decide (xl = yl) := ⟨_, rfl⟩
  rw [← hr] at HSE
  have Hr := Lib.hid hr
  clear hg hh hl hln hlm hr
  go_enter Try.func21, Try.ntmps21
  go_wp2_with fail
  by_cases e1 : n = n2
  · subst e1
    by_cases e2 : sd = sd2
    · subst e2
      by_cases e3 : xm = ym
      · subst e3
        have d1 : (n == n) = true := by simp
        have d2 : (sd == sd) = true := by simp
        have d3 : (xm == xm) = true := by simp
        go_region_held3 (fun W => W.cell? ⟨g, 0, none⟩ = some (.int .i64 n) ∧ W.cell? ⟨g, 1, none⟩ = some (.int .i64 sd) ∧ W.cell? ⟨g, 2, none⟩ = some (.slice A ln c) ∧ W.cell? ⟨g, 3, none⟩ = some (.bool xm) ∧ W.cell? ⟨h, 0, none⟩ = some (.int .i64 n) ∧ W.cell? ⟨h, 1, none⟩ = some (.int .i64 sd) ∧ W.cell? ⟨h, 2, none⟩ = some (.slice B lm d) ∧ W.cell? ⟨h, 3, none⟩ = some (.bool xm))
          (first | exact HP.out _ HD1.out | exact HP.out _ HD0.out)
      ((first
        | (go_at_call 44; (with_reducible refine HSE.out.mono ?_); rintro e w1 ⟨rfl, hb1⟩; have HD1 : Hid (Below w.heap.size w w1) := Lib.hid (HD0.out.trans (hb1.mono HD0.out.size)); clear hb1)
        | fail))
        go_wp2_with fail
        go_ret
        exact ⟨by rw [Hr.out]; simp, HD1.out⟩
      · have d1 : (n == n) = true := by simp
        have d2 : (sd == sd) = true := by simp
        have d3 : (xm == ym) = false := by simpa using e3
        have HE := Lib.hid e3
        clear e3
        have HCC := HC.out
        obtain ⟨x0, x1, x2, x3, y0, y1, y2, y3⟩ := HCC
        go_quiet (fail)
        go_wp2_with fail
        go_ret
        exact ⟨by first | rfl | simp [HE.out], below_drewN (Below.refl _ _) _⟩
    · have d1 : (n == n) = true := by simp
      have d2 : (sd == sd2) = false := by simpa using e2
      have HE := Lib.hid e2
      clear e2
      have HCC := HC.out
      obtain ⟨x0, x1, x2, x3, y0, y1, y2, y3⟩ := HCC
      go_quiet (fail)
      go_wp2_with fail
      go_ret
      exact ⟨by first | rfl | simp [HE.out], below_drewN (Below.refl _ _) _⟩
  · have d1 : (n == n2) = false := by simpa using e1
    have HE := Lib.hid e1
    clear e1
    have HCC := HC.out
    obtain ⟨x0, x1, x2, x3, y0, y1, y2, y3⟩ := HCC
    go_quiet (fail)
    go_wp2_with fail
    go_ret
    exact ⟨by first | rfl | simp [HE.out], below_drewN (Below.refl _ _) _⟩
end Go.Proofs.Ytajainkaomkbjaa
