/- slices.Equal at counters, Equal (written by wip/bin/gen_hh22.py). -/
import Derived.Test.YtnpjakgdfjaglaaGw
import Derived.Deep.RegionHeld3
namespace Go.Proofs.Ytnpjakgdfjaglaa
open Go.ChangeShapes Go.WideShapes Go.ChangeAt Go.RowKit Go.Joins

set_option maxRecDepth 100000 in
set_option maxHeartbeats 2000000 in
theorem sleq_any (v u : Value) (L M : List Ct) (hl : L.length ≤ 1000000) (w : World) (hv : SlV w v L) (hu : SlV w u M) :
    Calls Try.prog 52 #[v, u] w fun e w' => e = .returned (.bool (decide (L = M))) ∧ Below w.heap.size w w' := by
  obtain ⟨A, c, rfl, _, _, hR⟩ := hv
  obtain ⟨B, d, rfl, _, _, hR2⟩ := hu
  by_cases hlen : L.length = M.length
  · have HR := Lib.hid hR
    have HR2 := Lib.hid hR2
    clear hR hR2
    rw [hlen]
    have HLen := Lib.hid hlen
    obtain ⟨m, hmm⟩ : ∃ m, m = M.length := ⟨_, rfl⟩
    have Hm := Lib.hid hmm
    rw [← hmm]
    rw [hlen, ← hmm] at hl
    clear hlen hmm
    go_enter Try.func52, Try.ntmps52
    go_wp2_with fail
    go_loopw [5, 13] (fun _v iv wr => ∃ j : Nat, j ≤ m ∧ iv = .int .i64 (j : Int) ∧ Hid (∀ q, q < j → L.getD q (ByteArray.empty, 0) = M.getD q (ByteArray.empty, 0)) ∧ Hid (Below w.heap.size w wr)) (fun _ iv _ => m - (intOf iv).toNat)
    case atStart => exact ⟨0, Nat.zero_le _, rfl, Lib.hid (fun q hq => by omega), Lib.hid (Below.refl _ _)⟩
    case round =>
      obtain ⟨j, hj, rfl, HQ, HB⟩ := hrel
      by_cases hlt : j < m
      · have hltM : j < M.length := by rw [← Hm.out]; exact hlt
        have hltL : j < L.length := by rw [HLen.out]; exact hltM
        obtain ⟨b1, o1, rfl, hb1, h0, h1⟩ := (HR.out.below HB.out).at j hltL
        obtain ⟨b2, o2, rfl, hb2, g0, g1⟩ := (HR2.out.below HB.out).at j hltM
        have HX := Lib.hid (getD_ct j hltL)
        have HY := Lib.hid (getD_ct j hltM)
        obtain ⟨x, hx⟩ : ∃ x, x = L[j] := ⟨_, rfl⟩
        obtain ⟨y, hy⟩ : ∃ y, y = M[j] := ⟨_, rfl⟩
        rw [← hx] at h0 h1 HX
        rw [← hy] at g0 g1 HY
        obtain ⟨x1, x2⟩ := x
        obtain ⟨y1, y2⟩ := y
        dsimp only at h0 h1 g0 g1
        have hjI : (j : Int) < (m : Int) := by omega
        have hj0 : (0 : Int) ≤ (j : Int) := by omega
        have hw1 : IntKind.i64.wrap ((j : Int) + 1) = (j : Int) + 1 := by simp only [IntKind.wrap_i64]; omega
        clear hx hy hltL hltM
        by_cases hxy : x1 = y1 ∧ x2 = y2
        · obtain ⟨rfl, rfl⟩ := hxy
          have HQ2 : Hid (∀ q, q < j + 1 → L.getD q (ByteArray.empty, 0) = M.getD q (ByteArray.empty, 0)) := Lib.hid (fun q hq => by
            by_cases e : q = j
            · subst e; rw [HX.out, HY.out]
            · exact HQ.out q (by omega))
          go_wp2_with fail
          go_quiet (fail)
          go_wp2_with fail
          go_roundw
          case rel => exact ⟨j + 1, by omega, by go_num, HQ2, Lib.hid (below_drewN HB.out _)⟩
          case measure => simp [intOf] <;> omega
        · have HNe : Hid (decide (L = M) = false) := Lib.hid (decide_eq_false (fun e => by
            have h1 := HX.out
            rw [e, HY.out] at h1
            injection h1 with e1 e2
            exact hxy ⟨e1.symm, e2.symm⟩))
          by_cases hx1 : x1 = y1
          · subst hx1
            have hx2 : (x2 == y2) = false := by simpa using fun e => hxy ⟨rfl, e⟩
            clear hxy
            go_wp2_with fail
            go_quiet (fail)
            go_wp2_with fail
            go_ret
            exact ⟨by rw [HNe.out]; rfl, below_drewN HB.out _⟩
          · have hx1b : (x1.toList == y1.toList) = false := (Lib.bytes_beq_false_iff x1 y1).2 hx1
            clear hxy
            go_wp2_with fail
            go_quiet (fail)
            go_wp2_with fail
            go_ret
            exact ⟨by rw [HNe.out]; rfl, below_drewN HB.out _⟩
      · obtain rfl : j = m := by omega
        have HEq : Hid (decide (L = M) = true) := Lib.hid (decide_eq_true (List.ext_getElem HLen.out (fun i h1 h2 => by
          have := HQ.out i (by rw [Hm.out]; exact h2)
          rwa [getD_ct i h1, getD_ct i h2] at this)))
        go_wp2_with fail
        go_ret
        exact ⟨by rw [HEq.out]; rfl, HB.out⟩
  · have hd : ((L.length : Int) == (M.length : Int)) = false := by rw [beq_eq_false_iff_ne]; omega
    have HNe : Hid (decide (L = M) = false) := Lib.hid (decide_eq_false (fun e => hlen (by rw [e])))
    have hne : ¬ (L.length : Int) = (M.length : Int) := by omega
    clear hR hR2
    go_enter Try.func52, Try.ntmps52
    go_wp2_with fail
    go_ret
    exact ⟨by rw [HNe.out]; rfl, Below.refl _ _⟩

set_option maxRecDepth 100000 in
set_option maxHeartbeats 4000000 in
theorem peq_any (v u : Value) (a b : Su) (hl : a.cs.length ≤ 1000000) (w : World) (hv : SuV w v a) (hu : SuV w u b) :
    Calls Try.prog 36 #[v, u] w fun e w' => e = .returned (.bool (eqS a b)) ∧ Below w.heap.size w w' := by
  obtain ⟨mo, to, lo, cs⟩ := a
  obtain ⟨mo', to', lo', cs'⟩ := b
  obtain ⟨x, rfl, hx⟩ := hv
  obtain ⟨y, rfl, hy⟩ := hu
  dsimp only at hl hx hy ⊢
  have HE : Hid (eqS ⟨mo, to, lo, cs⟩ ⟨mo', to', lo', cs'⟩ = (decide (mo = mo') && (decide (to = to') && (decide (lo = lo') && decide (cs = cs'))))) := Lib.hid rfl
  obtain ⟨r, hr⟩ : ∃ r, r = decide (cs = cs') := ⟨_, rfl⟩
  rw [← hr] at HE
  obtain ⟨q, hq⟩ : ∃ q, q = eqS ⟨mo, to, lo, cs⟩ ⟨mo', to', lo', cs'⟩ := ⟨_, rfl⟩
  rw [← hq] at HE ⊢
  have HX := Lib.hid hx
  have HY := Lib.hid hy
  obtain ⟨A, c, rfl, _⟩ := id hx
  obtain ⟨B, d, rfl, _⟩ := id hy
  have HR := Lib.hid hr
  obtain ⟨la, hla⟩ : ∃ la, la = cs.length := ⟨_, rfl⟩
  obtain ⟨lb, hlb⟩ : ∃ lb, lb = cs'.length := ⟨_, rfl⟩
  rw [← hla] at HX ⊢
  rw [← hlb] at HY ⊢
  clear hx hy hq hla hlb hr
  obtain ⟨W0, hW0⟩ : ∃ W0 : World, W0 = (w.alloc (.cells #[.int .i64 mo, .int .i64 to, .int .i64 lo, .slice A la c] 24)).alloc (.cells #[.int .i64 mo', .int .i64 to', .int .i64 lo', .slice B lb d] 24) := ⟨_, rfl⟩
  have HB0 : Hid (Below w.heap.size w W0) := Lib.hid (by rw [hW0]; exact ((Below.refl _ _).alloc (Nat.le_refl _) _).alloc (by simp) _)
  have g0 : W0.heap[w.heap.size]? = some (.cells #[.int .i64 mo, .int .i64 to, .int .i64 lo, .slice A la c] 24 (0, 0)) := by rw [hW0]; exact blk_under _ _ _
  have g1 : W0.heap[w.heap.size + 1]? = some (.cells #[.int .i64 mo', .int .i64 to', .int .i64 lo', .slice B lb d] 24 (0, 0)) := by rw [hW0]; exact blk_over _ _ _
  have HC : Hid (Calls Try.prog 52 #[.slice A la c, .slice B lb d] W0 fun e w'' => e = .returned (.bool r) ∧ Below W0.heap.size W0 w'') := Lib.hid (by
    have := sleq_any _ _ cs cs' hl W0 (HX.out.below HB0.out) (HY.out.below HB0.out)
    rw [← HR.out] at this; exact this)
  have HBe := HB0.out
  rw [hW0] at HBe
  have HBe := Lib.hid HBe
  clear g0 g1 HX HY HR
  go_enter Try.func36, Try.ntmps36
  have HW := Lib.hid hW0
  clear hW0
  by_cases h0 : mo = mo'
  · have b0 : (mo == mo') = true := by simpa using h0
    have H0 := Lib.hid h0
    clear h0
    by_cases h1 : to = to'
    · have b1 : (to == to') = true := by simpa using h1
      have H1 := Lib.hid h1
      clear h1
      by_cases h2 : lo = lo'
      · have b2 : (lo == lo') = true := by simpa using h2
        have HF : Hid (q = r) := Lib.hid (by rw [HE.out, decide_eq_true H0.out, decide_eq_true H1.out, decide_eq_true h2]; simp)
        clear h2
        go_wp2_with fail
        rw [← HW.out]
        refine HC.out.mono ?_
        rintro e w2 ⟨rfl, hb⟩
        have HB2 := Lib.hid (HB0.out.trans (hb.mono HB0.out.size))
        clear hb
        go_wp2_with fail
        go_ret
        exact ⟨by rw [HF.out]; rfl, HB2.out⟩
      · have b2 : (lo == lo') = false := by simpa using h2
        have HF : Hid (q = false) := Lib.hid (by rw [HE.out, decide_eq_false h2]; simp)
        clear h2
        go_wp2_with fail
        go_ret
        exact ⟨by rw [HF.out]; rfl, HBe.out⟩
    · have b1 : (to == to') = false := by simpa using h1
      have HF : Hid (q = false) := Lib.hid (by rw [HE.out, decide_eq_false h1]; simp)
      clear h1
      go_wp2_with fail
      go_ret
      exact ⟨by rw [HF.out]; rfl, HBe.out⟩
  · have b0 : (mo == mo') = false := by simpa using h0
    have HF : Hid (q = false) := Lib.hid (by rw [HE.out, decide_eq_false h0]; simp)
    clear h0
    go_wp2_with fail
    go_ret
    exact ⟨by rw [HF.out]; rfl, HBe.out⟩
end Go.Proofs.Ytnpjakgdfjaglaa
