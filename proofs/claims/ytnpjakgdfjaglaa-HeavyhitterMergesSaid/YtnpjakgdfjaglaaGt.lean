/- The law's counters, same. -/
import Derived.Test.YtnpjakgdfjaglaaGk
import Derived.Deep.RegionHeld3
namespace Go.Proofs.Ytnpjakgdfjaglaa
open Go.ChangeShapes Go.WideShapes Go.ChangeAt Go.RowKit Go.Joins

theorem getD_ct {L : List Ct} (j : Nat) (h : j < L.length) : L.getD j (ByteArray.empty, 0) = L[j] := by
  simp [List.getD, List.getElem?_eq_getElem h]
set_option maxRecDepth 100000 in
set_option maxHeartbeats 2000000 in
theorem same_any (v u : Value) (L M : List Ct) (hl : L.length ≤ 1000000) (w : World) (hv : SlV w v L) (hu : SlV w u M) :
    Calls Try.prog 32 #[v, u] w fun e w' => e = .returned (.bool (decide (L = M))) ∧ Below w.heap.size w w' := by
  obtain ⟨A, c, rfl, _, _, hR⟩ := hv
  obtain ⟨B, d, rfl, _, _, hR2⟩ := hu
  by_cases hlen : L.length = M.length
  · have HR := Lib.hid hR
    have HR2 := Lib.hid hR2
    clear hR hR2
    rw [hlen]
    have HLen := Lib.hid hlen
    obtain ⟨m, hmm⟩ : ∃ m, m = M.length := ⟨_, rfl⟩
    have Hm := Lib.hid hmm
    rw [← hmm]
    rw [hlen, ← hmm] at hl
    clear hlen hmm
    go_enter Try.func32, Try.ntmps32
    go_wp2_with fail
    go_loopw [5] (fun iv wr => ∃ j : Nat, j ≤ m ∧ iv = .int .i64 (j : Int) ∧ Hid (∀ q, q < j → L.getD q (ByteArray.empty, 0) = M.getD q (ByteArray.empty, 0)) ∧ Hid (Below w.heap.size w wr)) (fun iv _ => m - (intOf iv).toNat)
    case atStart => exact ⟨0, Nat.zero_le _, rfl, Lib.hid (fun q hq => by omega), Lib.hid (Below.refl _ _)⟩
    case round =>
      obtain ⟨j, hj, rfl, HQ, HB⟩ := hrel
      by_cases hlt : j < m
      · have hltM : j < M.length := by rw [← Hm.out]; exact hlt
        have hltL : j < L.length := by rw [HLen.out]; exact hltM
        obtain ⟨b1, o1, rfl, hb1, h0, h1⟩ := (HR.out.below HB.out).at j hltL
        obtain ⟨b2, o2, rfl, hb2, g0, g1⟩ := (HR2.out.below HB.out).at j hltM
        have HX := Lib.hid (getD_ct j hltL)
        have HY := Lib.hid (getD_ct j hltM)
        obtain ⟨x, hx⟩ : ∃ x, x = L[j] := ⟨_, rfl⟩
        obtain ⟨y, hy⟩ : ∃ y, y = M[j] := ⟨_, rfl⟩
        rw [← hx] at h0 h1 HX
        rw [← hy] at g0 g1 HY
        obtain ⟨x1, x2⟩ := x
        obtain ⟨y1, y2⟩ := y
        dsimp only at h0 h1 g0 g1
        have hjI : (j : Int) < (m : Int) := by omega
        have hj0 : (0 : Int) ≤ (j : Int) := by omega
        have hw1 : IntKind.i64.wrap ((j : Int) + 1) = (j : Int) + 1 := by simp only [IntKind.wrap_i64]; omega
        clear hx hy hltL hltM
        by_cases hxy : x1 = y1 ∧ x2 = y2
        · obtain ⟨rfl, rfl⟩ := hxy
          have HQ2 : Hid (∀ q, q < j + 1 → L.getD q (ByteArray.empty, 0) = M.getD q (ByteArray.empty, 0)) := Lib.hid (fun q hq => by
            by_cases e : q = j
            · subst e; rw [HX.out, HY.out]
            · exact HQ.out q (by omega))
          go_wp2_with fail
          go_quiet (fail)
          go_wp2_with fail
          go_roundw
          case rel => exact ⟨j + 1, by omega, by go_num, HQ2, Lib.hid (below_drewN HB.out _)⟩
          case measure => simp [intOf] <;> omega
        · have HNe : Hid (decide (L = M) = false) := Lib.hid (decide_eq_false (fun e => by
            have h1 := HX.out
            rw [e, HY.out] at h1
            injection h1 with e1 e2
            exact hxy ⟨e1.symm, e2.symm⟩))
          by_cases hx1 : x1 = y1
          · subst hx1
            have hx2 : (x2 == y2) = false := by simpa using fun e => hxy ⟨rfl, e⟩
            clear hxy
            go_wp2_with fail
            go_quiet (fail)
            go_wp2_with fail
            go_ret
            exact ⟨by rw [HNe.out]; rfl, below_drewN HB.out _⟩
          · have hx1b : (x1.toList == y1.toList) = false := (Lib.bytes_beq_false_iff x1 y1).2 hx1
            clear hxy
            go_wp2_with fail
            go_quiet (fail)
            go_wp2_with fail
            go_ret
            exact ⟨by rw [HNe.out]; rfl, below_drewN HB.out _⟩
      · obtain rfl : j = m := by omega
        have HEq : Hid (decide (L = M) = true) := Lib.hid (decide_eq_true (List.ext_getElem HLen.out (fun i h1 h2 => by
          have := HQ.out i (by rw [Hm.out]; exact h2)
          rwa [getD_ct i h1, getD_ct i h2] at this)))
        go_wp2_with fail
        go_ret
        exact ⟨by rw [HEq.out]; rfl, HB.out⟩
  · have hd : ((L.length : Int) == (M.length : Int)) = false := by rw [beq_eq_false_iff_ne]; omega
    have HNe : Hid (decide (L = M) = false) := Lib.hid (decide_eq_false (fun e => hlen (by rw [e])))
    have hne : ¬ (L.length : Int) = (M.length : Int) := by omega
    clear hR hR2
    go_enter Try.func32, Try.ntmps32
    go_wp2_with fail
    go_ret
    exact ⟨by rw [HNe.out]; rfl, Below.refl _ _⟩

theorem slv_lit (w : World) (s t : ByteArray) (n m : Int) (T : TypeId) (hT : T = 27) : SlV (w.alloc (.cells #[.string s, .int .i64 n, .string t, .int .i64 m] T)) (.slice (some ⟨w.heap.size, 0, none⟩) 2 2) [(s, n), (t, m)] := by
  subst hT
  refine ⟨_, 2, rfl, Nat.le_refl _, (fun e => nomatch e), fun j hj => ?_⟩
  simp at hj
  refine ⟨_, 0, _, rfl, Deep.blk_alloc_new w _, ?_⟩
  rcases (show j = 0 ∨ j = 1 by omega) with rfl | rfl <;> simp
theorem lits_any (s t : ByteArray) (n m : Int) (w : World) :
    Calls Try.prog 37 #[.string s, .int .i64 n, .string t, .int .i64 m] w fun e w' => (∃ A c, e = .returned (.slice A 2 c) ∧ SlV w' (.slice A 2 c) [(s, n), (t, m)]) ∧ Below w.heap.size w w' := by
  go_enter Try.func37, Try.ntmps37
  go_wp2_with fail
  go_ret
  exact ⟨⟨_, _, rfl, slv_lit w s t n m _ rfl⟩, (Below.refl _ _).alloc (Nat.le_refl _) _⟩
end Go.Proofs.Ytnpjakgdfjaglaa
