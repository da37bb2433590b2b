/- Quantile where it answers; the law's same; known. -/
import Derived.Test.YtolgcphmmghlbaaHg
namespace Go.Proofs.Ytolgcphmmghlbaa
open Go.ChangeShapes Go.WideShapes Go.ChangeAt Go.RowKit Pl

set_option maxRecDepth 100000 in
set_option maxHeartbeats 2000000 in
theorem quantile_ok (A : Option Addr) (c : Nat) (L : List Iv) (hl : L.length ≤ 305) (hV : VB L) (t : Int) (ht : ttN L L.length = t) (ht1 : 1 ≤ t) (ht2 : t ≤ 1048576) (a d : Int) (hcan : canonB a d = true) (had : 0 ≤ a ∧ a ≤ d)
    (n : Nat) (hn : n < 305) (hio : ioL L (max (-(-t * a / d)) 1) = (n : Int)) (hr : -(-t * a / d) ≤ 1099511627776) (hr0 : -1099511627776 ≤ -(-t * a / d)) (w : World) (hR : Rs w w.heap.size A (ivCells L)) :
    Calls Try.prog 35 #[.agg #[.slice A L.length c], .agg #[.int .i64 a, .int .i64 d]] w fun e w' => e = .returned (.tuple #[.int .i64 ((loN n : Nat) : Int), .int .i64 ((hiN n : Nat) : Int), .int .i64 0]) ∧ Below w.heap.size w w' := by
  have hc := of_decide_eq_true hcan
  obtain ⟨c1, c2, c3, c4, _⟩ := hc
  have HT := Lib.hid (fun W (h : Rs W W.heap.size A (ivCells L)) => total_any A c L hl hV W h)
  rw [ht] at HT
  have HCk := Lib.hid (fun W => check_any a d (by omega) (by omega) (by omega) (by omega) W)
  rw [if_pos hcan] at HCk
  have HM := Lib.hid (fun W => mulCeil_any t a d (by omega) (by omega) c3 c4 c1 c2 W)
  obtain ⟨r, hrr⟩ : ∃ r : Int, r = -(-t * a / d) := ⟨_, rfl⟩
  rw [← hrr] at hio hr hr0 HM
  have HIo := Lib.hid (fun W (h : Rs W W.heap.size A (ivCells L)) => indexOf_any A c L hl hV (max r 1) (by omega) W h)
  rw [hio] at HIo
  have HBd := Lib.hid (fun W => bounds_ok n hn W)
  have HR := Lib.hid (fun W (hb : Below w.heap.size w W) => (fun j hj => by
    obtain ⟨b, off, e, h1, h2⟩ := Rs.below hR hb j hj
    exact ⟨b, off, e, Nat.lt_of_lt_of_le h1 hb.size, h2⟩ : Rs W W.heap.size A (ivCells L)))
  have HB0 : Hid (Below w.heap.size w ((w.alloc (.cells #[.slice A L.length c] 33)).alloc (.cells #[.int .i64 a, .int .i64 d] 58))) := Lib.hid (((Below.refl _ _).alloc (Nat.le_refl _) _).alloc (by simp) _)
  have hz0 : ((w.alloc (.cells #[.slice A L.length c] 33)).alloc (.cells #[.int .i64 a, .int .i64 d] 58)).heap.size = w.heap.size + 1 + 1 := by simp
  have HK0 := Lib.hid (blk_under w (.cells #[.slice A L.length c] 33) (.cells #[.int .i64 a, .int .i64 d] 58))
  have HQ0 := Lib.hid (blk_over w (.cells #[.slice A L.length c] 33) (.cells #[.int .i64 a, .int .i64 d] 58))
  obtain ⟨ln, hln⟩ : ∃ ln, ln = L.length := ⟨_, rfl⟩
  rw [← hln] at HT HIo HB0 HK0 HQ0 hz0 ⊢
  have hane : decide (a < 0) = false := by simp; omega
  have hdne : decide (d < a) = false := by simp; omega
  have htne : (t == 0) = false := by simp; omega
  clear hR hV hl hcan hrr hio hn hln ht
  go_enter Try.func35, Try.ntmps35
  go_wp2_with fail
  refine (HT.out _ (HR.out _ HB0.out)).mono ?_
  rintro e w1 ⟨rfl, hb⟩
  have HB1 := Lib.hid (HB0.out.trans (hb.mono HB0.out.size))
  have HK1 := Lib.hid ((hb.block w.heap.size (by rw [hz0]; omega)).trans HK0.out)
  have HQ1 := Lib.hid ((hb.block (w.heap.size + 1) (by rw [hz0]; omega)).trans HQ0.out)
  have q0 := cell_of_row w1 (w.heap.size + 1) 0 _ _ _ HQ1.out
  have q1 := cell_of_row w1 (w.heap.size + 1) 1 _ _ _ HQ1.out
  have k0 := cell_of_row w1 w.heap.size 0 _ _ _ HK1.out
  clear hb
  go_wp2_with fail
  refine (HCk.out _).mono ?_
  rintro e w2 ⟨rfl, hb⟩
  have HB2 := Lib.hid (HB1.out.trans (hb.mono HB1.out.size))
  have HK2 := Lib.hid ((hb.block w.heap.size ((Array.getElem?_eq_some_iff.1 HK1.out).1)).trans HK1.out)
  have HQ2 := Lib.hid ((hb.block (w.heap.size + 1) ((Array.getElem?_eq_some_iff.1 HQ1.out).1)).trans HQ1.out)
  clear q0 q1 k0 hb
  have q0 := cell_of_row w2 (w.heap.size + 1) 0 _ _ _ HQ2.out
  have q1 := cell_of_row w2 (w.heap.size + 1) 1 _ _ _ HQ2.out
  have k0 := cell_of_row w2 w.heap.size 0 _ _ _ HK2.out
  go_wp2_with fail
  refine (HM.out _).mono ?_
  rintro e w3 ⟨rfl, hb⟩
  have HB3 := Lib.hid (HB2.out.trans (hb.mono HB2.out.size))
  have HK3 := Lib.hid ((hb.block w.heap.size ((Array.getElem?_eq_some_iff.1 HK2.out).1)).trans HK2.out)
  clear q0 q1 k0 hb
  have k0 := cell_of_row w3 w.heap.size 0 _ _ _ HK3.out
  go_wp2_with fail
  refine (HIo.out _ (HR.out _ HB3.out)).mono ?_
  rintro e w4 ⟨rfl, hb⟩
  have HB4 := Lib.hid (HB3.out.trans (hb.mono HB3.out.size))
  clear k0 hb
  go_wp2_with fail
  refine (HBd.out _).mono ?_
  rintro e w5 ⟨rfl, hb⟩
  have HB5 := Lib.hid (HB4.out.trans (hb.mono HB4.out.size))
  clear hb
  go_wp2_with fail
  go_ret3
  exact ⟨rfl, HB5.out⟩
set_option maxRecDepth 100000 in
set_option maxHeartbeats 2000000 in
theorem same_any (A B : Option Addr) (c d : Nat) (L M : List Iv) (hl : L.length ≤ 1000000) (hm : M.length ≤ 1000000) (w : World) (hR : Rs w w.heap.size A (ivCells L)) (hR2 : Rs w w.heap.size B (ivCells M)) :
    Calls Try.prog 22 #[.agg #[.slice A L.length c], .slice B M.length d] w fun e w' => e = .returned (.bool (decide (L = M))) ∧ Below w.heap.size w w' := by
  by_cases hlen : L.length = M.length
  · have HR := Lib.hid hR
    have HR2 := Lib.hid hR2
    clear hR hR2
    have hne : (((M.length : Nat) : Int) == ((M.length : Nat) : Int)) = true := by simp
    rw [hlen]
    have HLen := Lib.hid hlen
    have HK0 := Lib.hid (Deep.blk_alloc_new w (.cells #[.slice A M.length c] 33))
    obtain ⟨m, hmm⟩ : ∃ m, m = M.length := ⟨_, rfl⟩
    have Hm := Lib.hid hmm
    rw [← hmm] at hm HK0 ⊢
    rw [hlen, ← hmm] at hl
    clear hlen hne hmm
    go_enter Try.func22, Try.ntmps22
    go_wp2_with fail
    go_loopw [5] (fun iv wr => ∃ j : Nat, j ≤ m ∧ iv = .int .i64 (j : Int) ∧ Hid (∀ q, q < j → L.getD q (0, 0) = M.getD q (0, 0)) ∧ Hid (wr.heap[w.heap.size]? = some (.cells #[.slice A m c] 33 (0, 0))) ∧ Hid (Below w.heap.size w wr)) (fun iv _ => m - (intOf iv).toNat)
    case atStart => exact ⟨0, Nat.zero_le _, rfl, Lib.hid (fun q hq => by omega), HK0, Lib.hid ((Below.refl _ _).alloc (Nat.le_refl _) _)⟩
    case round =>
      obtain ⟨j, hj, rfl, HQ, HK, HB⟩ := hrel
      have k0 := cell_of_row wr w.heap.size 0 _ _ _ HK.out
      by_cases hlt : j < m
      · have hltM : j < M.length := by rw [← Hm.out]; exact hlt
        have hltL : j < L.length := by rw [HLen.out]; exact hltM
        obtain ⟨b1, o1, rfl, _, h0, h1⟩ := iv_at (Rs.below HR.out HB.out) j hltL
        obtain ⟨b2, o2, rfl, _, g0, g1⟩ := iv_at (Rs.below HR2.out HB.out) j hltM
        have HX := Lib.hid (getD_iv j hltL)
        have HY := Lib.hid (getD_iv j hltM)
        obtain ⟨x, hx⟩ : ∃ x, x = L[j] := ⟨_, rfl⟩
        obtain ⟨y, hy⟩ : ∃ y, y = M[j] := ⟨_, rfl⟩
        rw [← hx] at h0 h1 HX
        rw [← hy] at g0 g1 HY
        obtain ⟨x1, x2⟩ := x
        obtain ⟨y1, y2⟩ := y
        dsimp only at h0 h1 g0 g1
        have hjI : (j : Int) < (m : Int) := by omega
        have hj0 : (0 : Int) ≤ (j : Int) := by omega
        have hw1 : IntKind.i64.wrap ((j : Int) + 1) = (j : Int) + 1 := by simp only [IntKind.wrap_i64]; omega
        clear hx hy hltL hltM
        by_cases hxy : x1 = y1 ∧ x2 = y2
        · obtain ⟨rfl, rfl⟩ := hxy
          have HQ2 : Hid (∀ q, q < j + 1 → L.getD q (0, 0) = M.getD q (0, 0)) := Lib.hid (fun q hq => by
            by_cases e : q = j
            · subst e; rw [HX.out, HY.out]
            · exact HQ.out q (by omega))
          go_wp2_with fail
          go_quiet (fail)
          go_wp2_with fail
          go_roundw
          case rel => exact ⟨j + 1, by omega, by go_num, HQ2, HK, Lib.hid (below_drewN HB.out _)⟩
          case measure => simp [intOf] <;> omega
        · have HN : Hid (decide (L = M) = false) := Lib.hid (by
            simp only [decide_eq_false_iff_not]
            intro e
            rw [e, HY.out] at HX
            have := HX.out
            injection this with e1 e2
            exact hxy ⟨e1.symm, e2.symm⟩)
          by_cases hx1 : x1 = y1
          · have hx2 : ¬ x2 = y2 := fun h => hxy ⟨hx1, h⟩
            have f2 : (x2 == y2) = false := by simpa using hx2
            subst hx1
            clear hxy
            go_wp2_with fail
            go_quiet (fail)
            go_wp2_with fail
            go_ret
            exact ⟨by rw [HN.out]; rfl, below_drewN HB.out _⟩
          · have f1 : (x1 == y1) = false := by simpa using hx1
            clear hxy
            go_wp2_with fail
            go_quiet (fail)
            go_wp2_with fail
            go_ret
            exact ⟨by rw [HN.out]; rfl, below_drewN HB.out _⟩
      · obtain rfl : j = m := by omega
        have HY : Hid (decide (L = M) = true) := Lib.hid (by
          simp only [decide_eq_true_eq]
          refine List.ext_getElem HLen.out fun q h1 h2 => ?_
          have := HQ.out q (by rw [Hm.out]; exact h2)
          rwa [getD_iv q h1, getD_iv q h2] at this)
        go_wp2_with fail
        go_ret
        exact ⟨by rw [HY.out]; rfl, HB.out⟩
  · have HN : Hid (decide (L = M) = false) := Lib.hid (by
      simp only [decide_eq_false_iff_not]
      intro e; exact hlen (by rw [e]))
    obtain ⟨n, hn⟩ : ∃ n, n = L.length := ⟨_, rfl⟩
    obtain ⟨m, hmm⟩ : ∃ m, m = M.length := ⟨_, rfl⟩
    rw [← hn, ← hmm] at hlen ⊢
    have hne : (((n : Nat) : Int) == ((m : Nat) : Int)) = false := by simp; omega
    have hne2 : (n == m) = false := by simpa using hlen
    clear hn hmm hR hR2
    go_enter Try.func22, Try.ntmps22
    go_wp2_with fail
    go_ret
    exact ⟨by rw [HN.out]; rfl, (Below.refl _ _).alloc (Nat.le_refl _) _⟩
end Go.Proofs.Ytolgcphmmghlbaa
