/- slices.Equal at buckets, Equal, the law's at (written by wip/bin/gen_hia.py). -/
import Derived.Test.YtolgcphmmghlbaaHz
namespace Go.Proofs.Ytolgcphmmghlbaa
open Go.ChangeShapes Go.WideShapes Go.ChangeAt Go.RowKit Go.Joins

set_option maxRecDepth 100000 in
set_option maxHeartbeats 2000000 in
theorem sl_equal (A : Option Addr) (c : Nat) (L : List Iv) (hl : L.length ≤ 1000000) (B : Option Addr) (d : Nat) (M : List Iv) (hm : M.length ≤ 1000000) (w : World) (hR : Rs w w.heap.size A (ivCells L)) (hS : Rs w w.heap.size B (ivCells M)) :
    Calls Try.prog 41 #[.slice A L.length c, .slice B M.length d] w fun e w' => e = .returned (.bool (decide (L = M))) ∧ Below w.heap.size w w' := by
  have HR := Lib.hid hR
  have HS := Lib.hid hS
  obtain ⟨F, hF⟩ : ∃ F, F = decide (L = M) := ⟨_, rfl⟩
  rw [← hF]
  have HF := Lib.hid hF
  clear hR hS hF
  by_cases hlm : L.length = M.length
  · have hlm' : (L.length : Int) = (M.length : Int) := by omega
    have hnm : ((L.length : Int) != (M.length : Int)) = false := by simpa using hlm'
    clear hlm'
    go_enter Try.func41, Try.ntmps41
    go_wp2_with fail
    go_loopw [13] (fun iv wr => ∃ j : Nat, j ≤ L.length ∧ iv = .int .i64 (j : Int) ∧ Hid (∀ q (h : q < L.length) (h' : q < M.length), q < j → L[q] = M[q]) ∧ Hid (Below w.heap.size w wr)) (fun iv _ => L.length - (intOf iv).toNat)
    case atStart => exact ⟨0, Nat.zero_le _, rfl, Lib.hid (fun q _ _ hq => absurd hq (by omega)), Lib.hid (Below.refl _ _)⟩
    case round =>
      obtain ⟨j, hj, rfl, hall, HB⟩ := hrel
      by_cases hlt : j < L.length
      · have hlt2 : j < M.length := by omega
        obtain ⟨b, off, rfl, hb, h0, h1⟩ := iv_at (Rs.below HR.out HB.out) j hlt
        obtain ⟨b2, off2, rfl, hb2, k0, k1⟩ := iv_at (Rs.below HS.out HB.out) j hlt2
        obtain ⟨x, hx⟩ : ∃ x, x = L[j] := ⟨_, rfl⟩
        obtain ⟨y, hy⟩ : ∃ x, x = M[j] := ⟨_, rfl⟩
        rw [← hx] at h0 h1
        rw [← hy] at k0 k1
        have HX := Lib.hid hx
        have HY := Lib.hid hy
        clear hx hy
        obtain ⟨x1, x2⟩ := x
        obtain ⟨y1, y2⟩ := y
        dsimp only at h0 h1 k0 k1
        have hjl : (j : Int) < (L.length : Int) := by omega
        have hjm : (j : Int) < (M.length : Int) := by omega
        have hj0 : (0 : Int) ≤ (j : Int) := by omega
        by_cases he : x1 = y1 ∧ x2 = y2
        · obtain ⟨rfl, rfl⟩ := he
          go_wp2_with fail
          go_region
          all_goals
            go_wp2_with fail
            go_roundw
            case rel =>
              refine ⟨j + 1, by omega, by go_num, Lib.hid (fun q hq hq' hqj => ?_), Lib.hid (Below.drew HB.out)⟩
              by_cases e : q = j
              · subst e; rw [← HX.out, ← HY.out]
              · exact hall.out q hq hq' (by omega)
            case measure => simp [intOf]; omega
        · have HT : Hid (F = false) := Lib.hid (by
            rw [HF.out]
            refine decide_eq_false (fun h => he ?_)
            have e : L[j] = M[j] := by subst h; rfl
            rw [← HX.out, ← HY.out] at e
            exact ⟨congrArg Prod.fst e, congrArg Prod.snd e⟩)
          by_cases h1e : x1 = y1
          · have h2e : ¬ x2 = y2 := fun h => he ⟨h1e, h⟩
            go_wp2_with fail
            go_region
            all_goals
              go_wp2_with fail
              go_ret
              rw [HT.out]
              exact ⟨rfl, Below.drew HB.out⟩
          · go_wp2_with fail
            go_region
            all_goals
              go_wp2_with fail
              go_ret
              rw [HT.out]
              exact ⟨rfl, Below.drew HB.out⟩
      · have HT : Hid (F = true) := Lib.hid (by
          rw [HF.out]
          exact decide_eq_true (List.ext_getElem hlm (fun q h1 h2 => hall.out q h1 h2 (by omega))))
        go_wp2_with fail
        go_ret
        rw [HT.out]
        exact ⟨rfl, HB.out⟩
  · have HT : Hid (F = false) := Lib.hid (by rw [HF.out]; exact decide_eq_false (fun h => hlm (by rw [h])))
    have hnm : ((L.length : Int) != (M.length : Int)) = true := by simpa using (show ¬ (L.length : Int) = (M.length : Int) by omega)
    go_enter Try.func41, Try.ntmps41
    go_wp2_with fail
    go_ret
    rw [HT.out]
    exact ⟨rfl, Below.refl _ _⟩

set_option maxRecDepth 100000 in
set_option maxHeartbeats 4000000 in
theorem equal_any (A : Option Addr) (c : Nat) (L : List Iv) (hl : L.length ≤ 1000000) (B : Option Addr) (d : Nat) (M : List Iv) (hm : M.length ≤ 1000000) (w : World) (hR : Rs w w.heap.size A (ivCells L)) (hS : Rs w w.heap.size B (ivCells M)) :
    Calls Try.prog 31 #[.agg #[.slice A L.length c], .agg #[.slice B M.length d]] w fun e w' => e = .returned (.bool (decide (L = M))) ∧ Below w.heap.size w w' := by
  have HB0 : Hid (Below w.heap.size w ((w.alloc (.cells #[.slice A L.length c] 33)).alloc (.cells #[.slice B M.length d] 33))) := Lib.hid (((Below.refl _ _).alloc (Nat.le_refl _) _).alloc (by simp) _)
  have hz0 : ((w.alloc (.cells #[.slice A L.length c] 33)).alloc (.cells #[.slice B M.length d] 33)).heap.size = w.heap.size + 1 + 1 := by simp
  have HE := Lib.hid (sl_equal A c L hl B d M hm ((w.alloc (.cells #[.slice A L.length c] 33)).alloc (.cells #[.slice B M.length d] 33))
    (fun j hj => by
      obtain ⟨b, off, e, h1, h2⟩ := Rs.below hR HB0.out j hj
      exact ⟨b, off, e, Nat.lt_of_lt_of_le h1 HB0.out.size, h2⟩)
    (fun j hj => by
      obtain ⟨b, off, e, h1, h2⟩ := Rs.below hS HB0.out j hj
      exact ⟨b, off, e, Nat.lt_of_lt_of_le h1 HB0.out.size, h2⟩))
  obtain ⟨F, hF⟩ : ∃ F, F = decide (L = M) := ⟨_, rfl⟩
  rw [← hF] at HE ⊢
  clear hR hS hF hl hm
  go_enter Try.func31, Try.ntmps31
  go_wp2_with fail
  refine HE.out.mono ?_
  rintro e w1 ⟨rfl, hb⟩
  have HB := Lib.hid (HB0.out.trans (hb.mono (by rw [hz0]; omega)))
  clear hb
  go_wp2_with fail
  go_ret
  exact ⟨rfl, HB.out⟩
theorem bkN_has (cv : List Int) (n m : Nat) (hn : n < m) (h : cv.getD n 0 ≠ 0) : ((n : Int), cv.getD n 0) ∈ bkN cv m := by
  induction m with
  | zero => omega
  | succ m ih =>
    have hS : bkN cv (m + 1) = if cv.getD m 0 = 0 then bkN cv m else bkN cv m ++ [((m : Int), cv.getD m 0)] := rfl
    rw [hS]
    by_cases he : n = m
    · subst he; rw [if_neg h]; exact List.mem_append_right _ (List.mem_singleton.2 rfl)
    · have := ih (by omega)
      split
      · exact this
      · exact List.mem_append_left _ this
theorem bk_hit (cv : List Int) (x : Iv) (hx : x ∈ bk cv) (n : Nat) (h : x.1 = (n : Int)) : x.2 = cv.getD n 0 := by
  obtain ⟨m, h1, _, h3, _⟩ := bkN_mem cv 305 x hx
  rw [h3, show m = n by omega]
theorem bk_miss (cv : List Int) (n : Nat) (hn : n < 305) (h : ∀ j (hj : j < (bk cv).length), (bk cv)[j].1 ≠ (n : Int)) : cv.getD n 0 = 0 := by
  by_cases h0 : cv.getD n 0 = 0
  · exact h0
  · obtain ⟨j, hj, e⟩ := List.getElem_of_mem (bkN_has cv n 305 hn h0)
    exact absurd (congrArg Prod.fst e) (h j hj)
set_option maxRecDepth 100000 in
set_option maxHeartbeats 4000000 in
theorem at_any (A : Option Addr) (c : Nat) (cv : List Int) (n : Nat) (hn : n < 305) (w : World) (hR : Rs w w.heap.size A (ivCells (bk cv))) :
    Calls Try.prog 28 #[.agg #[.slice A (bk cv).length c], .int .i64 (n : Int)] w fun e w' => e = .returned (.int .i64 (cv.getD n 0)) ∧ Below w.heap.size w w' := by
  have HR := Lib.hid hR
  have HHit := Lib.hid (fun x hx => bk_hit cv x hx n)
  have HMiss := Lib.hid (bk_miss cv n hn)
  have hl := Cv.bklen cv
  have HK0 := Lib.hid (Deep.blk_alloc_new w (.cells #[.slice A (bk cv).length c] 33))
  obtain ⟨z, hz⟩ : ∃ z, z = cv.getD n 0 := ⟨_, rfl⟩
  rw [← hz] at HHit HMiss ⊢
  obtain ⟨L, hL⟩ : ∃ L, L = bk cv := ⟨_, rfl⟩
  rw [← hL] at HR HHit HMiss hl HK0 ⊢
  clear hR hz hL hn
  go_enter Try.func28, Try.ntmps28
  go_wp2_with fail
  go_loopw [5] (fun iv wr => ∃ j : Nat, j ≤ L.length ∧ iv = .int .i64 (j : Int) ∧ Hid (∀ q (hq : q < L.length), q < j → L[q].1 ≠ (n : Int)) ∧ Hid (wr.heap[w.heap.size]? = some (.cells #[.slice A L.length c] 33 (0, 0))) ∧ Hid (Below w.heap.size w wr)) (fun iv _ => L.length - (intOf iv).toNat)
  case atStart => exact ⟨0, Nat.zero_le _, rfl, Lib.hid (fun q hq h => absurd h (by omega)), HK0, Lib.hid ((Below.refl _ _).alloc (Nat.le_refl _) _)⟩
  case round =>
    obtain ⟨j, hj, rfl, HQ, HK, HB⟩ := hrel
    have k0 := cell_of_row wr w.heap.size 0 _ _ _ HK.out
    simp at k0
    have hj0 : (0 : Int) ≤ (j : Int) := by omega
    by_cases hlt : j < L.length
    · obtain ⟨b, off, rfl, hb, h0, h1⟩ := iv_at (Rs.below HR.out HB.out) j hlt
      have hhit := HHit.out _ (List.getElem_mem hlt)
      obtain ⟨x, hx⟩ : ∃ x, x = L[j] := ⟨_, rfl⟩
      have HX := Lib.hid hx
      rw [← hx] at h0 h1 hhit
      have HHt := Lib.hid hhit
      obtain ⟨x1, x2⟩ := x
      dsimp only at h0 h1
      have hjI : (j : Int) < (L.length : Int) := by omega
      have hw1 : IntKind.i64.wrap ((j : Int) + 1) = (j : Int) + 1 := by simp only [IntKind.wrap_i64]; omega
      clear hx hhit
      by_cases he : x1 = (n : Int)
      · have hz2 : x2 = z := HHt.out he
        subst hz2 he
        go_wp2_with fail
        go_ret
        exact ⟨rfl, HB.out⟩
      · have hne : (x1 == (n : Int)) = false := by rw [beq_eq_false_iff_ne]; exact he
        go_wp2_with fail
        go_roundw
        case rel =>
          refine ⟨j + 1, by omega, by go_num, Lib.hid (fun q hq hqj => ?_), HK, HB⟩
          by_cases e : q = j
          · subst e; rw [← HX.out]; exact he
          · exact HQ.out q hq (by omega)
        case measure => simp [intOf] <;> omega
    · obtain rfl : j = L.length := by omega
      have hz2 : z = 0 := HMiss.out (fun q hq => HQ.out q hq hq)
      go_wp2_with fail
      go_ret
      exact ⟨by rw [hz2]; rfl, HB.out⟩
end Go.Proofs.Ytolgcphmmghlbaa
