/- The reference's Reader: sized, ReadText, ReadCount. -/
import Derived.Test.YtepcihfkkeahhaaRr
namespace Go.Proofs.Ytepcihfkkeahhaa
open Go.ChangeShapes Go.WideShapes Go.ChangeAt Go.RowKit En

set_option maxRecDepth 100000 in
set_option maxHeartbeats 1000000 in
theorem rr_sized (b : Nat) (s : ByteArray) (st : St) (hs : s.size ≤ 1000000) (most too : Int) (htoo : too ≠ 0) (w : World) (h : RR w b s st) :
    Calls Try.prog 110 #[.pointer (qb b), .int .i64 most, .int .i64 too] w fun e w' => e = .returned (.int .i64 (rdG 0 (scanZ most too) s st).1) ∧ RR w' b s (rdG 0 (scanZ most too) s st).2 ∧ Gq w w' (qb b) := by
  have hn := rr_number b s st hs w h
  rw [rdG_size most too s st htoo h.2]
  obtain ⟨p, er⟩ := st
  have hp : p ≤ s.size := h.2
  have c1 := cell_of_row w b 1 _ _ _ h.1
  obtain ⟨⟨n, p2, e2⟩, hx⟩ : ∃ x, x = rdG 0 scan s (p, er) := ⟨_, rfl⟩
  rw [← hx] at hn ⊢
  clear hx h
  dsimp only at hn ⊢
  by_cases h0 : e2 = 0
  · subst h0
    rw [if_pos rfl]
    by_cases h1 : n < 0
    · rw [if_pos h1]
      go_enter Try.func110, Try.ntmps110
      go_wp2_with fail
      refine hn.mono ?_
      rintro e w1 ⟨rfl, hR, hG⟩
      have HR := Lib.hid hR
      have HG := Lib.hid hG
      have d2 := cell_of_row w1 b 2 _ _ _ hR.1
      have d1 := cell_of_row w1 b 1 _ _ _ hR.1
      have f2 := frozen_of_row w1 b 2 _ _ hR.1
      have f1 := frozen_of_row w1 b 1 _ _ hR.1
      clear hR hG hn c1
      go_wp2_with fail
      go_ret
      refine ⟨rfl, ⟨?_, hp⟩, gq_more (gq_more HG.out 2 _) 1 _⟩
      rw [blk_set _ (blk_set _ HR.out.1)]
      rfl
    · rw [if_neg h1]
      by_cases h2 : most < n
      · rw [if_pos h2]
        have ht := htoo
        go_enter Try.func110, Try.ntmps110
        go_wp2_with fail
        refine hn.mono ?_
        rintro e w1 ⟨rfl, hR, hG⟩
        have HR := Lib.hid hR
        have HG := Lib.hid hG
        have d2 := cell_of_row w1 b 2 _ _ _ hR.1
        have d1 := cell_of_row w1 b 1 _ _ _ hR.1
        have f2 := frozen_of_row w1 b 2 _ _ hR.1
        have f1 := frozen_of_row w1 b 1 _ _ hR.1
        clear hR hG hn c1
        go_wp2_with fail
        go_ret
        refine ⟨rfl, ⟨?_, hp⟩, gq_more (gq_more HG.out 2 _) 1 _⟩
        rw [blk_set _ (blk_set _ HR.out.1)]
        rfl
      · rw [if_neg h2]
        by_cases h3 : ((s.size - p2 : Nat) : Int) < n
        · rw [if_pos h3]
          go_enter Try.func110, Try.ntmps110
          go_wp2_with fail
          refine hn.mono ?_
          rintro e w1 ⟨rfl, hR, hG⟩
          have HR := Lib.hid hR
          have HG := Lib.hid hG
          have d2 := cell_of_row w1 b 2 _ _ _ hR.1
          have d0 := cell_of_row w1 b 0 _ _ _ hR.1
          have d1 := cell_of_row w1 b 1 _ _ _ hR.1
          have f2 := frozen_of_row w1 b 2 _ _ hR.1
          have f1 := frozen_of_row w1 b 1 _ _ hR.1
          have hp2 : p2 ≤ s.size := hR.2
          have hw1 : wrap64 ((s.size : Int) - (p2 : Int)) = ((s.size - p2 : Nat) : Int) := by unfold wrap64; omega
          have hw2 : IntKind.i64.wrap ((s.size : Int) - (p2 : Int)) = ((s.size - p2 : Nat) : Int) := by simp only [IntKind.wrap_i64]; omega
          have hw3 : (s.size : Int) - (p2 : Int) = ((s.size - p2 : Nat) : Int) := by omega
          clear hR hG hn c1
          go_wp2_with fail
          go_region
          go_wp2_with fail
          go_ret
          refine ⟨rfl, ⟨?_, hp⟩, ?_⟩
          · show ((w1.setCell _ _).setCell _ _).heap[b]? = _
            rw [blk_set _ (blk_set _ HR.out.1)]
            rfl
          · have := gq_more (gq_more HG.out 2 (.int .i64 4)) 1 (.int .i64 (p : Int))
            exact ⟨this.os, this.tape, this.output, this.size, this.block⟩
        · rw [if_neg h3]
          go_enter Try.func110, Try.ntmps110
          go_wp2_with fail
          refine hn.mono ?_
          rintro e w1 ⟨rfl, hR, hG⟩
          have HR := Lib.hid hR
          have HG := Lib.hid hG
          have d2 := cell_of_row w1 b 2 _ _ _ hR.1
          have d0 := cell_of_row w1 b 0 _ _ _ hR.1
          have d1 := cell_of_row w1 b 1 _ _ _ hR.1
          have hp2 : p2 ≤ s.size := hR.2
          have hw1 : wrap64 ((s.size : Int) - (p2 : Int)) = ((s.size - p2 : Nat) : Int) := by unfold wrap64; omega
          have hw2 : IntKind.i64.wrap ((s.size : Int) - (p2 : Int)) = ((s.size - p2 : Nat) : Int) := by simp only [IntKind.wrap_i64]; omega
          have hw3 : (s.size : Int) - (p2 : Int) = ((s.size - p2 : Nat) : Int) := by omega
          clear hR hG hn c1
          go_wp2_with fail
          go_region
          go_wp2_with fail
          go_ret
          exact ⟨rfl, HR.out, ⟨HG.out.os, HG.out.tape, HG.out.output, HG.out.size, HG.out.block⟩⟩
  · rw [if_neg h0]
    go_enter Try.func110, Try.ntmps110
    go_wp2_with fail
    refine hn.mono ?_
    rintro e w1 ⟨rfl, hR, hG⟩
    have HR := Lib.hid hR
    have HG := Lib.hid hG
    have d2 := cell_of_row w1 b 2 _ _ _ hR.1
    clear hR hG hn c1
    go_wp2_with fail
    go_ret
    exact ⟨rfl, HR.out, HG.out⟩
theorem rr_count (b : Nat) (s : ByteArray) (st : St) (hs : s.size ≤ 1000000) (most : Int) (w : World) (h : RR w b s st) :
    Calls Try.prog 59 #[.pointer (qb b), .int .i64 most] w fun e w' => e = .returned (.int .i64 (rdG 0 (scanZ most 6) s st).1) ∧ RR w' b s (rdG 0 (scanZ most 6) s st).2 ∧ Gq w w' (qb b) := by
  have hn := rr_sized b s st hs most 6 (by decide) w h
  obtain ⟨x, hx⟩ : ∃ x, x = rdG 0 (scanZ most 6) s st := ⟨_, rfl⟩
  rw [← hx] at hn ⊢
  clear hx h
  go_enter Try.func59, Try.ntmps59
  go_wp2_with fail
  refine hn.mono ?_
  rintro e w1 ⟨rfl, hR, hG⟩
  have HR := Lib.hid hR
  have HG := Lib.hid hG
  clear hR hG
  go_wp2_with fail
  go_ret
  exact ⟨rfl, HR.out, HG.out⟩
/-- A text is read as its size, and then that many bytes. -/
theorem rdG_text (most : Int) (s : ByteArray) (st : St) (hst : st.1 ≤ s.size) : ∃ n m : Nat, rdG 0 (scanZ most 5) s st = ((n : Int), (if (rdG 0 (scanZ most 5) s st).2.2 = 0 then m - n else st.1, (rdG 0 (scanZ most 5) s st).2.2)) ∧ n ≤ m ∧ m ≤ s.size ∧ ((rdG 0 (scanZ most 5) s st).2.2 ≠ 0 → n = 0 ∧ m = st.1) ∧
    rdG ByteArray.empty (scanT most) s st = (s.extract (m - n) m, (m, (rdG 0 (scanZ most 5) s st).2.2)) := by
  have hok := scanZ_ok most 5 (s.data.toList.drop st.1) (by decide)
  unfold rdG scanT
  obtain ⟨x, hx⟩ : ∃ x, x = scanZ most 5 (s.data.toList.drop st.1) := ⟨_, rfl⟩
  rw [← hx] at hok ⊢
  have hem : s.extract (st.1 - 0) st.1 = ByteArray.empty := by
    apply ByteArray.ext
    apply Array.ext'
    show (s.extract (st.1 - 0) st.1).data.toList = _
    rw [Lib.extract_data]
    simp
  by_cases h0 : st.2 = 0
  · simp only [h0, if_true]
    by_cases h1 : x.2.2 = 0
    · obtain ⟨n, k, e, hk, _⟩ := hok h1
      rw [drop_len] at hk
      refine ⟨n, st.1 + k + n, ?_, by omega, by omega, ?_, ?_⟩
      · rw [e]; simp
      · intro h; rw [if_pos h1] at h; exact absurd rfl h
      · rw [e]
        simp only [if_true, Int.toNat_natCast]
        have e2 : ((k : Int) + (n : Int)).toNat = k + n := by omega
        rw [e2]
        have e3 : st.1 + k + n - n = st.1 + k := by omega
        rw [e3, cut_mid s (st.1 + k) n, List.drop_drop]
        simp [Nat.add_assoc]
    · refine ⟨0, st.1, ?_, by omega, hst, fun _ => ⟨rfl, rfl⟩, ?_⟩
      · simp [h1]
      · simp only [h1, if_false]
        rw [hem]
  · refine ⟨0, st.1, ?_, by omega, hst, fun _ => ⟨rfl, rfl⟩, ?_⟩
    · simp [h0]
    · simp only [h0, if_false]
      rw [hem]
set_option maxRecDepth 100000 in
theorem rr_text (b : Nat) (s : ByteArray) (st : St) (hs : s.size ≤ 1000000) (most : Int) (w : World) (h : RR w b s st) :
    Calls Try.prog 58 #[.pointer (qb b), .int .i64 most] w fun e w' => e = .returned (.string (rdG ByteArray.empty (scanT most) s st).1) ∧ RR w' b s (rdG ByteArray.empty (scanT most) s st).2 ∧ Gq w w' (qb b) := by
  have hn := rr_sized b s st hs most 5 (by decide) w h
  obtain ⟨n, m, e1, h1, h2, h3, e2⟩ := rdG_text most s st h.2
  obtain ⟨E, hE⟩ : ∃ E, E = (rdG 0 (scanZ most 5) s st).2.2 := ⟨_, rfl⟩
  rw [← hE] at e1 h3 e2
  have e4 : (if E = 0 then m - n else st.1) = m - n := by
    by_cases h0 : E = 0
    · rw [if_pos h0]
    · rw [if_neg h0]; have := h3 h0; omega
  rw [e4] at e1
  rw [e1] at hn
  rw [e2]
  obtain ⟨k, hk⟩ : ∃ k, k = m - n := ⟨_, rfl⟩
  rw [← hk] at hn ⊢
  have hkn : (k : Int) + (n : Int) = (m : Int) := by omega
  have hw1 : wrap64 ((k : Int) + (n : Int)) = (m : Int) := by unfold wrap64; omega
  have hw2 : IntKind.i64.wrap ((k : Int) + (n : Int)) = (m : Int) := by simp only [IntKind.wrap_i64]; omega
  have hmn : (m : Int) - (n : Int) = (k : Int) := by omega
  have hw3 : wrap64 ((m : Int) - (n : Int)) = (k : Int) := by unfold wrap64; omega
  have hw4 : IntKind.i64.wrap ((m : Int) - (n : Int)) = (k : Int) := by simp only [IntKind.wrap_i64]; omega
  have hkm : k ≤ m := by omega
  clear h hE e1 e2 e4 h3 hk h1
  dsimp only at hn ⊢
  go_enter Try.func58, Try.ntmps58
  go_wp2_with fail
  refine hn.mono ?_
  rintro e w1 ⟨rfl, hR, hG⟩
  have HR := Lib.hid hR
  have HG := Lib.hid hG
  have d0 := cell_of_row w1 b 0 _ _ _ hR.1
  have d1 := cell_of_row w1 b 1 _ _ _ hR.1
  have f1 := frozen_of_row w1 b 1 _ _ hR.1
  clear hR hG hn
  go_wp2_with fail
  go_region
  go_wp2_with fail
  go_ret
  refine ⟨rfl, ⟨?_, h2⟩, ?_⟩
  · show (w1.setCell _ _).heap[b]? = _
    rw [blk_set _ HR.out.1]
    rfl
  · have := gq_more HG.out 1 (.int .i64 (m : Int))
    exact ⟨this.os, this.tape, this.output, this.size, this.block⟩
end Go.Proofs.Ytepcihfkkeahhaa
