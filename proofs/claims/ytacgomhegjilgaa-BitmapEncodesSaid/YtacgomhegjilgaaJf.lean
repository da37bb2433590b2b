/- The reference's Decode (written by wip/bin/gen_jf.py). -/
import Derived.Test.YtacgomhegjilgaaJe
import Derived.Test.YtacgomhegjilgaaGc
namespace Go.Proofs.Ytacgomhegjilgaa
open Go.ChangeShapes Go.WideShapes Go.ChangeAt Go.RowKit Ts En

attribute [local go_sem] cast_not_neg
theorem fdB_pos {s : ByteArray} {j : Nat} {acc : List Iv} {nx : Int} (h : fdB s j = some (acc, nx)) : (j = 0 → nx = 0) ∧ (0 < j → 1 ≤ nx) := by
  induction j generalizing acc nx with
  | zero =>
    injection h with h; injection h with _ h
    exact ⟨fun _ => h.symm, fun h => absurd h (by omega)⟩
  | succ j ih =>
    refine ⟨fun h => absurd h (by omega), fun _ => ?_⟩
    cases hf : fdB s j with
    | none => rw [fdB_none hf] at h; cases h
    | some x =>
      obtain ⟨ac, n0⟩ := x
      have hp := ih hf
      by_cases hg : goodB n0 (rdP s (stB s j)).1 (rdP s (stB s j)).2.1
      · rw [fdB_good hf hg] at h
        injection h with h; injection h with _ h
        unfold goodB at hg
        have : 0 ≤ n0 := by
          rcases Nat.eq_zero_or_pos j with h0 | h0
          · have := hp.1 h0; omega
          · have := hp.2 h0; omega
        omega
      · rw [fdB_bad hf hg] at h; cases h
set_option maxRecDepth 100000 in
set_option maxHeartbeats 16000000 in
theorem ref_decode (s : ByteArray) (hs : s.size ≤ 1000000) (w : World) :
    Calls Try.prog 48 #[.string s] w fun e w' => (∃ v, e = .returned (.tuple #[v, .int .i64 (dcE s)]) ∧ w'.ownsRow w.heap.size 40 2 v (dcL s).length (ivCells (dcL s))) ∧ Below w.heap.size w w' := by
  have hA0 : Below w.heap.size w (w.alloc (.cells #[.string s, .int .i64 0, .int .i64 0] 96)) := (Below.refl _ _).alloc (Nat.le_refl _) _
  have hk0 : RR (w.alloc (.cells #[.string s, .int .i64 0, .int .i64 0] 96)) w.heap.size s (0, 0) := ⟨Deep.blk_alloc_new w _, Nat.zero_le _⟩
  obtain ⟨b, hb⟩ : ∃ b, b = w.heap.size := ⟨_, rfl⟩
  have CC := Lib.hid (fun W h => rr_count b s (0, 0) hs 1048576 W h)
  rw [(cntB_le s).2] at CC
  have CN := Lib.hid (fun st W h => rr_number b s st hs W h)
  have CE := Lib.hid (fun st W h => rr_end b s st hs W h)
  rw [hb] at CC CN CE
  have hn9 := (cntB_le s).1
  have HdE : Hid (dcE s = if endE s (stB s (cntB s)) = 0 then (match fdB s (cntB s) with | none => 3 | some _ => 0) else endE s (stB s (cntB s))) := Lib.hid rfl
  have HdL : Hid (dcL s = if endE s (stB s (cntB s)) = 0 then (match fdB s (cntB s) with | none => [] | some x => x.1) else []) := Lib.hid rfl
  obtain ⟨F, hF⟩ : ∃ F, F = dcE s := ⟨_, rfl⟩
  obtain ⟨M, hM⟩ : ∃ M, M = dcL s := ⟨_, rfl⟩
  rw [← hF] at HdE ⊢
  rw [← hM] at HdL ⊢
  have HStay := Lib.hid (fun j h k => stB_stay s j (cntB s) h k)
  obtain ⟨n, hn⟩ : ∃ n, n = cntB s := ⟨_, rfl⟩
  rw [← hn] at CC hn9 HdE HdL HStay
  have HA := Lib.hid hA0
  have HK := Lib.hid hk0
  obtain ⟨i0, hi0, hz0, hz1, hz2⟩ := info_parts info_two
  have Hi0 := Lib.hid hi0
  have Hz0 := Lib.hid hz0
  have Hz1 := Lib.hid hz1
  have Hz2 := Lib.hid hz2
  clear hA0 hk0 hF hM hn hi0 hz0 hz1 hz2 hb b
  go_enter Try.func48, Try.ntmps48
  go_wp2_with fail
  refine (CC.out _ HK.out).mono ?_
  rintro e w2 ⟨rfl, h2, g2⟩
  have HR2 : Hid (RR w2 w.heap.size s (stB s 0)) := Lib.hid h2
  have HB2 := Lib.hid (HA.out.grown g2 HA.out.size (by intro k h; cases h; exact Nat.le_refl _))
  have hz2 : w.heap.size < w2.heap.size := h2.lt
  clear h2 g2
  go_wp2_with fail
  go_loopw [5, 7, 8, 9] (fun u nv bv iv wr => ∃ (j : Nat) (acc : List Iv) (nx : Int) (f : Bool), j ≤ n ∧ iv = .int .i64 (j : Int) ∧ bv = .bool f ∧ nv = .int .i64 nx ∧ Hid (RR wr w.heap.size s (stB s j)) ∧ Hid (wr.ownsRow (w.heap.size + 1) 40 2 u acc.length (ivCells acc)) ∧ Hid (Below w.heap.size w wr) ∧ acc.length ≤ j ∧ Hid (0 ≤ nx ∧ nx ≤ 1048576) ∧ Hid (FdP (!f) (fdB s j) acc nx) ∧ w.heap.size < wr.heap.size) (fun _ _ _ iv _ => n - (intOf iv).toNat)
  case atStart => exact ⟨0, [], 0, false, Nat.zero_le _, rfl, rfl, rfl, HR2, Lib.hid ⟨rfl, Or.inl ⟨rfl, rfl⟩⟩, HB2, Nat.le_refl _, Lib.hid (by omega), Lib.hid rfl, hz2⟩
  case round =>
    obtain ⟨j, acc, nx, f, hj, rfl, rfl, rfl, HR, HO, HB, hal, HNx, HFd, hgr⟩ := hrel
    have d2 := cell_of_row wr w.heap.size 2 _ _ _ HR.out.1
    by_cases hlt : j < n
    · have hjI : (j : Int) < (n : Int) := by omega
      have hj0 : (0 : Int) ≤ (j : Int) := by omega
      by_cases her : (stB s j).2 = 0
      · rw [her] at d2
        have hw1 : IntKind.i64.wrap ((j : Int) + 1) = (j : Int) + 1 := by simp only [IntKind.wrap_i64]; omega
        have HSt : Hid (stB s (j + 1) = (rdG 0 scan s (rdG 0 scan s (stB s j)).2).2) := Lib.hid rfl
        have HGd := Lib.hid (fun h g => fdB_good (s := s) (j := j) (acc := acc) (nx := nx) h g)
        have HBd := Lib.hid (fun h g => fdB_bad (s := s) (j := j) (acc := acc) (nx := nx) h g)
        have HNn := Lib.hid (fun h => fdB_none (s := s) (j := j) h)
        have C1 := Lib.hid (CN.out (stB s j) wr HR.out)
        unfold rdP at HGd HBd
        obtain ⟨m, hm⟩ : ∃ m, m = (rdG 0 scan s (stB s j)).1 := ⟨_, rfl⟩
        obtain ⟨t, ht⟩ : ∃ t, t = (rdG 0 scan s (stB s j)).2 := ⟨_, rfl⟩
        rw [← hm, ← ht] at C1 HGd
        rw [← hm, ← ht] at HBd
        rw [← ht] at HSt
        have C2 := Lib.hid (CN.out t)
        obtain ⟨z, hz⟩ : ∃ z, z = (rdG 0 scan s t).1 := ⟨_, rfl⟩
        obtain ⟨t2, ht2⟩ : ∃ t2, t2 = (rdG 0 scan s t).2 := ⟨_, rfl⟩
        rw [← hz] at C2 HGd HBd
        rw [← ht2] at C2 HSt
        have hnx := HNx.out
        have hwn : IntKind.i64.wrap nx = nx := by simp only [IntKind.wrap_i64]; omega
        have hwn1 : IntKind.i64.wrap (nx - 1) = nx - 1 := by simp only [IntKind.wrap_i64]; omega
        -- what a round does, good or bad
        have HBad : Hid (¬ goodB nx m z → FdP false (fdB s (j + 1)) (acc ++ [(nx, nx - 1)]) nx) := Lib.hid (fun h => by
          cases f with
          | true => exact HNn.out HFd.out
          | false => exact HBd.out HFd.out h)
        have HGood : Hid (goodB nx m z → FdP (!f) (fdB s (j + 1)) (acc ++ [(nx + m, nx + m + z - 1)]) (nx + m + z)) := Lib.hid (fun h => by
          cases f with
          | true => exact HNn.out HFd.out
          | false => exact HGd.out HFd.out h)
        have HPos : Hid (f = false → (j = 0 → nx = 0) ∧ (0 < j → 1 ≤ nx)) := Lib.hid (fun h => by
          subst h
          exact fdB_pos (s := s) (acc := acc) HFd.out)
        have HBadF : Hid (f = true → FdP false (fdB s (j + 1)) (acc ++ [(nx, nx - 1)]) nx) := Lib.hid (fun h => by subst h; exact HNn.out HFd.out)
        have HGoodF : Hid (f = true → FdP (!f) (fdB s (j + 1)) (acc ++ [(nx + m, nx + m + z - 1)]) (nx + m + z)) := Lib.hid (fun h => by subst h; exact HNn.out HFd.out)
        clear hm ht hz ht2 HR her
        by_cases c1 : m < 0
        · skip
          have HF1 : Hid (FdP (!true) (fdB s (j + 1)) (acc ++ [(nx, nx - 1)]) (nx)) := Lib.hid (by cases hf : f with | true => exact HBadF.out hf | false => exact HBad.out (fun h => by unfold goodB at h; omega))
          have hX : 0 ≤ nx ∧ nx ≤ 1048576 := by omega
          go_wp2_with fail
          refine C1.out.mono ?_
          rintro e w3 ⟨rfl, h3, g3⟩
          have HR3 := Lib.hid h3
          have HO3 := Lib.hid (HO.out.kept g3 (.inr (row_ne_low HO.out (Nat.lt_succ_self _)).symm))
          have HB3 := Lib.hid (HB.out.grown g3 HB.out.size (by intro k h; cases h; exact Nat.le_refl _))
          clear h3 g3
          go_wp2_with fail
          refine (C2.out _ HR3.out).mono ?_
          rintro e w4 ⟨rfl, h4, g4⟩
          have HR4 : Hid (RR w4 w.heap.size s (stB s (j + 1))) := Lib.hid (by rw [HSt.out]; exact h4)
          have HO4 := Lib.hid (HO3.out.kept g4 (.inr (row_ne_low HO3.out (Nat.lt_succ_self _)).symm))
          have HB4 := Lib.hid (HB3.out.grown g4 HB3.out.size (by intro k h; cases h; exact Nat.le_refl _))
          have hg4 : w.heap.size < w4.heap.size := h4.lt
          clear h4 g4
          have HOa := Lib.hid (HO4.out.alloc (.cells #[.int .i64 (nx), .int .i64 (nx - 1)] 40))
          have HBa : Hid (Below w4.heap.size w4 (w4.alloc (.cells #[.int .i64 (nx), .int .i64 (nx - 1)] 40))) := Lib.hid ((Below.refl _ _).alloc (Nat.le_refl _) _)
          go_wp2_with (at_builtin; refine wpList_append_agg rfl (.tmp 58) (.tmp 69) 37 rfl (w.heap.size + 1) 40 i0 _ 2 16 Try.underlying37 Hi0.out Hz0.out Hz1.out Hz2.out rfl (by decide) _ acc.length _ rfl HOa.out w4.heap.size 1 [.int .i64 (nx), .int .i64 (nx - 1)] 40 rfl (by simp [go_sem]) (Deep.blk_alloc_new w4 _) (by simp [Value.oneCell']) (by omega) (by omega) (by simp; omega) ?_; intro v5 w5 hown5 hg5; have HO5 := Lib.hid hown5; have HG5 := Lib.hid (gr_below HBa.out hg5); clear hown5 hg5)
          go_roundw
          case rel =>
            have hne : some w.heap.size ≠ Value.ownBlock u5 := row_ne_low HO4.out (Nat.lt_succ_self _)
            refine ⟨j + 1, acc ++ [(nx, nx - 1)], nx, true, by omega, by go_num, rfl, by first | rfl | go_num, Lib.hid ⟨(HG5.out.block w.heap.size hg4 hne).trans HR4.out.1, HR4.out.2⟩, Lib.hid ?_, Lib.hid ?_, by rw [List.length_append, List.length_singleton]; omega, Lib.hid (by omega), HF1, by have := HG5.out.size; omega⟩
            · rw [iv_snoc, List.length_append]; exact HO5.out
            · exact below_grownk HB4.out HO4.out HG5.out (by omega) (Nat.le_refl _)
          case measure => simp [intOf] <;> omega
        · by_cases c2 : 1048576 < m
          · skip
            have HF1 : Hid (FdP (!true) (fdB s (j + 1)) (acc ++ [(nx, nx - 1)]) (nx)) := Lib.hid (by cases hf : f with | true => exact HBadF.out hf | false => exact HBad.out (fun h => by unfold goodB at h; omega))
            have hX : 0 ≤ nx ∧ nx ≤ 1048576 := by omega
            go_wp2_with fail
            refine C1.out.mono ?_
            rintro e w3 ⟨rfl, h3, g3⟩
            have HR3 := Lib.hid h3
            have HO3 := Lib.hid (HO.out.kept g3 (.inr (row_ne_low HO.out (Nat.lt_succ_self _)).symm))
            have HB3 := Lib.hid (HB.out.grown g3 HB.out.size (by intro k h; cases h; exact Nat.le_refl _))
            clear h3 g3
            go_wp2_with fail
            refine (C2.out _ HR3.out).mono ?_
            rintro e w4 ⟨rfl, h4, g4⟩
            have HR4 : Hid (RR w4 w.heap.size s (stB s (j + 1))) := Lib.hid (by rw [HSt.out]; exact h4)
            have HO4 := Lib.hid (HO3.out.kept g4 (.inr (row_ne_low HO3.out (Nat.lt_succ_self _)).symm))
            have HB4 := Lib.hid (HB3.out.grown g4 HB3.out.size (by intro k h; cases h; exact Nat.le_refl _))
            have hg4 : w.heap.size < w4.heap.size := h4.lt
            clear h4 g4
            have HOa := Lib.hid (HO4.out.alloc (.cells #[.int .i64 (nx), .int .i64 (nx - 1)] 40))
            have HBa : Hid (Below w4.heap.size w4 (w4.alloc (.cells #[.int .i64 (nx), .int .i64 (nx - 1)] 40))) := Lib.hid ((Below.refl _ _).alloc (Nat.le_refl _) _)
            go_wp2_with (at_builtin; refine wpList_append_agg rfl (.tmp 58) (.tmp 69) 37 rfl (w.heap.size + 1) 40 i0 _ 2 16 Try.underlying37 Hi0.out Hz0.out Hz1.out Hz2.out rfl (by decide) _ acc.length _ rfl HOa.out w4.heap.size 1 [.int .i64 (nx), .int .i64 (nx - 1)] 40 rfl (by simp [go_sem]) (Deep.blk_alloc_new w4 _) (by simp [Value.oneCell']) (by omega) (by omega) (by simp; omega) ?_; intro v5 w5 hown5 hg5; have HO5 := Lib.hid hown5; have HG5 := Lib.hid (gr_below HBa.out hg5); clear hown5 hg5)
            go_roundw
            case rel =>
              have hne : some w.heap.size ≠ Value.ownBlock u5 := row_ne_low HO4.out (Nat.lt_succ_self _)
              refine ⟨j + 1, acc ++ [(nx, nx - 1)], nx, true, by omega, by go_num, rfl, by first | rfl | go_num, Lib.hid ⟨(HG5.out.block w.heap.size hg4 hne).trans HR4.out.1, HR4.out.2⟩, Lib.hid ?_, Lib.hid ?_, by rw [List.length_append, List.length_singleton]; omega, Lib.hid (by omega), HF1, by have := HG5.out.size; omega⟩
              · rw [iv_snoc, List.length_append]; exact HO5.out
              · exact below_grownk HB4.out HO4.out HG5.out (by omega) (Nat.le_refl _)
            case measure => simp [intOf] <;> omega
          · by_cases c3 : z < 1
            · skip
              have HF1 : Hid (FdP (!true) (fdB s (j + 1)) (acc ++ [(nx, nx - 1)]) (nx)) := Lib.hid (by cases hf : f with | true => exact HBadF.out hf | false => exact HBad.out (fun h => by unfold goodB at h; omega))
              have hX : 0 ≤ nx ∧ nx ≤ 1048576 := by omega
              go_wp2_with fail
              refine C1.out.mono ?_
              rintro e w3 ⟨rfl, h3, g3⟩
              have HR3 := Lib.hid h3
              have HO3 := Lib.hid (HO.out.kept g3 (.inr (row_ne_low HO.out (Nat.lt_succ_self _)).symm))
              have HB3 := Lib.hid (HB.out.grown g3 HB.out.size (by intro k h; cases h; exact Nat.le_refl _))
              clear h3 g3
              go_wp2_with fail
              refine (C2.out _ HR3.out).mono ?_
              rintro e w4 ⟨rfl, h4, g4⟩
              have HR4 : Hid (RR w4 w.heap.size s (stB s (j + 1))) := Lib.hid (by rw [HSt.out]; exact h4)
              have HO4 := Lib.hid (HO3.out.kept g4 (.inr (row_ne_low HO3.out (Nat.lt_succ_self _)).symm))
              have HB4 := Lib.hid (HB3.out.grown g4 HB3.out.size (by intro k h; cases h; exact Nat.le_refl _))
              have hg4 : w.heap.size < w4.heap.size := h4.lt
              clear h4 g4
              have HOa := Lib.hid (HO4.out.alloc (.cells #[.int .i64 (nx), .int .i64 (nx - 1)] 40))
              have HBa : Hid (Below w4.heap.size w4 (w4.alloc (.cells #[.int .i64 (nx), .int .i64 (nx - 1)] 40))) := Lib.hid ((Below.refl _ _).alloc (Nat.le_refl _) _)
              go_wp2_with (at_builtin; refine wpList_append_agg rfl (.tmp 58) (.tmp 69) 37 rfl (w.heap.size + 1) 40 i0 _ 2 16 Try.underlying37 Hi0.out Hz0.out Hz1.out Hz2.out rfl (by decide) _ acc.length _ rfl HOa.out w4.heap.size 1 [.int .i64 (nx), .int .i64 (nx - 1)] 40 rfl (by simp [go_sem]) (Deep.blk_alloc_new w4 _) (by simp [Value.oneCell']) (by omega) (by omega) (by simp; omega) ?_; intro v5 w5 hown5 hg5; have HO5 := Lib.hid hown5; have HG5 := Lib.hid (gr_below HBa.out hg5); clear hown5 hg5)
              go_roundw
              case rel =>
                have hne : some w.heap.size ≠ Value.ownBlock u5 := row_ne_low HO4.out (Nat.lt_succ_self _)
                refine ⟨j + 1, acc ++ [(nx, nx - 1)], nx, true, by omega, by go_num, rfl, by first | rfl | go_num, Lib.hid ⟨(HG5.out.block w.heap.size hg4 hne).trans HR4.out.1, HR4.out.2⟩, Lib.hid ?_, Lib.hid ?_, by rw [List.length_append, List.length_singleton]; omega, Lib.hid (by omega), HF1, by have := HG5.out.size; omega⟩
                · rw [iv_snoc, List.length_append]; exact HO5.out
                · exact below_grownk HB4.out HO4.out HG5.out (by omega) (Nat.le_refl _)
              case measure => simp [intOf] <;> omega
            · by_cases c4 : 1048576 < z
              · skip
                have HF1 : Hid (FdP (!true) (fdB s (j + 1)) (acc ++ [(nx, nx - 1)]) (nx)) := Lib.hid (by cases hf : f with | true => exact HBadF.out hf | false => exact HBad.out (fun h => by unfold goodB at h; omega))
                have hX : 0 ≤ nx ∧ nx ≤ 1048576 := by omega
                go_wp2_with fail
                refine C1.out.mono ?_
                rintro e w3 ⟨rfl, h3, g3⟩
                have HR3 := Lib.hid h3
                have HO3 := Lib.hid (HO.out.kept g3 (.inr (row_ne_low HO.out (Nat.lt_succ_self _)).symm))
                have HB3 := Lib.hid (HB.out.grown g3 HB.out.size (by intro k h; cases h; exact Nat.le_refl _))
                clear h3 g3
                go_wp2_with fail
                refine (C2.out _ HR3.out).mono ?_
                rintro e w4 ⟨rfl, h4, g4⟩
                have HR4 : Hid (RR w4 w.heap.size s (stB s (j + 1))) := Lib.hid (by rw [HSt.out]; exact h4)
                have HO4 := Lib.hid (HO3.out.kept g4 (.inr (row_ne_low HO3.out (Nat.lt_succ_self _)).symm))
                have HB4 := Lib.hid (HB3.out.grown g4 HB3.out.size (by intro k h; cases h; exact Nat.le_refl _))
                have hg4 : w.heap.size < w4.heap.size := h4.lt
                clear h4 g4
                have HOa := Lib.hid (HO4.out.alloc (.cells #[.int .i64 (nx), .int .i64 (nx - 1)] 40))
                have HBa : Hid (Below w4.heap.size w4 (w4.alloc (.cells #[.int .i64 (nx), .int .i64 (nx - 1)] 40))) := Lib.hid ((Below.refl _ _).alloc (Nat.le_refl _) _)
                go_wp2_with (at_builtin; refine wpList_append_agg rfl (.tmp 58) (.tmp 69) 37 rfl (w.heap.size + 1) 40 i0 _ 2 16 Try.underlying37 Hi0.out Hz0.out Hz1.out Hz2.out rfl (by decide) _ acc.length _ rfl HOa.out w4.heap.size 1 [.int .i64 (nx), .int .i64 (nx - 1)] 40 rfl (by simp [go_sem]) (Deep.blk_alloc_new w4 _) (by simp [Value.oneCell']) (by omega) (by omega) (by simp; omega) ?_; intro v5 w5 hown5 hg5; have HO5 := Lib.hid hown5; have HG5 := Lib.hid (gr_below HBa.out hg5); clear hown5 hg5)
                go_roundw
                case rel =>
                  have hne : some w.heap.size ≠ Value.ownBlock u5 := row_ne_low HO4.out (Nat.lt_succ_self _)
                  refine ⟨j + 1, acc ++ [(nx, nx - 1)], nx, true, by omega, by go_num, rfl, by first | rfl | go_num, Lib.hid ⟨(HG5.out.block w.heap.size hg4 hne).trans HR4.out.1, HR4.out.2⟩, Lib.hid ?_, Lib.hid ?_, by rw [List.length_append, List.length_singleton]; omega, Lib.hid (by omega), HF1, by have := HG5.out.size; omega⟩
                  · rw [iv_snoc, List.length_append]; exact HO5.out
                  · exact below_grownk HB4.out HO4.out HG5.out (by omega) (Nat.le_refl _)
                case measure => simp [intOf] <;> omega
              · have hw4 : IntKind.i64.wrap (nx + m) = nx + m := by simp only [IntKind.wrap_i64]; omega
                have hw5 : IntKind.i64.wrap (nx + m + z) = nx + m + z := by simp only [IntKind.wrap_i64]; omega
                have hw6 : IntKind.i64.wrap (nx + m + z - 1) = nx + m + z - 1 := by simp only [IntKind.wrap_i64]; omega
                by_cases c5 : m = 0
                · have c5b : (m == (0 : Int)) = true := by simpa using c5
                  have C5 := Lib.hid c5
                  clear c5
                  by_cases c6 : 0 < j
                  · have c6b : (0 : Int) < (j : Int) := by omega
                    have HF1 : Hid (FdP (!true) (fdB s (j + 1)) (acc ++ [(nx, nx - 1)]) (nx)) := Lib.hid (by cases hf : f with | true => exact HBadF.out hf | false => exact HBad.out (fun h => by unfold goodB at h; have := (HPos.out hf).2 c6; have := C5.out; omega))
                    have hX : 0 ≤ nx ∧ nx ≤ 1048576 := by omega
                    go_wp2_with fail
                    refine C1.out.mono ?_
                    rintro e w3 ⟨rfl, h3, g3⟩
                    have HR3 := Lib.hid h3
                    have HO3 := Lib.hid (HO.out.kept g3 (.inr (row_ne_low HO.out (Nat.lt_succ_self _)).symm))
                    have HB3 := Lib.hid (HB.out.grown g3 HB.out.size (by intro k h; cases h; exact Nat.le_refl _))
                    clear h3 g3
                    go_wp2_with fail
                    refine (C2.out _ HR3.out).mono ?_
                    rintro e w4 ⟨rfl, h4, g4⟩
                    have HR4 : Hid (RR w4 w.heap.size s (stB s (j + 1))) := Lib.hid (by rw [HSt.out]; exact h4)
                    have HO4 := Lib.hid (HO3.out.kept g4 (.inr (row_ne_low HO3.out (Nat.lt_succ_self _)).symm))
                    have HB4 := Lib.hid (HB3.out.grown g4 HB3.out.size (by intro k h; cases h; exact Nat.le_refl _))
                    have hg4 : w.heap.size < w4.heap.size := h4.lt
                    clear h4 g4
                    have HOa := Lib.hid (HO4.out.alloc (.cells #[.int .i64 (nx), .int .i64 (nx - 1)] 40))
                    have HBa : Hid (Below w4.heap.size w4 (w4.alloc (.cells #[.int .i64 (nx), .int .i64 (nx - 1)] 40))) := Lib.hid ((Below.refl _ _).alloc (Nat.le_refl _) _)
                    go_wp2_with (at_builtin; refine wpList_append_agg rfl (.tmp 58) (.tmp 69) 37 rfl (w.heap.size + 1) 40 i0 _ 2 16 Try.underlying37 Hi0.out Hz0.out Hz1.out Hz2.out rfl (by decide) _ acc.length _ rfl HOa.out w4.heap.size 1 [.int .i64 (nx), .int .i64 (nx - 1)] 40 rfl (by simp [go_sem]) (Deep.blk_alloc_new w4 _) (by simp [Value.oneCell']) (by omega) (by omega) (by simp; omega) ?_; intro v5 w5 hown5 hg5; have HO5 := Lib.hid hown5; have HG5 := Lib.hid (gr_below HBa.out hg5); clear hown5 hg5)
                    go_roundw
                    case rel =>
                      have hne : some w.heap.size ≠ Value.ownBlock u5 := row_ne_low HO4.out (Nat.lt_succ_self _)
                      refine ⟨j + 1, acc ++ [(nx, nx - 1)], nx, true, by omega, by go_num, rfl, by first | rfl | go_num, Lib.hid ⟨(HG5.out.block w.heap.size hg4 hne).trans HR4.out.1, HR4.out.2⟩, Lib.hid ?_, Lib.hid ?_, by rw [List.length_append, List.length_singleton]; omega, Lib.hid (by omega), HF1, by have := HG5.out.size; omega⟩
                      · rw [iv_snoc, List.length_append]; exact HO5.out
                      · exact below_grownk HB4.out HO4.out HG5.out (by omega) (Nat.le_refl _)
                    case measure => simp [intOf] <;> omega
                  · have c6b : ¬ (0 : Int) < (j : Int) := by omega
                    have c6c : decide ((0 : Int) < (j : Int)) = false := decide_eq_false c6b
                    have c6d : decide (0 < j) = false := decide_eq_false c6
                    by_cases c7 : 1048576 < nx + m + z
                    · skip
                      have HF1 : Hid (FdP (!true) (fdB s (j + 1)) (acc ++ [(nx, nx - 1)]) (nx)) := Lib.hid (by cases hf : f with | true => exact HBadF.out hf | false => exact HBad.out (fun h => by unfold goodB at h; omega))
                      have hX : 0 ≤ nx ∧ nx ≤ 1048576 := by omega
                      go_wp2_with fail
                      refine C1.out.mono ?_
                      rintro e w3 ⟨rfl, h3, g3⟩
                      have HR3 := Lib.hid h3
                      have HO3 := Lib.hid (HO.out.kept g3 (.inr (row_ne_low HO.out (Nat.lt_succ_self _)).symm))
                      have HB3 := Lib.hid (HB.out.grown g3 HB.out.size (by intro k h; cases h; exact Nat.le_refl _))
                      clear h3 g3
                      go_wp2_with fail
                      refine (C2.out _ HR3.out).mono ?_
                      rintro e w4 ⟨rfl, h4, g4⟩
                      have HR4 : Hid (RR w4 w.heap.size s (stB s (j + 1))) := Lib.hid (by rw [HSt.out]; exact h4)
                      have HO4 := Lib.hid (HO3.out.kept g4 (.inr (row_ne_low HO3.out (Nat.lt_succ_self _)).symm))
                      have HB4 := Lib.hid (HB3.out.grown g4 HB3.out.size (by intro k h; cases h; exact Nat.le_refl _))
                      have hg4 : w.heap.size < w4.heap.size := h4.lt
                      clear h4 g4
                      have HOa := Lib.hid (HO4.out.alloc (.cells #[.int .i64 (nx), .int .i64 (nx - 1)] 40))
                      have HBa : Hid (Below w4.heap.size w4 (w4.alloc (.cells #[.int .i64 (nx), .int .i64 (nx - 1)] 40))) := Lib.hid ((Below.refl _ _).alloc (Nat.le_refl _) _)
                      go_wp2_with (at_builtin; refine wpList_append_agg rfl (.tmp 58) (.tmp 69) 37 rfl (w.heap.size + 1) 40 i0 _ 2 16 Try.underlying37 Hi0.out Hz0.out Hz1.out Hz2.out rfl (by decide) _ acc.length _ rfl HOa.out w4.heap.size 1 [.int .i64 (nx), .int .i64 (nx - 1)] 40 rfl (by simp [go_sem]) (Deep.blk_alloc_new w4 _) (by simp [Value.oneCell']) (by omega) (by omega) (by simp; omega) ?_; intro v5 w5 hown5 hg5; have HO5 := Lib.hid hown5; have HG5 := Lib.hid (gr_below HBa.out hg5); clear hown5 hg5)
                      go_roundw
                      case rel =>
                        have hne : some w.heap.size ≠ Value.ownBlock u5 := row_ne_low HO4.out (Nat.lt_succ_self _)
                        refine ⟨j + 1, acc ++ [(nx, nx - 1)], nx, true, by omega, by go_num, rfl, by first | rfl | go_num, Lib.hid ⟨(HG5.out.block w.heap.size hg4 hne).trans HR4.out.1, HR4.out.2⟩, Lib.hid ?_, Lib.hid ?_, by rw [List.length_append, List.length_singleton]; omega, Lib.hid (by omega), HF1, by have := HG5.out.size; omega⟩
                        · rw [iv_snoc, List.length_append]; exact HO5.out
                        · exact below_grownk HB4.out HO4.out HG5.out (by omega) (Nat.le_refl _)
                      case measure => simp [intOf] <;> omega
                    · skip
                      have HF1 : Hid (FdP (!f) (fdB s (j + 1)) (acc ++ [(nx + m, nx + m + z - 1)]) (nx + m + z)) := Lib.hid (by cases hf : f with | true => rw [← hf]; exact HGoodF.out hf | false => rw [← hf]; exact HGood.out (by unfold goodB; have := (HPos.out hf).1 (by omega); have := C5.out; omega))
                      have hX : 0 ≤ nx + m + z ∧ nx + m + z ≤ 1048576 := by omega
                      go_wp2_with fail
                      refine C1.out.mono ?_
                      rintro e w3 ⟨rfl, h3, g3⟩
                      have HR3 := Lib.hid h3
                      have HO3 := Lib.hid (HO.out.kept g3 (.inr (row_ne_low HO.out (Nat.lt_succ_self _)).symm))
                      have HB3 := Lib.hid (HB.out.grown g3 HB.out.size (by intro k h; cases h; exact Nat.le_refl _))
                      clear h3 g3
                      go_wp2_with fail
                      refine (C2.out _ HR3.out).mono ?_
                      rintro e w4 ⟨rfl, h4, g4⟩
                      have HR4 : Hid (RR w4 w.heap.size s (stB s (j + 1))) := Lib.hid (by rw [HSt.out]; exact h4)
                      have HO4 := Lib.hid (HO3.out.kept g4 (.inr (row_ne_low HO3.out (Nat.lt_succ_self _)).symm))
                      have HB4 := Lib.hid (HB3.out.grown g4 HB3.out.size (by intro k h; cases h; exact Nat.le_refl _))
                      have hg4 : w.heap.size < w4.heap.size := h4.lt
                      clear h4 g4
                      have HOa := Lib.hid (HO4.out.alloc (.cells #[.int .i64 (nx + m), .int .i64 (nx + m + z - 1)] 40))
                      have HBa : Hid (Below w4.heap.size w4 (w4.alloc (.cells #[.int .i64 (nx + m), .int .i64 (nx + m + z - 1)] 40))) := Lib.hid ((Below.refl _ _).alloc (Nat.le_refl _) _)
                      go_wp2_with (at_builtin; refine wpList_append_agg rfl (.tmp 58) (.tmp 69) 37 rfl (w.heap.size + 1) 40 i0 _ 2 16 Try.underlying37 Hi0.out Hz0.out Hz1.out Hz2.out rfl (by decide) _ acc.length _ rfl HOa.out w4.heap.size 1 [.int .i64 (nx + m), .int .i64 (nx + m + z - 1)] 40 rfl (by simp [go_sem]) (Deep.blk_alloc_new w4 _) (by simp [Value.oneCell']) (by omega) (by omega) (by simp; omega) ?_; intro v5 w5 hown5 hg5; have HO5 := Lib.hid hown5; have HG5 := Lib.hid (gr_below HBa.out hg5); clear hown5 hg5)
                      go_roundw
                      case rel =>
                        have hne : some w.heap.size ≠ Value.ownBlock u5 := row_ne_low HO4.out (Nat.lt_succ_self _)
                        refine ⟨j + 1, acc ++ [(nx + m, nx + m + z - 1)], nx + m + z, f, by omega, by go_num, rfl, by first | rfl | go_num, Lib.hid ⟨(HG5.out.block w.heap.size hg4 hne).trans HR4.out.1, HR4.out.2⟩, Lib.hid ?_, Lib.hid ?_, by rw [List.length_append, List.length_singleton]; omega, Lib.hid (by omega), HF1, by have := HG5.out.size; omega⟩
                        · rw [iv_snoc, List.length_append]; exact HO5.out
                        · exact below_grownk HB4.out HO4.out HG5.out (by omega) (Nat.le_refl _)
                      case measure => simp [intOf] <;> omega
                · have c5b : (m == (0 : Int)) = false := by simpa using c5
                  by_cases c7 : 1048576 < nx + m + z
                  · skip
                    have HF1 : Hid (FdP (!true) (fdB s (j + 1)) (acc ++ [(nx, nx - 1)]) (nx)) := Lib.hid (by cases hf : f with | true => exact HBadF.out hf | false => exact HBad.out (fun h => by unfold goodB at h; omega))
                    have hX : 0 ≤ nx ∧ nx ≤ 1048576 := by omega
                    go_wp2_with fail
                    refine C1.out.mono ?_
                    rintro e w3 ⟨rfl, h3, g3⟩
                    have HR3 := Lib.hid h3
                    have HO3 := Lib.hid (HO.out.kept g3 (.inr (row_ne_low HO.out (Nat.lt_succ_self _)).symm))
                    have HB3 := Lib.hid (HB.out.grown g3 HB.out.size (by intro k h; cases h; exact Nat.le_refl _))
                    clear h3 g3
                    go_wp2_with fail
                    refine (C2.out _ HR3.out).mono ?_
                    rintro e w4 ⟨rfl, h4, g4⟩
                    have HR4 : Hid (RR w4 w.heap.size s (stB s (j + 1))) := Lib.hid (by rw [HSt.out]; exact h4)
                    have HO4 := Lib.hid (HO3.out.kept g4 (.inr (row_ne_low HO3.out (Nat.lt_succ_self _)).symm))
                    have HB4 := Lib.hid (HB3.out.grown g4 HB3.out.size (by intro k h; cases h; exact Nat.le_refl _))
                    have hg4 : w.heap.size < w4.heap.size := h4.lt
                    clear h4 g4
                    have HOa := Lib.hid (HO4.out.alloc (.cells #[.int .i64 (nx), .int .i64 (nx - 1)] 40))
                    have HBa : Hid (Below w4.heap.size w4 (w4.alloc (.cells #[.int .i64 (nx), .int .i64 (nx - 1)] 40))) := Lib.hid ((Below.refl _ _).alloc (Nat.le_refl _) _)
                    go_wp2_with (at_builtin; refine wpList_append_agg rfl (.tmp 58) (.tmp 69) 37 rfl (w.heap.size + 1) 40 i0 _ 2 16 Try.underlying37 Hi0.out Hz0.out Hz1.out Hz2.out rfl (by decide) _ acc.length _ rfl HOa.out w4.heap.size 1 [.int .i64 (nx), .int .i64 (nx - 1)] 40 rfl (by simp [go_sem]) (Deep.blk_alloc_new w4 _) (by simp [Value.oneCell']) (by omega) (by omega) (by simp; omega) ?_; intro v5 w5 hown5 hg5; have HO5 := Lib.hid hown5; have HG5 := Lib.hid (gr_below HBa.out hg5); clear hown5 hg5)
                    go_roundw
                    case rel =>
                      have hne : some w.heap.size ≠ Value.ownBlock u5 := row_ne_low HO4.out (Nat.lt_succ_self _)
                      refine ⟨j + 1, acc ++ [(nx, nx - 1)], nx, true, by omega, by go_num, rfl, by first | rfl | go_num, Lib.hid ⟨(HG5.out.block w.heap.size hg4 hne).trans HR4.out.1, HR4.out.2⟩, Lib.hid ?_, Lib.hid ?_, by rw [List.length_append, List.length_singleton]; omega, Lib.hid (by omega), HF1, by have := HG5.out.size; omega⟩
                      · rw [iv_snoc, List.length_append]; exact HO5.out
                      · exact below_grownk HB4.out HO4.out HG5.out (by omega) (Nat.le_refl _)
                    case measure => simp [intOf] <;> omega
                  · skip
                    have HF1 : Hid (FdP (!f) (fdB s (j + 1)) (acc ++ [(nx + m, nx + m + z - 1)]) (nx + m + z)) := Lib.hid (by cases hf : f with | true => rw [← hf]; exact HGoodF.out hf | false => rw [← hf]; exact HGood.out (by unfold goodB; omega))
                    have hX : 0 ≤ nx + m + z ∧ nx + m + z ≤ 1048576 := by omega
                    go_wp2_with fail
                    refine C1.out.mono ?_
                    rintro e w3 ⟨rfl, h3, g3⟩
                    have HR3 := Lib.hid h3
                    have HO3 := Lib.hid (HO.out.kept g3 (.inr (row_ne_low HO.out (Nat.lt_succ_self _)).symm))
                    have HB3 := Lib.hid (HB.out.grown g3 HB.out.size (by intro k h; cases h; exact Nat.le_refl _))
                    clear h3 g3
                    go_wp2_with fail
                    refine (C2.out _ HR3.out).mono ?_
                    rintro e w4 ⟨rfl, h4, g4⟩
                    have HR4 : Hid (RR w4 w.heap.size s (stB s (j + 1))) := Lib.hid (by rw [HSt.out]; exact h4)
                    have HO4 := Lib.hid (HO3.out.kept g4 (.inr (row_ne_low HO3.out (Nat.lt_succ_self _)).symm))
                    have HB4 := Lib.hid (HB3.out.grown g4 HB3.out.size (by intro k h; cases h; exact Nat.le_refl _))
                    have hg4 : w.heap.size < w4.heap.size := h4.lt
                    clear h4 g4
                    have HOa := Lib.hid (HO4.out.alloc (.cells #[.int .i64 (nx + m), .int .i64 (nx + m + z - 1)] 40))
                    have HBa : Hid (Below w4.heap.size w4 (w4.alloc (.cells #[.int .i64 (nx + m), .int .i64 (nx + m + z - 1)] 40))) := Lib.hid ((Below.refl _ _).alloc (Nat.le_refl _) _)
                    go_wp2_with (at_builtin; refine wpList_append_agg rfl (.tmp 58) (.tmp 69) 37 rfl (w.heap.size + 1) 40 i0 _ 2 16 Try.underlying37 Hi0.out Hz0.out Hz1.out Hz2.out rfl (by decide) _ acc.length _ rfl HOa.out w4.heap.size 1 [.int .i64 (nx + m), .int .i64 (nx + m + z - 1)] 40 rfl (by simp [go_sem]) (Deep.blk_alloc_new w4 _) (by simp [Value.oneCell']) (by omega) (by omega) (by simp; omega) ?_; intro v5 w5 hown5 hg5; have HO5 := Lib.hid hown5; have HG5 := Lib.hid (gr_below HBa.out hg5); clear hown5 hg5)
                    go_roundw
                    case rel =>
                      have hne : some w.heap.size ≠ Value.ownBlock u5 := row_ne_low HO4.out (Nat.lt_succ_self _)
                      refine ⟨j + 1, acc ++ [(nx + m, nx + m + z - 1)], nx + m + z, f, by omega, by go_num, rfl, by first | rfl | go_num, Lib.hid ⟨(HG5.out.block w.heap.size hg4 hne).trans HR4.out.1, HR4.out.2⟩, Lib.hid ?_, Lib.hid ?_, by rw [List.length_append, List.length_singleton]; omega, Lib.hid (by omega), HF1, by have := HG5.out.size; omega⟩
                      · rw [iv_snoc, List.length_append]; exact HO5.out
                      · exact below_grownk HB4.out HO4.out HG5.out (by omega) (Nat.le_refl _)
                    case measure => simp [intOf] <;> omega
      · have hst := HStay.out j hj her
        have hE := endE_err s (stB s j) her
        rw [hst, hE] at HdE HdL
        rw [if_neg her] at HdE HdL
        have HE1 := Lib.hid HdE.out
        have HE2 := Lib.hid HdL.out
        have C1 := CE.out (stB s j) wr HR.out
        rw [hE] at C1
        obtain ⟨E, hEE⟩ : ∃ E, E = (stB s j).2 := ⟨_, rfl⟩
        have d3 : wr.cell? ⟨w.heap.size, 2, none⟩ = some (.int .i64 E) := by rw [hEE]; exact d2
        rw [← hEE] at C1 her HE1
        have hEb : (E != (0 : Int)) = true := by simpa using her
        have hEc : (E == (0 : Int)) = false := by simpa using her
        clear hst hE HdE HdL d2 hEE
        go_wp2_with fail
        refine C1.mono ?_
        rintro e w5 ⟨rfl, hb⟩
        have HB5 := Lib.hid (HB.out.trans (hb.mono HB.out.size))
        skip
        clear hb
        go_wp2_with fail
        go_ret2
        rw [HE1.out, HE2.out]
        exact ⟨⟨_, rfl, ⟨rfl, Or.inl ⟨rfl, rfl⟩⟩⟩, HB5.out⟩
    · obtain rfl : j = n := by omega
      have C1 := CE.out (stB s j) wr HR.out
      obtain ⟨E, hE⟩ : ∃ E, E = endE s (stB s j) := ⟨_, rfl⟩
      rw [← hE] at C1 HdE HdL
      clear hE d2
      by_cases hE0 : E = 0
      · subst hE0
        rw [if_pos rfl] at HdE HdL
        cases f with
        | true =>
          have h2 : fdB s j = none := HFd.out
          rw [h2] at HdE HdL
          have e1 : F = 3 := HdE.out
          have e2 : M = [] := HdL.out
          have HE1 := Lib.hid e1
          have HE2 := Lib.hid e2
          clear h2 e1 e2 HdE HdL
          go_wp2_with fail
          refine C1.mono ?_
          rintro e w5 ⟨rfl, hb⟩
          have HB5 := Lib.hid (HB.out.trans (hb.mono HB.out.size))
          skip
          clear hb
          go_wp2_with fail
          go_ret2
          rw [HE1.out, HE2.out]
          exact ⟨⟨_, rfl, ⟨rfl, Or.inl ⟨rfl, rfl⟩⟩⟩, HB5.out⟩
        | false =>
          have h2 : fdB s j = some (acc, nx) := HFd.out
          rw [h2] at HdE HdL
          have e1 : F = 0 := HdE.out
          have e2 : M = acc := HdL.out
          have HE1 := Lib.hid e1
          have HE2 := Lib.hid e2
          clear h2 e1 e2 HdE HdL
          go_wp2_with fail
          refine C1.mono ?_
          rintro e w5 ⟨rfl, hb⟩
          have HB5 := Lib.hid (HB.out.trans (hb.mono HB.out.size))
          have HO5 := Lib.hid (own_belowk HO.out hb)
          clear hb
          go_wp2_with fail
          go_ret2
          rw [HE1.out, HE2.out]
          exact ⟨⟨_, rfl, own_base HO5.out (by omega)⟩, HB5.out⟩
      · rw [if_neg hE0] at HdE HdL
        have HE1 := Lib.hid HdE.out
        have HE2 := Lib.hid HdL.out
        have hEb : (E != (0 : Int)) = true := by simpa using hE0
        clear HdE HdL
        go_wp2_with fail
        refine C1.mono ?_
        rintro e w5 ⟨rfl, hb⟩
        have HB5 := Lib.hid (HB.out.trans (hb.mono HB.out.size))
        skip
        clear hb
        go_wp2_with fail
        go_ret2
        rw [HE1.out, HE2.out]
        exact ⟨⟨_, rfl, ⟨rfl, Or.inl ⟨rfl, rfl⟩⟩⟩, HB5.out⟩
end Go.Proofs.Ytacgomhegjilgaa
