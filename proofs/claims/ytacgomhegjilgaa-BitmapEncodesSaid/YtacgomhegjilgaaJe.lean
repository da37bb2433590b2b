/- The program's Decode (written by wip/bin/gen_je.py). -/
import Derived.Test.YtacgomhegjilgaaJd
namespace Go.Proofs.Ytacgomhegjilgaa
open Go.ChangeShapes Go.WideShapes Go.ChangeAt Go.RowKit Ts En

theorem own_lt {w : World} {base e k n : Nat} {v : Value} {xs : List Value} (h : w.ownsRow base e k v n xs) (X : Nat) (hX : w.heap.size ≤ X) : some X ≠ v.ownBlock := by
  rcases h.2 with ⟨e, _⟩ | ⟨g', cap, cur, e, _, hh, _⟩
  · rw [e]; simp [Value.ownBlock]
  · rw [e]
    have := (Array.getElem?_eq_some_iff.1 hh).1
    simp [Value.ownBlock]; omega
/-- What is known of the form so far. -/
def FdP (f : Bool) (x : Fdb) (acc : List Iv) (nx : Int) : Prop := if f = true then x = some (acc, nx) else x = none
set_option maxRecDepth 100000 in
set_option maxHeartbeats 8000000 in
theorem decode_any (s : ByteArray) (hs : s.size ≤ 1000000) (w : World) :
    Calls Try.prog 45 #[.string s] w fun e w' => OutB w' e (dcL s) (dcE s) ∧ Below w.heap.size w w' := by
  have hA0 : Below w.heap.size w (w.alloc (.cells #[.slice none 0 0] 26)) := (Below.refl _ _).alloc (Nat.le_refl _) _
  have hk0 : (w.alloc (.cells #[.slice none 0 0] 26)).heap[w.heap.size]? = some (.cells #[.slice none 0 0] 26 (0, 0)) := Deep.blk_alloc_new w _
  have CR := new_reader s (w.alloc (.cells #[.slice none 0 0] 26))
  obtain ⟨g, hg⟩ : ∃ g, g = (w.alloc (.cells #[.slice none 0 0] 26)).heap.size := ⟨_, rfl⟩
  rw [← hg] at CR
  have hgz : w.heap.size < g := by rw [hg]; simp
  have hgz2 : w.heap.size ≤ g := by omega
  have CC := Lib.hid (fun W h => count_q (qb g) s (0, 0) hs 1048576 W h)
  rw [(cntB_le s).2] at CC
  have CN := Lib.hid (fun st W h => number_q (qb g) s st hs W h)
  have CE := Lib.hid (fun st W h => end_q (qb g) s st hs W h)
  have hn9 := (cntB_le s).1
  have HdE : Hid (dcE s = if endE s (stB s (cntB s)) = 0 then (match fdB s (cntB s) with | none => 3 | some _ => 0) else endE s (stB s (cntB s))) := Lib.hid rfl
  have HdL : Hid (dcL s = if endE s (stB s (cntB s)) = 0 then (match fdB s (cntB s) with | none => [] | some x => x.1) else []) := Lib.hid rfl
  obtain ⟨F, hF⟩ : ∃ F, F = dcE s := ⟨_, rfl⟩
  obtain ⟨M, hM⟩ : ∃ M, M = dcL s := ⟨_, rfl⟩
  rw [← hF] at HdE ⊢
  rw [← hM] at HdL ⊢
  obtain ⟨n, hn⟩ : ∃ n, n = cntB s := ⟨_, rfl⟩
  rw [← hn] at CC hn9 HdE HdL
  have HA := Lib.hid hA0
  have HK := Lib.hid hk0
  have HG := Lib.hid hg
  have HCR := Lib.hid CR
  obtain ⟨i0, hi0, hz0, hz1, hz2⟩ := info_parts info_iv
  have Hi0 := Lib.hid hi0
  have Hz0 := Lib.hid hz0
  have Hz1 := Lib.hid hz1
  have Hz2 := Lib.hid hz2
  clear hA0 hk0 hF hM hn CR hg hi0 hz0 hz1 hz2
  go_enter Try.func45, Try.ntmps45
  go_wp2_with fail
  refine HCR.out.mono ?_
  rintro e w1 ⟨rfl, hr, hb⟩
  have HR1 : Hid (RP w1 (qb g) s (0, 0)) := Lib.hid (Or.inr ⟨g, rfl, hr⟩)
  have HB1 := Lib.hid (HA.out.trans (hb.mono hgz2))
  have HK1 := Lib.hid ((hb.block w.heap.size hgz).trans HK.out)
  have HL1 := Lib.hid hr.lt
  clear hr hb
  go_wp2_with fail
  refine (CC.out _ HR1.out).mono ?_
  rintro e w2 ⟨rfl, h2, g2⟩
  have HR2 : Hid (RP w2 (qb g) s (stB s 0)) := Lib.hid h2
  have HB2 := Lib.hid (HB1.out.grown g2 HB1.out.size (by intro k h; cases h; exact hgz2))
  have HK2 := Lib.hid ((g2.block w.heap.size (by have := HL1.out; omega) (by intro h; injection h with h; exact absurd h (by show w.heap.size ≠ g; omega))).trans HK1.out)
  have hz2 : g < w2.heap.size := by have := HL1.out; have := g2.size; omega
  clear h2 g2
  go_wp2_with fail
  go_loopw [5, 6, 7, 16] (fun u nv fv cv wr => ∃ (j : Nat) (acc : List Iv) (nx : Int) (f : Bool), j ≤ n ∧ cv = .int .i64 (j : Int) ∧ fv = .bool f ∧ nv = .int .i64 nx ∧ Hid (RP wr (qb g) s (stB s j)) ∧ Hid (wr.ownsRow (g + 1) 39 2 u acc.length (ivCells acc)) ∧ Hid (Below w.heap.size w wr) ∧ Hid (wr.heap[w.heap.size]? = some (.cells #[.slice none 0 0] 26 (0, 0))) ∧ acc.length ≤ j ∧ Hid (0 ≤ nx ∧ nx ≤ 1048576) ∧ Hid (FdP f (fdB s j) acc nx) ∧ g < wr.heap.size) (fun _ _ _ cv _ => n - (intOf cv).toNat)
  case atStart => exact ⟨0, [], 0, true, Nat.zero_le _, rfl, rfl, rfl, HR2, Lib.hid ⟨rfl, Or.inl ⟨rfl, rfl⟩⟩, HB2, HK2, Nat.le_refl _, Lib.hid (by omega), Lib.hid rfl, hz2⟩
  case round =>
    obtain ⟨j, acc, nx, f, hj, rfl, rfl, rfl, HR, HO, HB, HKr, hal, HNx, HFd, hgr⟩ := hrel
    by_cases hlt : j < n
    · have hjI : (j : Int) < (n : Int) := by omega
      have hj0 : (0 : Int) ≤ (j : Int) := by omega
      have hw1 : IntKind.i64.wrap ((j : Int) + 1) = (j : Int) + 1 := by simp only [IntKind.wrap_i64]; omega
      have HSt : Hid (stB s (j + 1) = (rdG 0 scan s (rdG 0 scan s (stB s j)).2).2) := Lib.hid rfl
      have HGd := Lib.hid (fun h g => fdB_good (s := s) (j := j) (acc := acc) (nx := nx) h g)
      have HBd := Lib.hid (fun h g => fdB_bad (s := s) (j := j) (acc := acc) (nx := nx) h g)
      have HNn := Lib.hid (fun h => fdB_none (s := s) (j := j) h)
      have C1 := Lib.hid (CN.out (stB s j) wr HR.out)
      unfold rdP at HGd HBd
      obtain ⟨m, hm⟩ : ∃ m, m = (rdG 0 scan s (stB s j)).1 := ⟨_, rfl⟩
      obtain ⟨t, ht⟩ : ∃ t, t = (rdG 0 scan s (stB s j)).2 := ⟨_, rfl⟩
      rw [← hm, ← ht] at C1 HGd
      rw [← hm, ← ht] at HBd
      rw [← ht] at HSt
      have C2 := Lib.hid (CN.out t)
      obtain ⟨z, hz⟩ : ∃ z, z = (rdG 0 scan s t).1 := ⟨_, rfl⟩
      obtain ⟨t2, ht2⟩ : ∃ t2, t2 = (rdG 0 scan s t).2 := ⟨_, rfl⟩
      rw [← hz] at C2 HGd HBd
      rw [← ht2] at C2 HSt
      have hnx := HNx.out
      clear hm ht hz ht2 HR
      cases f with
      | false =>
        have HF1 : Hid (FdP false (fdB s (j + 1)) acc nx) := Lib.hid (HNn.out HFd.out)
        go_wp2_with fail
        refine C1.out.mono ?_
        rintro e w3 ⟨rfl, h3, g3⟩
        have HR3 := Lib.hid h3
        have HO3 := Lib.hid (HO.out.kept g3 (.inr (row_ne_low HO.out (Nat.lt_succ_self g)).symm))
        have HB3 := Lib.hid (HB.out.grown g3 HB.out.size (by intro k h; cases h; exact hgz2))
        have HK3 := Lib.hid ((g3.block w.heap.size (by omega) (by intro h; injection h with h; exact absurd h (by show w.heap.size ≠ g; omega))).trans HKr.out)
        have hg3 : g < w3.heap.size := by have := g3.size; omega
        clear h3 g3
        go_wp2_with fail
        refine (C2.out _ HR3.out).mono ?_
        rintro e w4 ⟨rfl, h4, g4⟩
        have HR4 : Hid (RP w4 (qb g) s (stB s (j + 1))) := Lib.hid (by rw [HSt.out]; exact h4)
        have HO4 := Lib.hid (HO3.out.kept g4 (.inr (row_ne_low HO3.out (Nat.lt_succ_self g)).symm))
        have HB4 := Lib.hid (HB3.out.grown g4 HB3.out.size (by intro k h; cases h; exact hgz2))
        have HK4 := Lib.hid ((g4.block w.heap.size (by omega) (by intro h; injection h with h; exact absurd h (by show w.heap.size ≠ g; omega))).trans HK3.out)
        have hg4 : g < w4.heap.size := by have := g4.size; omega
        clear h4 g4
        go_wp2_with fail
        go_roundw
        case rel => exact ⟨j + 1, acc, nx, false, by omega, by go_num, rfl, rfl, HR4, HO4, HB4, HK4, by omega, Lib.hid hnx, HF1, hg4⟩
        case measure => simp [intOf] <;> omega
      | true =>
        have HFj := Lib.hid (show fdB s j = some (acc, nx) from HFd.out)
        obtain ⟨mn, hmn⟩ : ∃ mn, min nx 1 = mn := ⟨_, rfl⟩
        have Hmn := Lib.hid hmn
        have hmn2 : min 1 nx = mn := by rw [← hmn]; omega
        by_cases c1 : mn ≤ m
        · by_cases c2 : m ≤ 1048576
          · by_cases c3 : 1 ≤ z
            · have hmn0 : 0 ≤ mn := by omega
              have hw2 : IntKind.i64.wrap (1048576 - nx) = 1048576 - nx := by simp only [IntKind.wrap_i64]; omega
              have hw3 : IntKind.i64.wrap (1048576 - nx - m) = 1048576 - nx - m := by simp only [IntKind.wrap_i64]; omega
              by_cases c4 : z ≤ 1048576 - nx - m
              · have HF1 : Hid (FdP true (fdB s (j + 1)) (acc ++ [(nx + m, nx + m + z - 1)]) (nx + m + z)) := Lib.hid (HGd.out HFj.out (by rw [← Hmn.out] at c1; exact ⟨c1, c2, c3, c4⟩))
                have hw4 : IntKind.i64.wrap (nx + m) = nx + m := by simp only [IntKind.wrap_i64]; omega
                have hw5 : IntKind.i64.wrap (nx + m + z) = nx + m + z := by simp only [IntKind.wrap_i64]; omega
                have hw6 : IntKind.i64.wrap (nx + m + z - 1) = nx + m + z - 1 := by simp only [IntKind.wrap_i64]; omega
                have hw7 : IntKind.i64.wrap (nx + m + z - 1 + 1) = nx + m + z := by simp only [IntKind.wrap_i64]; omega
                go_wp2_with fail
                refine C1.out.mono ?_
                rintro e w3 ⟨rfl, h3, g3⟩
                have HR3 := Lib.hid h3
                have HO3 := Lib.hid (HO.out.kept g3 (.inr (row_ne_low HO.out (Nat.lt_succ_self g)).symm))
                have HB3 := Lib.hid (HB.out.grown g3 HB.out.size (by intro k h; cases h; exact hgz2))
                have HK3 := Lib.hid ((g3.block w.heap.size (by omega) (by intro h; injection h with h; exact absurd h (by show w.heap.size ≠ g; omega))).trans HKr.out)
                have hg3 : g < w3.heap.size := by have := g3.size; omega
                clear h3 g3
                go_wp2_with fail
                refine (C2.out _ HR3.out).mono ?_
                rintro e w4 ⟨rfl, h4, g4⟩
                have HR4 : Hid (RP w4 (qb g) s (stB s (j + 1))) := Lib.hid (by rw [HSt.out]; exact h4)
                have HO4 := Lib.hid (HO3.out.kept g4 (.inr (row_ne_low HO3.out (Nat.lt_succ_self g)).symm))
                have HB4 := Lib.hid (HB3.out.grown g4 HB3.out.size (by intro k h; cases h; exact hgz2))
                have HK4 := Lib.hid ((g4.block w.heap.size (by omega) (by intro h; injection h with h; exact absurd h (by show w.heap.size ≠ g; omega))).trans HK3.out)
                have hg4 : g < w4.heap.size := by have := g4.size; omega
                clear h4 g4
                have HOa := Lib.hid ((HO4.out.alloc (.cells #[.int .i64 (nx + m), .int .i64 (nx + m + z - 1)] 39)).alloc (.cells #[.int .i64 (nx + m), .int .i64 (nx + m + z - 1)] 39))
                have HBa : Hid (Below w4.heap.size w4 ((w4.alloc (.cells #[.int .i64 (nx + m), .int .i64 (nx + m + z - 1)] 39)).alloc (.cells #[.int .i64 (nx + m), .int .i64 (nx + m + z - 1)] 39))) := Lib.hid (((Below.refl _ _).alloc (Nat.le_refl _) _).alloc (by simp) _)
                have HNe := Lib.hid (own_lt HO4.out)
                have HRd := Lib.hid (HR4.out.lt g rfl)
                go_wp2_with (at_builtin; refine wpList_append_agg rfl (.tmp 56) (.tmp 58) 24 rfl (g + 1) 39 i0 _ 2 16 Try.underlying24 Hi0.out Hz0.out Hz1.out Hz2.out rfl (by decide) _ acc.length _ rfl HOa.out (w4.heap.size + 1) 1 [.int .i64 (nx + m), .int .i64 (nx + m + z - 1)] 39 rfl (by simp [go_sem]) (blk_over w4 _ _) (by simp [Value.oneCell']) (by omega) (by omega) (by simp; omega) ?_; intro v5 w5 hown5 hg5; have hq5 : w5.heap[w4.heap.size]? = some (.cells #[.int .i64 (nx + m), .int .i64 (nx + m + z - 1)] 39 (0, 0)) := (hg5.block w4.heap.size (by simp; omega) (HNe.out _ (Nat.le_refl _))).trans (blk_under w4 _ _); have hc5 := cell_of_row w5 w4.heap.size 1 _ _ _ hq5; have HO5 := Lib.hid hown5; have HG5 := Lib.hid (gr_below HBa.out hg5); clear hown5 hg5 hq5)
                go_roundw
                case rel =>
                  have hne : ∀ k, k < g + 1 → some k ≠ Value.ownBlock u5 := fun k hk => row_ne_low HO4.out (by omega)
                  refine ⟨j + 1, acc ++ [(nx + m, nx + m + z - 1)], nx + m + z, true, by omega, by go_num, rfl, by go_num, Lib.hid ?_, Lib.hid ?_, Lib.hid ?_, Lib.hid ?_, by rw [List.length_append, List.length_singleton]; omega, Lib.hid (by omega), HF1, by have := HG5.out.size; omega⟩
                  · rcases HR4.out with ⟨e, _⟩ | ⟨r, e, h⟩
                    · cases e
                    · cases e
                      exact Or.inr ⟨g, rfl, (HG5.out.block g HRd.out (hne g (by omega))).trans h.1, h.2⟩
                  · rw [iv_snoc, List.length_append]; exact HO5.out
                  · exact below_grownk HB4.out HO4.out HG5.out (by omega) (Nat.le_refl _)
                  · exact (HG5.out.block w.heap.size (by omega) (hne _ (by omega))).trans HK4.out
                case measure => simp [intOf] <;> omega
              · have c4' : 1048576 - nx - m < z := by omega
                have c4b : decide (z ≤ 1048576 - nx - m) = false := decide_eq_false c4
                have HF1 : Hid (FdP false (fdB s (j + 1)) acc nx) := Lib.hid (HBd.out HFj.out (fun h => c4 h.2.2.2))
                go_wp2_with fail
                refine C1.out.mono ?_
                rintro e w3 ⟨rfl, h3, g3⟩
                have HR3 := Lib.hid h3
                have HO3 := Lib.hid (HO.out.kept g3 (.inr (row_ne_low HO.out (Nat.lt_succ_self g)).symm))
                have HB3 := Lib.hid (HB.out.grown g3 HB.out.size (by intro k h; cases h; exact hgz2))
                have HK3 := Lib.hid ((g3.block w.heap.size (by omega) (by intro h; injection h with h; exact absurd h (by show w.heap.size ≠ g; omega))).trans HKr.out)
                have hg3 : g < w3.heap.size := by have := g3.size; omega
                clear h3 g3
                go_wp2_with fail
                refine (C2.out _ HR3.out).mono ?_
                rintro e w4 ⟨rfl, h4, g4⟩
                have HR4 : Hid (RP w4 (qb g) s (stB s (j + 1))) := Lib.hid (by rw [HSt.out]; exact h4)
                have HO4 := Lib.hid (HO3.out.kept g4 (.inr (row_ne_low HO3.out (Nat.lt_succ_self g)).symm))
                have HB4 := Lib.hid (HB3.out.grown g4 HB3.out.size (by intro k h; cases h; exact hgz2))
                have HK4 := Lib.hid ((g4.block w.heap.size (by omega) (by intro h; injection h with h; exact absurd h (by show w.heap.size ≠ g; omega))).trans HK3.out)
                have hg4 : g < w4.heap.size := by have := g4.size; omega
                clear h4 g4
                go_wp2_with fail
                go_roundw
                case rel => exact ⟨j + 1, acc, nx, false, by omega, by go_num, rfl, rfl, HR4, HO4, HB4, HK4, by omega, Lib.hid hnx, HF1, hg4⟩
                case measure => simp [intOf] <;> omega
            · have c3' : z < 1 := by omega
              have HF1 : Hid (FdP false (fdB s (j + 1)) acc nx) := Lib.hid (HBd.out HFj.out (fun h => c3 h.2.2.1))
              go_wp2_with fail
              refine C1.out.mono ?_
              rintro e w3 ⟨rfl, h3, g3⟩
              have HR3 := Lib.hid h3
              have HO3 := Lib.hid (HO.out.kept g3 (.inr (row_ne_low HO.out (Nat.lt_succ_self g)).symm))
              have HB3 := Lib.hid (HB.out.grown g3 HB.out.size (by intro k h; cases h; exact hgz2))
              have HK3 := Lib.hid ((g3.block w.heap.size (by omega) (by intro h; injection h with h; exact absurd h (by show w.heap.size ≠ g; omega))).trans HKr.out)
              have hg3 : g < w3.heap.size := by have := g3.size; omega
              clear h3 g3
              go_wp2_with fail
              refine (C2.out _ HR3.out).mono ?_
              rintro e w4 ⟨rfl, h4, g4⟩
              have HR4 : Hid (RP w4 (qb g) s (stB s (j + 1))) := Lib.hid (by rw [HSt.out]; exact h4)
              have HO4 := Lib.hid (HO3.out.kept g4 (.inr (row_ne_low HO3.out (Nat.lt_succ_self g)).symm))
              have HB4 := Lib.hid (HB3.out.grown g4 HB3.out.size (by intro k h; cases h; exact hgz2))
              have HK4 := Lib.hid ((g4.block w.heap.size (by omega) (by intro h; injection h with h; exact absurd h (by show w.heap.size ≠ g; omega))).trans HK3.out)
              have hg4 : g < w4.heap.size := by have := g4.size; omega
              clear h4 g4
              go_wp2_with fail
              go_roundw
              case rel => exact ⟨j + 1, acc, nx, false, by omega, by go_num, rfl, rfl, HR4, HO4, HB4, HK4, by omega, Lib.hid hnx, HF1, hg4⟩
              case measure => simp [intOf] <;> omega
          · have c2' : 1048576 < m := by omega
            have HF1 : Hid (FdP false (fdB s (j + 1)) acc nx) := Lib.hid (HBd.out HFj.out (fun h => c2 h.2.1))
            go_wp2_with fail
            refine C1.out.mono ?_
            rintro e w3 ⟨rfl, h3, g3⟩
            have HR3 := Lib.hid h3
            have HO3 := Lib.hid (HO.out.kept g3 (.inr (row_ne_low HO.out (Nat.lt_succ_self g)).symm))
            have HB3 := Lib.hid (HB.out.grown g3 HB.out.size (by intro k h; cases h; exact hgz2))
            have HK3 := Lib.hid ((g3.block w.heap.size (by omega) (by intro h; injection h with h; exact absurd h (by show w.heap.size ≠ g; omega))).trans HKr.out)
            have hg3 : g < w3.heap.size := by have := g3.size; omega
            clear h3 g3
            go_wp2_with fail
            refine (C2.out _ HR3.out).mono ?_
            rintro e w4 ⟨rfl, h4, g4⟩
            have HR4 : Hid (RP w4 (qb g) s (stB s (j + 1))) := Lib.hid (by rw [HSt.out]; exact h4)
            have HO4 := Lib.hid (HO3.out.kept g4 (.inr (row_ne_low HO3.out (Nat.lt_succ_self g)).symm))
            have HB4 := Lib.hid (HB3.out.grown g4 HB3.out.size (by intro k h; cases h; exact hgz2))
            have HK4 := Lib.hid ((g4.block w.heap.size (by omega) (by intro h; injection h with h; exact absurd h (by show w.heap.size ≠ g; omega))).trans HK3.out)
            have hg4 : g < w4.heap.size := by have := g4.size; omega
            clear h4 g4
            go_wp2_with fail
            go_roundw
            case rel => exact ⟨j + 1, acc, nx, false, by omega, by go_num, rfl, rfl, HR4, HO4, HB4, HK4, by omega, Lib.hid hnx, HF1, hg4⟩
            case measure => simp [intOf] <;> omega
        · have c1' : m < mn := by omega
          have HF1 : Hid (FdP false (fdB s (j + 1)) acc nx) := Lib.hid (HBd.out HFj.out (fun h => c1 (by rw [← Hmn.out]; exact h.1)))
          go_wp2_with fail
          refine C1.out.mono ?_
          rintro e w3 ⟨rfl, h3, g3⟩
          have HR3 := Lib.hid h3
          have HO3 := Lib.hid (HO.out.kept g3 (.inr (row_ne_low HO.out (Nat.lt_succ_self g)).symm))
          have HB3 := Lib.hid (HB.out.grown g3 HB.out.size (by intro k h; cases h; exact hgz2))
          have HK3 := Lib.hid ((g3.block w.heap.size (by omega) (by intro h; injection h with h; exact absurd h (by show w.heap.size ≠ g; omega))).trans HKr.out)
          have hg3 : g < w3.heap.size := by have := g3.size; omega
          clear h3 g3
          go_wp2_with fail
          refine (C2.out _ HR3.out).mono ?_
          rintro e w4 ⟨rfl, h4, g4⟩
          have HR4 : Hid (RP w4 (qb g) s (stB s (j + 1))) := Lib.hid (by rw [HSt.out]; exact h4)
          have HO4 := Lib.hid (HO3.out.kept g4 (.inr (row_ne_low HO3.out (Nat.lt_succ_self g)).symm))
          have HB4 := Lib.hid (HB3.out.grown g4 HB3.out.size (by intro k h; cases h; exact hgz2))
          have HK4 := Lib.hid ((g4.block w.heap.size (by omega) (by intro h; injection h with h; exact absurd h (by show w.heap.size ≠ g; omega))).trans HK3.out)
          have hg4 : g < w4.heap.size := by have := g4.size; omega
          clear h4 g4
          go_wp2_with fail
          go_roundw
          case rel => exact ⟨j + 1, acc, nx, false, by omega, by go_num, rfl, rfl, HR4, HO4, HB4, HK4, by omega, Lib.hid hnx, HF1, hg4⟩
          case measure => simp [intOf] <;> omega
    · obtain rfl : j = n := by omega
      have hfr : wr.frozen? ⟨w.heap.size, 0, none⟩ = false := by simp [World.frozen?, HKr.out]
      have hcl : wr.cell? ⟨w.heap.size, 0, none⟩ = some (.slice none 0 0) := by simp [World.cell?, HKr.out]
      have C1 := CE.out (stB s j) wr HR.out
      obtain ⟨E, hE⟩ : ∃ E, E = endE s (stB s j) := ⟨_, rfl⟩
      rw [← hE] at C1 HdE HdL
      clear hE
      by_cases hE0 : E = 0
      · subst hE0
        rw [if_pos rfl] at HdE HdL
        cases f with
        | false =>
          have h := HFd.out
          have h2 : fdB s j = none := h
          rw [h2] at HdE HdL
          have e1 : F = 3 := HdE.out
          have e2 : M = [] := HdL.out
          have HE1 := Lib.hid e1
          have HE2 := Lib.hid e2
          clear h h2 e1 e2 HdE HdL hfr hcl
          go_wp2_with fail
          refine C1.mono ?_
          rintro e w5 ⟨rfl, hb⟩
          have HB5 := Lib.hid (HB.out.trans (hb.mono HB.out.size))
          have HK5 := Lib.hid ((hb.block w.heap.size (by omega)).trans HKr.out)
          have hfr : w5.frozen? ⟨w.heap.size, 0, none⟩ = false := by simp [World.frozen?, HK5.out]
          have hcl : w5.cell? ⟨w.heap.size, 0, none⟩ = some (.slice none 0 0) := by simp [World.cell?, HK5.out]
          clear hb
          go_wp2_with fail
          (try simp only [Exit.inBlock, Exit.then])
          have hcl2 : (w5.setCell ⟨w.heap.size, 0, none⟩ (.slice none 0 0)).cell? ⟨w.heap.size, 0, none⟩ = some (.slice none 0 0) := by
            have hb2 := blk_set (off := 0) (.slice none 0 0) HK5.out
            simp [World.cell?, hb2]
          refine bodyPost_ret (v := .tuple #[.agg #[.slice none 0 0], .int .i64 3]) ?_ rfl ⟨?_, ?_⟩
          · rw [results_cell_tmp1 rfl]; go_simp <;> rfl
          · rw [HE1.out, HE2.out]; exact ⟨_, rfl, sl_zero _⟩
          · exact HB5.out.setCell (p := ⟨w.heap.size, 0, none⟩) (Nat.le_refl _) _
        | true =>
          have h := HFd.out
          have h2 : fdB s j = some (acc, nx) := h
          rw [h2] at HdE HdL
          have e1 : F = 0 := HdE.out
          have e2 : M = acc := HdL.out
          have HE1 := Lib.hid e1
          have HE2 := Lib.hid e2
          obtain ⟨A6, c6, rfl, _, _, _⟩ := rs_own HO.out
          clear h h2 e1 e2 HdE HdL hfr hcl
          go_wp2_with fail
          refine C1.mono ?_
          rintro e w5 ⟨rfl, hb⟩
          have HB5 := Lib.hid (HB.out.trans (hb.mono HB.out.size))
          have HK5 := Lib.hid ((hb.block w.heap.size (by omega)).trans HKr.out)
          have HO5 := Lib.hid (own_belowk HO.out hb)
          have hfr : w5.frozen? ⟨w.heap.size, 0, none⟩ = false := by simp [World.frozen?, HK5.out]
          have hcl : w5.cell? ⟨w.heap.size, 0, none⟩ = some (.slice none 0 0) := by simp [World.cell?, HK5.out]
          clear hb
          go_wp2_with fail
          (try simp only [Exit.inBlock, Exit.then])
          have hcl2 : (w5.setCell ⟨w.heap.size, 0, none⟩ (.slice A6 acc.length c6)).cell? ⟨w.heap.size, 0, none⟩ = some (.slice A6 acc.length c6) := by
            have hb2 := blk_set (off := 0) (.slice A6 acc.length c6) HK5.out
            simp [World.cell?, hb2]
          refine bodyPost_ret (v := .tuple #[.agg #[.slice A6 acc.length c6], .int .i64 0]) ?_ rfl ⟨?_, ?_⟩
          · rw [results_cell_tmp1 rfl]; go_simp <;> rfl
          · rw [HE1.out, HE2.out]
            exact ⟨_, rfl, sl_own (HO5.out.kept (grownBy_setCell' w5 w.heap.size _) (.inr (row_ne_low HO5.out (show w.heap.size < g + 1 by omega)).symm))⟩
          · exact HB5.out.setCell (p := ⟨w.heap.size, 0, none⟩) (Nat.le_refl _) _
      · rw [if_neg hE0] at HdE HdL
        have HE1 := Lib.hid HdE.out
        have HE2 := Lib.hid HdL.out
        clear HdE HdL hfr hcl
        go_wp2_with fail
        refine C1.mono ?_
        rintro e w5 ⟨rfl, hb⟩
        have HB5 := Lib.hid (HB.out.trans (hb.mono HB.out.size))
        have HK5 := Lib.hid ((hb.block w.heap.size (by omega)).trans HKr.out)
        have hfr : w5.frozen? ⟨w.heap.size, 0, none⟩ = false := by simp [World.frozen?, HK5.out]
        have hcl : w5.cell? ⟨w.heap.size, 0, none⟩ = some (.slice none 0 0) := by simp [World.cell?, HK5.out]
        have hEb : (E != (0 : Int)) = true := by simpa using hE0
        clear hb
        go_wp2_with fail
        (try simp only [Exit.inBlock, Exit.then])
        have hcl2 : (w5.setCell ⟨w.heap.size, 0, none⟩ (.slice none 0 0)).cell? ⟨w.heap.size, 0, none⟩ = some (.slice none 0 0) := by
          have hb2 := blk_set (off := 0) (.slice none 0 0) HK5.out
          simp [World.cell?, hb2]
        refine bodyPost_ret (v := .tuple #[.agg #[.slice none 0 0], .int .i64 E]) ?_ rfl ⟨?_, ?_⟩
        · rw [results_cell_tmp1 rfl]; go_simp <;> rfl
        · rw [HE1.out, HE2.out]; exact ⟨_, rfl, sl_zero _⟩
        · exact HB5.out.setCell (p := ⟨w.heap.size, 0, none⟩) (Nat.le_refl _) _
end Go.Proofs.Ytacgomhegjilgaa
