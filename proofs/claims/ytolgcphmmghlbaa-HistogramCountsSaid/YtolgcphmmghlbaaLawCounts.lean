/- HistogramCounts: for any numbers and any number the law returns true (written by wip/bin/gen_hcnt.py). -/
import Derived.Test.YtolgcphmmghlbaaHt
import Derived.Test.YtolgcphmmghlbaaHv
import Derived.Deep.QuietTactic
import Derived.BigQuiet
import Derived.Deep.RegionHeld3
namespace Go.Proofs.Ytolgcphmmghlbaa.lawCounts
open Go.Proofs.Ytolgcphmmghlbaa Go.ChangeShapes Go.WideShapes Go.ChangeAt Go.RowKit Go.Joins

theorem laidOut : laidOutB Try.prog = true := by kernel_rfl
set_option maxRecDepth 100000 in
set_option maxHeartbeats 8000000 in
theorem walk (w : World) (A0 : Option Addr) (c0 : Nat) (L0 : List Int) (hL0 : L0.length ≤ 9223372036854775807) (hs0 : ∀ x ∈ L0, -9223372036854775808 ≤ x ∧ x ≤ 9223372036854775807) (hR0 : Rd (Value.int .i64) w A0 L0) (v : Int) (_wv : (Lit.int .i64 v).wf = true) :
    Calls Try.prog 10 #[.slice A0 L0.length c0, .int .i64 v] w fun e w' => e = .returned (.bool true) ∧ Below w.heap.size w w' := by
  have HOf := Lib.hid (fun W h => lof_any A0 c0 L0 hL0 hs0 W h)
  have HVs := Lib.hid (fun W h => values_any A0 c0 L0 hL0 hs0 W h)
  have HR := Lib.hid (fun W (hb : Below w.heap.size w W) => hR0.below hb)
  have hln := vsN_len L0 40
  have hok := vsN_ok L0 40
  clear hR0 hs0 hL0
  obtain ⟨M, hM⟩ : ∃ M, M = vsN L0 40 := ⟨_, rfl⟩
  rw [← hM] at HOf HVs hln hok
  clear hM
  have hvb := vb_of M (by omega)
  have htt := tot_of M hok
  have hbl := bkN_len (cvN M M.length) 305
  rw [show bkN (cvN M M.length) 305 = bkS M from rfl] at hvb htt hbl
  have HN := Lib.hid (fun j n s le mo be ab (h : Cn v M j n s le mo be ab) hj u hu => h.next hok hj u hu)
  have HAll := Lib.hid (fun n s le mo be ab (h : Cn v M M.length n s le mo be ab) => h.all hok)
  have HVl := Lib.hid (fun j (hj : j < M.length) => hok _ (List.getElem_mem hj))
  obtain ⟨B, hB⟩ : ∃ B, B = bkS M := ⟨_, rfl⟩
  rw [← hB] at HOf HAll hvb htt hbl
  have HAm := Lib.hid (fun W A c h => atmost_any A c B hbl hvb v W h)
  have HSm := Lib.hid (fun W A c h => sum_any A c B hbl hvb (by rw [htt]; omega) W h)
  clear hB hvb htt hbl hok
  obtain ⟨a1, ha1⟩ : ∃ a, a = amS hiN B v B.length := ⟨_, rfl⟩
  obtain ⟨a2, ha2⟩ : ∃ a, a = amS loN B v B.length := ⟨_, rfl⟩
  obtain ⟨s1, hs1⟩ : ∃ a, a = smS loN B B.length := ⟨_, rfl⟩
  obtain ⟨s2, hs2⟩ : ∃ a, a = smS hiN B B.length := ⟨_, rfl⟩
  rw [← ha1, ← ha2] at HAm
  rw [← hs1, ← hs2] at HSm
  rw [← ha1, ← ha2, ← hs1, ← hs2] at HAll
  clear ha1 ha2 hs1 hs2
  go_enter Try.func10, Try.ntmps10
  go_wp2_with fail
  refine (known_any _).mono ?_
  rintro e w1 ⟨rfl, hb⟩
  have HB1 := Lib.hid hb
  clear hb
  go_wp2_with fail
  refine (HOf.out _ (HR.out _ HB1.out)).mono ?_
  rintro e w2 ⟨⟨x, rfl, ho⟩, hb⟩
  obtain ⟨A, c, rfl, _, hrs, _⟩ := rs_own ho
  have HB2 := Lib.hid (HB1.out.trans (hb.mono HB1.out.size))
  have HRs := Lib.hid (fun W (hb : Below w2.heap.size w2 W) => (fun j hj => by
      obtain ⟨b, off, e, h1, h2⟩ := Rs.below hrs hb j hj
      exact ⟨b, off, e, Nat.lt_of_lt_of_le h1 hb.size, h2⟩ : Rs W W.heap.size A (ivCells B)))
  clear ho hb hrs
  go_wp2_with fail
  refine (HVs.out _ (HR.out _ HB2.out)).mono ?_
  rintro e w3 ⟨⟨x, rfl, ho⟩, hb⟩
  obtain ⟨D, d, rfl, _, hrd⟩ := out_own ho
  have HC3 := Lib.hid hb
  have HRd := Lib.hid (fun W (hb : Below w3.heap.size w3 W) => hrd.below hb)
  have HCa := Lib.hid (HC3.out.alloc HC3.out.size (.cells #[.slice A B.length c] 33))
  have HDa : Hid (Below w3.heap.size w3 (w3.alloc (.cells #[.slice A B.length c] 33))) := Lib.hid ((Below.refl _ _).alloc (Nat.le_refl _) _)
  have HKa := Lib.hid (Deep.blk_alloc_new w3 (.cells #[.slice A B.length c] 33))
  clear ho hb hrd
  have k0 := cell_of_row _ w3.heap.size 0 _ _ _ HKa.out
  simp at k0
  go_wp2_with fail
  refine (HAm.out _ _ _ (HRs.out _ HCa.out)).mono ?_
  rintro e w4 ⟨rfl, hb⟩
  have HD4 := Lib.hid (HDa.out.trans (hb.mono HDa.out.size))
  have HC4 := Lib.hid (HCa.out.trans (hb.mono HCa.out.size))
  have HK4 := Lib.hid ((hb.block w3.heap.size ((Array.getElem?_eq_some_iff.1 HKa.out).1)).trans HKa.out)
  clear hb k0
  have k0 := cell_of_row _ w3.heap.size 0 _ _ _ HK4.out
  go_wp2_with fail
  refine (HSm.out _ _ _ (HRs.out _ HC4.out)).mono ?_
  rintro e w5 ⟨rfl, hb⟩
  have HD5 := Lib.hid (HD4.out.trans (hb.mono HD4.out.size))
  have HC5 := Lib.hid (HC4.out.trans (hb.mono HC4.out.size))
  have HB5 := Lib.hid (HB2.out.trans (HC5.out.mono HB2.out.size))
  clear hb k0 HK4 HKa HD4 HDa HC4 HCa HC3 HC5 HRs HAm HSm HVs HOf HR HB1 HB2
  go_wp2_with fail
  go_loopw [11, 12, 13, 14, 15, 16, 17, 18] (fun nv sv lv mv bv av iv kv wr => ∃ (j : Nat) (n s le mo be ab : Int), j ≤ M.length ∧ nv = .int .i64 n ∧ sv = .int .i64 s ∧ lv = .int .i64 le ∧ mv = .int .i64 mo ∧ bv = .int .i64 be ∧ av = .int .i64 ab ∧ iv = .int .i64 (j : Int) ∧ Hid (Cn v M j n s le mo be ab) ∧ Hid (Below w5.heap.size w5 wr)) (fun _ _ _ _ _ _ iv _ _ => M.length - (intOf iv).toNat)
  case atStart => exact ⟨0, 0, 0, 0, 0, 0, 0, Nat.zero_le _, rfl, rfl, rfl, rfl, rfl, rfl, rfl, Lib.hid (Cn.zero v M), Lib.hid (Below.refl _ _)⟩
  case round =>
    obtain ⟨j, n, s, le, mo, be, ab, hj, rfl, rfl, rfl, rfl, rfl, rfl, rfl, HC, HBr⟩ := hrel
    have hsz := HBr.out.size
    have hj0 : (0 : Int) ≤ (j : Int) := by omega
    obtain ⟨hn0, hn1⟩ := HC.out.bn
    obtain ⟨hl0, hl1⟩ := HC.out.bl
    obtain ⟨hm0, hm1⟩ := HC.out.bm
    obtain ⟨hb0, hb1⟩ := HC.out.bb
    obtain ⟨hs0, hs1⟩ := HC.out.bs
    by_cases hlt : j < M.length
    · have hjI : (j : Int) < (M.length : Int) := by omega
      have HX := Lib.hid (fun n => HRd.out _ (HD5.out.trans ((below_drewN HBr.out n).mono HD5.out.size)))
      obtain ⟨b, off, rfl, hb, h0⟩ := int_at (HRd.out _ (HD5.out.trans (HBr.out.mono HD5.out.size))) j hlt
      have H0 := Lib.hid (fun n => by obtain ⟨_, _, e, _, h⟩ := int_at (HX.out n) j hlt; cases e; exact h : ∀ n, (wr.drewN n).cell? ⟨b, off + j, none⟩ = some (.int .i64 M[j]))
      have hbd := HVl.out j hlt
      obtain ⟨u, hu⟩ : ∃ u : Nat, M[j] = (u : Int) := ⟨M[j].toNat, by have := hbd.1; omega⟩
      have hu40 : u ≤ 1099511627776 := by have := hbd.2; omega
      have HNx := Lib.hid (HN.out j n s le mo be ab HC.out hlt u (by rw [← hu]; simp [List.getD, List.getElem?_eq_getElem hlt]))
      rw [hu] at h0 H0
      have h5 := ix_lt u hu40
      obtain ⟨i1, i2⟩ := lo_le_hi _ h5
      have HI := Lib.hid (fun W => lindex_any u hu40 W)
      obtain ⟨q, hq⟩ : ∃ q, q = ix u := ⟨_, rfl⟩
      rw [← hq] at HI h5 i1 i2 HNx
      have HLo := Lib.hid (fun W => low_any q h5 W)
      have HHi := Lib.hid (fun W => high_any q h5 W)
      obtain ⟨lo, hlo⟩ : ∃ lo, lo = loN q := ⟨_, rfl⟩
      obtain ⟨hi, hhi⟩ : ∃ hi, hi = hiN q := ⟨_, rfl⟩
      rw [← hlo] at HLo i1 HNx
      rw [← hhi] at HHi i1 i2 HNx
      have hw1 : IntKind.i64.wrap ((j : Int) + 1) = (j : Int) + 1 := by simp only [IntKind.wrap_i64]; omega
      have hwn : IntKind.i64.wrap (n + 1) = n + 1 := by simp only [IntKind.wrap_i64]; omega
      have hwl : IntKind.i64.wrap (le + 1) = le + 1 := by simp only [IntKind.wrap_i64]; omega
      have hwm : IntKind.i64.wrap (mo + 1) = mo + 1 := by simp only [IntKind.wrap_i64]; omega
      have hws : IntKind.i64.wrap (s + (u : Int)) = s + (u : Int) := by simp only [IntKind.wrap_i64]; omega
      have hwb : IntKind.i64.wrap (be + (lo : Int)) = be + (lo : Int) := by simp only [IntKind.wrap_i64]; omega
      have hwa : IntKind.i64.wrap (ab + (hi : Int)) = ab + (hi : Int) := by simp only [IntKind.wrap_i64]; omega
      clear hbd hu hq hlo hhi h5 HC HX hn0 hn1 hl0 hl1 hm0 hm1 hb0 hb1 hs0 hs1 i1 i2
      clear HN HAll HVl HRd HD5
      by_cases c1 : (u : Int) ≤ v
      · rw [if_pos c1] at HNx
        by_cases c2 : (hi : Int) ≤ v
        · rw [if_pos c2] at HNx
          by_cases c3 : (lo : Int) ≤ v
          · rw [if_pos c3] at HNx
            go_wp2_with (first
              | (go_at_call 15; refine (HI.out _).mono ?_; rintro e w' ⟨rfl, rfl⟩)
              | (go_at_call 16; refine (HLo.out _).mono ?_; rintro e w' ⟨rfl, rfl⟩)
              | (go_at_call 17; refine (HHi.out _).mono ?_; rintro e w' ⟨rfl, rfl⟩))
            go_region_held3 (fun W => W.cell? ⟨b, off + j, none⟩ = some (.int .i64 (u : Int))) (first | exact H0.out _ | assumption) ((first
              | (go_at_call 15; refine (HI.out _).mono ?_; rintro e w' ⟨rfl, rfl⟩)
              | (go_at_call 16; refine (HLo.out _).mono ?_; rintro e w' ⟨rfl, rfl⟩)
              | (go_at_call 17; refine (HHi.out _).mono ?_; rintro e w' ⟨rfl, rfl⟩)))
            all_goals
              go_wp2_with fail
              go_roundw
              case rel => exact ⟨j + 1, n + 1, s + (u : Int), le + 1, mo + 1, be + (lo : Int), ab + (hi : Int), by omega, rfl, rfl, rfl, rfl, rfl, rfl, by go_num, HNx, Lib.hid (below_drewN HBr.out _)⟩
              case measure => simp [intOf] <;> omega
          · rw [if_neg c3] at HNx
            go_wp2_with (first
              | (go_at_call 15; refine (HI.out _).mono ?_; rintro e w' ⟨rfl, rfl⟩)
              | (go_at_call 16; refine (HLo.out _).mono ?_; rintro e w' ⟨rfl, rfl⟩)
              | (go_at_call 17; refine (HHi.out _).mono ?_; rintro e w' ⟨rfl, rfl⟩))
            go_region_held3 (fun W => W.cell? ⟨b, off + j, none⟩ = some (.int .i64 (u : Int))) (first | exact H0.out _ | assumption) ((first
              | (go_at_call 15; refine (HI.out _).mono ?_; rintro e w' ⟨rfl, rfl⟩)
              | (go_at_call 16; refine (HLo.out _).mono ?_; rintro e w' ⟨rfl, rfl⟩)
              | (go_at_call 17; refine (HHi.out _).mono ?_; rintro e w' ⟨rfl, rfl⟩)))
            all_goals
              go_wp2_with fail
              go_roundw
              case rel => exact ⟨j + 1, n + 1, s + (u : Int), le + 1, mo, be + (lo : Int), ab + (hi : Int), by omega, rfl, rfl, rfl, rfl, rfl, rfl, by go_num, HNx, Lib.hid (below_drewN HBr.out _)⟩
              case measure => simp [intOf] <;> omega
        · rw [if_neg c2] at HNx
          by_cases c3 : (lo : Int) ≤ v
          · rw [if_pos c3] at HNx
            go_wp2_with (first
              | (go_at_call 15; refine (HI.out _).mono ?_; rintro e w' ⟨rfl, rfl⟩)
              | (go_at_call 16; refine (HLo.out _).mono ?_; rintro e w' ⟨rfl, rfl⟩)
              | (go_at_call 17; refine (HHi.out _).mono ?_; rintro e w' ⟨rfl, rfl⟩))
            go_region_held3 (fun W => W.cell? ⟨b, off + j, none⟩ = some (.int .i64 (u : Int))) (first | exact H0.out _ | assumption) ((first
              | (go_at_call 15; refine (HI.out _).mono ?_; rintro e w' ⟨rfl, rfl⟩)
              | (go_at_call 16; refine (HLo.out _).mono ?_; rintro e w' ⟨rfl, rfl⟩)
              | (go_at_call 17; refine (HHi.out _).mono ?_; rintro e w' ⟨rfl, rfl⟩)))
            all_goals
              go_wp2_with fail
              go_roundw
              case rel => exact ⟨j + 1, n + 1, s + (u : Int), le, mo + 1, be + (lo : Int), ab + (hi : Int), by omega, rfl, rfl, rfl, rfl, rfl, rfl, by go_num, HNx, Lib.hid (below_drewN HBr.out _)⟩
              case measure => simp [intOf] <;> omega
          · rw [if_neg c3] at HNx
            go_wp2_with (first
              | (go_at_call 15; refine (HI.out _).mono ?_; rintro e w' ⟨rfl, rfl⟩)
              | (go_at_call 16; refine (HLo.out _).mono ?_; rintro e w' ⟨rfl, rfl⟩)
              | (go_at_call 17; refine (HHi.out _).mono ?_; rintro e w' ⟨rfl, rfl⟩))
            go_region_held3 (fun W => W.cell? ⟨b, off + j, none⟩ = some (.int .i64 (u : Int))) (first | exact H0.out _ | assumption) ((first
              | (go_at_call 15; refine (HI.out _).mono ?_; rintro e w' ⟨rfl, rfl⟩)
              | (go_at_call 16; refine (HLo.out _).mono ?_; rintro e w' ⟨rfl, rfl⟩)
              | (go_at_call 17; refine (HHi.out _).mono ?_; rintro e w' ⟨rfl, rfl⟩)))
            all_goals
              go_wp2_with fail
              go_roundw
              case rel => exact ⟨j + 1, n + 1, s + (u : Int), le, mo, be + (lo : Int), ab + (hi : Int), by omega, rfl, rfl, rfl, rfl, rfl, rfl, by go_num, HNx, Lib.hid (below_drewN HBr.out _)⟩
              case measure => simp [intOf] <;> omega
      · rw [if_neg c1] at HNx
        by_cases c2 : (hi : Int) ≤ v
        · rw [if_pos c2] at HNx
          by_cases c3 : (lo : Int) ≤ v
          · rw [if_pos c3] at HNx
            go_wp2_with (first
              | (go_at_call 15; refine (HI.out _).mono ?_; rintro e w' ⟨rfl, rfl⟩)
              | (go_at_call 16; refine (HLo.out _).mono ?_; rintro e w' ⟨rfl, rfl⟩)
              | (go_at_call 17; refine (HHi.out _).mono ?_; rintro e w' ⟨rfl, rfl⟩))
            go_region_held3 (fun W => W.cell? ⟨b, off + j, none⟩ = some (.int .i64 (u : Int))) (first | exact H0.out _ | assumption) ((first
              | (go_at_call 15; refine (HI.out _).mono ?_; rintro e w' ⟨rfl, rfl⟩)
              | (go_at_call 16; refine (HLo.out _).mono ?_; rintro e w' ⟨rfl, rfl⟩)
              | (go_at_call 17; refine (HHi.out _).mono ?_; rintro e w' ⟨rfl, rfl⟩)))
            all_goals
              go_wp2_with fail
              go_roundw
              case rel => exact ⟨j + 1, n, s + (u : Int), le + 1, mo + 1, be + (lo : Int), ab + (hi : Int), by omega, rfl, rfl, rfl, rfl, rfl, rfl, by go_num, HNx, Lib.hid (below_drewN HBr.out _)⟩
              case measure => simp [intOf] <;> omega
          · rw [if_neg c3] at HNx
            go_wp2_with (first
              | (go_at_call 15; refine (HI.out _).mono ?_; rintro e w' ⟨rfl, rfl⟩)
              | (go_at_call 16; refine (HLo.out _).mono ?_; rintro e w' ⟨rfl, rfl⟩)
              | (go_at_call 17; refine (HHi.out _).mono ?_; rintro e w' ⟨rfl, rfl⟩))
            go_region_held3 (fun W => W.cell? ⟨b, off + j, none⟩ = some (.int .i64 (u : Int))) (first | exact H0.out _ | assumption) ((first
              | (go_at_call 15; refine (HI.out _).mono ?_; rintro e w' ⟨rfl, rfl⟩)
              | (go_at_call 16; refine (HLo.out _).mono ?_; rintro e w' ⟨rfl, rfl⟩)
              | (go_at_call 17; refine (HHi.out _).mono ?_; rintro e w' ⟨rfl, rfl⟩)))
            all_goals
              go_wp2_with fail
              go_roundw
              case rel => exact ⟨j + 1, n, s + (u : Int), le + 1, mo, be + (lo : Int), ab + (hi : Int), by omega, rfl, rfl, rfl, rfl, rfl, rfl, by go_num, HNx, Lib.hid (below_drewN HBr.out _)⟩
              case measure => simp [intOf] <;> omega
        · rw [if_neg c2] at HNx
          by_cases c3 : (lo : Int) ≤ v
          · rw [if_pos c3] at HNx
            go_wp2_with (first
              | (go_at_call 15; refine (HI.out _).mono ?_; rintro e w' ⟨rfl, rfl⟩)
              | (go_at_call 16; refine (HLo.out _).mono ?_; rintro e w' ⟨rfl, rfl⟩)
              | (go_at_call 17; refine (HHi.out _).mono ?_; rintro e w' ⟨rfl, rfl⟩))
            go_region_held3 (fun W => W.cell? ⟨b, off + j, none⟩ = some (.int .i64 (u : Int))) (first | exact H0.out _ | assumption) ((first
              | (go_at_call 15; refine (HI.out _).mono ?_; rintro e w' ⟨rfl, rfl⟩)
              | (go_at_call 16; refine (HLo.out _).mono ?_; rintro e w' ⟨rfl, rfl⟩)
              | (go_at_call 17; refine (HHi.out _).mono ?_; rintro e w' ⟨rfl, rfl⟩)))
            all_goals
              go_wp2_with fail
              go_roundw
              case rel => exact ⟨j + 1, n, s + (u : Int), le, mo + 1, be + (lo : Int), ab + (hi : Int), by omega, rfl, rfl, rfl, rfl, rfl, rfl, by go_num, HNx, Lib.hid (below_drewN HBr.out _)⟩
              case measure => simp [intOf] <;> omega
          · rw [if_neg c3] at HNx
            go_wp2_with (first
              | (go_at_call 15; refine (HI.out _).mono ?_; rintro e w' ⟨rfl, rfl⟩)
              | (go_at_call 16; refine (HLo.out _).mono ?_; rintro e w' ⟨rfl, rfl⟩)
              | (go_at_call 17; refine (HHi.out _).mono ?_; rintro e w' ⟨rfl, rfl⟩))
            go_region_held3 (fun W => W.cell? ⟨b, off + j, none⟩ = some (.int .i64 (u : Int))) (first | exact H0.out _ | assumption) ((first
              | (go_at_call 15; refine (HI.out _).mono ?_; rintro e w' ⟨rfl, rfl⟩)
              | (go_at_call 16; refine (HLo.out _).mono ?_; rintro e w' ⟨rfl, rfl⟩)
              | (go_at_call 17; refine (HHi.out _).mono ?_; rintro e w' ⟨rfl, rfl⟩)))
            all_goals
              go_wp2_with fail
              go_roundw
              case rel => exact ⟨j + 1, n, s + (u : Int), le, mo, be + (lo : Int), ab + (hi : Int), by omega, rfl, rfl, rfl, rfl, rfl, rfl, by go_num, HNx, Lib.hid (below_drewN HBr.out _)⟩
              case measure => simp [intOf] <;> omega
    · obtain rfl : j = M.length := by omega
      obtain ⟨rfl, rfl, rfl, rfl⟩ := HAll.out _ _ _ _ _ _ HC.out
      go_wp2_with fail
      go_ret
      exact ⟨by first | rfl | simp, HB5.out.trans (HBr.out.mono HB5.out.size)⟩
set_option maxRecDepth 100000 in
theorem lifted (os : Os) (started : os.Started) (H : Type) (enc : TypeId × Value → H) :
    ReturnsInHanded {} Try.checked os 10 .any (Rows.histogramCountsSpec.pre6 enc Try.prog Try.f10 Rows.histogramCountsRow.domain false) (Rows.histogramCountsSpec.post enc Try.prog Try.f10 false true false false) := by
  refine returnsInHanded_of_change (C := Try.checked) own started (by kernel_rfl) Try.func10
    (ChangeSpec.witness6 (enc := enc) (C := Try.checked) false ⟨#[], #[.slice none 0 0, .int .i64 0], []⟩ 8 (by kernel_rfl) (by kernel_rfl) (by kernel_rfl) (by kernel_rfl)) ?_
  intro W base args ds gs before hval0 hW _ _
  have hval : ∀ (j : Nat) t v, Try.f10.params[j]? = some t → args[j]? = some v → Value.okWide Try.prog W .any base t v := hval0
  have hW' := hW
  obtain ⟨p, q, hA0, hV, rfl, _, _⟩ := hW
  have hA : DataW.TrodAll enc Try.prog W 0 (fun _ => true) true Try.f10.params.toList args.toList ds p := hA0
  rw [Try.params10] at hA hval
  obtain ⟨v0, vs0, d0, ds0, p0, q0, hargs0, rfl, rfl, h0, r0⟩ := trodAll_cons hA
  obtain ⟨v1, vs1, d1, ds1, p1, q1, hargs1, rfl, rfl, h1, r1⟩ := trodAll_cons r0
  obtain ⟨rfl, rfl, rfl⟩ := trodAll_nil r1
  obtain rfl : args = #[v0, v1] := by cases args; simp_all
  obtain ⟨rfl, rfl⟩ := trodVars_none hV
  have lt0 : ∀ x ∈ p0, x.block < W.heap.size := fun x hx => hW'.lt x (by simp [hx])
  obtain ⟨A0, c0, L0, rfl, hL0, hs0, hR0⟩ := open_numb (hval 0 36 v0 rfl rfl) h0 lt0
  obtain ⟨a1, rfl, rfl, rfl, wa1⟩ := open_int Try.underlying3 (hval 1 3 v1 rfl rfl) h1
  clear hA0 hval0
  simp only [List.append_nil] at hW'
  refine (walk W A0 c0 L0 hL0 hs0 hR0 a1 wa1).mono fun e W' ⟨he, hb⟩ => ?_
  subst he
  exact ⟨_, rfl, post_mem hW' hb (fun _ _ _ => trodAll_mk1 (shut_bool Try.underlying4 _)) (fun sp hsp => by
    have t := trodAll_cons_mk (carry laidOut (by kernel_rfl) (of_decide_eq_true (by kernel_rfl)) h0 hb lt0 sp (fun x hx => hsp x (by simp [hx]))) (trodAll_cons_mk (shut_int Try.underlying3 wa1) trodAll_mk0)
    simp only [List.append_nil] at t
    exact t) (fun _ => rfl) (ok_one (by kernel_rfl) rfl (okWide_bool_mk Try.underlying4 _))⟩

theorem proved : Rows.HistogramCountsSaid :=
  OpenClaim.holds_of_wide 10 Try.f10 rfl rfl rfl rfl rfl rfl rfl ⟨rfl, rfl, rfl, rfl, rfl⟩ rfl rfl rfl rfl rfl (by kernel_rfl) Try.func10 (by kernel_rfl)
    (of_decide_eq_true (by kernel_rfl)) (by unfold Func.isWrapper; first | (rw [if_pos (by decide +kernel)]; kernel_rfl) | (rw [if_neg (by decide +kernel)]; exact ⟨rfl, rfl⟩))
    (fun os started H enc _ => lifted os started H enc)

end Go.Proofs.Ytolgcphmmghlbaa.lawCounts
