/- The statement BitmapNots: for any set, any size and any number, the law returns true and changes nothing (written by wip/bin/gen_nots.py). -/
import Derived.Test.YtacgomhegjilgaaHe
import Derived.Test.YtacgomhegjilgaaGh
import Derived.Test.YtacgomhegjilgaaHf
import Derived.Test.YtacgomhegjilgaaJb
import Derived.Test.YtacgomhegjilgaaJc
namespace Go.Proofs.Ytacgomhegjilgaa.lawNots
open Go.Proofs.Ytacgomhegjilgaa Go.ChangeShapes Go.WideShapes Go.ChangeAt Go.RowKit Go.Joins Ts

attribute [local go_sem ↓] Go.wp_at_zero Go.wp_at_succ
theorem nil_bs (n : Nat) : Bs n [] := ⟨Nrm.nil, Nat.zero_le _, fun _ h => absurd h In.nil⟩

set_option maxRecDepth 100000 in
set_option maxHeartbeats 16000000 in
theorem walk_fit (w : World) (b0 : Int) (hb0 : 0 ≤ b0 ∧ b0 ≤ 65535) (A0 : Option Addr) (c0 : Nat) (L0 : List Iv) (hL0 : L0.length ≤ 9223372036854775807) (hs0 : ∀ x ∈ L0, PrOk x) (hR0 : Rs w w.heap.size A0 (prCells L0)) (a1 : Int) (wa1 : (Lit.int .u16 a1).wf = true) (a2 : Int) (wa2 : (Lit.int .i64 a2).wf = true) (hfit : Fits a2 (setL (rowS b0 L0))) :
    Calls Try.prog 10 #[.agg #[.int .u16 b0, .slice A0 L0.length c0], .int .u16 a1, .int .i64 a2] w fun e w' => e = .returned (.bool true) ∧ Below w.heap.size w w' := by
  have ha1 := bdu16 wa1
  have ha2 := bd64 wa2
  have HA1 := Lib.hid ha1
  have HA2 := Lib.hid ha2
  have HFit := Lib.hid hfit
  clear wa1 wa2 ha1 ha2 hfit
  obtain ⟨hi0, hrw0, hln0⟩ := rowS_spec b0 hs0
  have CM0 := Lib.hid (fun W (g : Gb w W) => made_any b0 hb0 A0 c0 L0 hL0 hs0 W ((hR0.below g.out).more g.out.size))
  have CR0 := Lib.hid (fun W (g : Gb w W) => rows_any b0 hb0 A0 c0 L0 hL0 hs0 W ((hR0.below g.out).more g.out.size))
  obtain ⟨l0, hl0⟩ : ∃ l, l = rowS b0 L0 := ⟨_, rfl⟩
  rw [← hl0] at hi0 hrw0 hln0 CM0 CR0 HFit
  have hB0 : Bs 80000 (setL l0) := set_bs (by omega) hrw0
  have hm0 : ∀ n, n ∈ l0 ↔ In n (setL l0) := fun n => ((setL_spec l0).2 n).symm
  obtain ⟨M0, hM0⟩ : ∃ M, M = setL l0 := ⟨_, rfl⟩
  rw [← hM0] at hB0 hm0 CM0 HFit
  obtain ⟨R0, hRn0⟩ : ∃ R, R = rn M0 := ⟨_, rfl⟩
  rw [← hRn0] at CM0
  have HRn0 := Lib.hid hRn0
  have HRw0 := Lib.hid hrw0
  have HI0 := Lib.hid hi0
  have HBs0 := Lib.hid hB0
  have HM0 := Lib.hid hm0
  clear hR0 hl0 hM0 hRn0 hs0 hL0 hrw0 hi0 hB0 hm0
  go_enter Try.func10, Try.ntmps10
  go_wp2_with fail
  refine (known_any _).mono ?_
  rintro e w1 ⟨rfl, hb⟩
  have F1 : Fr (w.alloc (.cells #[.int .u16 b0, .slice A0 L0.length c0] 36)) w1 := ⟨hb⟩
  have G1 : Gb w w1 := Gb.call (Gb.alloc (Gb.refl w) _) F1
  have K0 : Bk1 (w.heap.size) (.cells #[.int .u16 b0, .slice A0 L0.length c0] 36 (0, 0)) w1 := Bk1.call ((Bk1.new (W := w) (by rfl) (fun v => Deep.blk_alloc_new v _) : Bk1 (w.heap.size) (.cells #[.int .u16 b0, .slice A0 L0.length c0] 36 (0, 0)) _)) F1
  have hk00 : w1.cell? ⟨w.heap.size, 0, none⟩ = some (.int .u16 b0) := cell_of_row w1 _ 0 _ _ _ K0.out
  have hk01 : w1.cell? ⟨w.heap.size, 1, none⟩ = some (.slice A0 L0.length c0) := cell_of_row w1 _ 1 _ _ _ K0.out
  have hz1 := F1.size1
  simp at hz1
  clear hb
  have HS : Hid (∀ W, Gb w1 W → W.cell? ⟨w.heap.size, 0, none⟩ = some (.int .u16 b0) ∧ W.cell? ⟨w.heap.size, 1, none⟩ = some (.slice A0 L0.length c0)) := Lib.hid (fun W g => by
    have f0 : W.heap[w.heap.size]? = some (.cells #[.int .u16 b0, .slice A0 L0.length c0] 36 (0, 0)) := (g.out.block _ (Array.getElem?_eq_some_iff.1 K0.out).1).trans K0.out
    exact ⟨cell_of_row W _ 0 _ _ _ f0, cell_of_row W _ 1 _ _ _ f0⟩)
  go_upto_region 3 with fail
  go_cut [7, 8] (fun s7 s8 wx => ∃ (X0 : Nat) (P0 : Option Addr) (p0 : Nat) (Q0 : Option Addr) (q0 : Nat), s7 = .pointer (some ⟨X0, 0, none⟩) ∧ s8 = .slice Q0 l0.length q0 ∧ Hid (Hold w [(X0, Obj.cells #[.slice P0 R0.length p0] 26 (0, 0))] [(.slice P0 R0.length p0, R0)] [(Q0, nC l0)] wx))
  case first =>
    go_region_held3 (fun W => W.cell? ⟨w.heap.size, 0, none⟩ = some (.int .u16 b0) ∧ W.cell? ⟨w.heap.size, 1, none⟩ = some (.slice A0 L0.length c0))
      (exact HS.out _ (by ((repeat (first | (with_reducible assumption) | (with_reducible exact Gb.refl _) | (with_reducible refine Gb.call ?_ (by with_reducible assumption)) | (with_reducible refine Gb.alloc ?_ _) | (with_reducible refine Gb.drew ?_) | (with_reducible refine Gb.setCell ?_ (by omega) _))); (first | done | fail))))
      ((first
        | (go_at_call 24; have := E0; refine (CR0.out _ (by ((repeat (first | (with_reducible assumption) | (with_reducible exact Gb.refl _) | (with_reducible refine Gb.call ?_ (by with_reducible assumption)) | (with_reducible refine Gb.alloc ?_ _) | (with_reducible refine Gb.drew ?_) | (with_reducible refine Gb.setCell ?_ (by omega) _))); (first | done | fail)))).mono ?_; rintro e v1 ⟨⟨y0, rfl, hown⟩, hb1⟩; have E1 : Fr _ v1 := ⟨hb1⟩; obtain ⟨Q0, q0, rfl, _, hro, _⟩ := rs_ownn hown; have U0 : Rt Q0 l0 v1 := ⟨hro⟩; have z1 := E1.size1; (try simp at z1); clear hb1 hown hro; (try (have kk : Bk1 (w1.heap.size) (.cells #[.slice none 0 0] 26 (0, 0)) v1 := (by ((repeat (first | (with_reducible assumption) | (with_reducible refine Bk1.call ?_ (by with_reducible assumption)) | (with_reducible refine Bk1.new ?_ (new_bm _); first | rfl | (simp; done)) | (with_reducible refine Bk1.old ?_ _) | (with_reducible refine Bk1.drew ?_) | (with_reducible refine Bk1.same ?_) | (with_reducible refine Bk1.other ?_ (by omega) _))); (first | done | fail))); have cc : v1.cell? ⟨w1.heap.size, 0, none⟩ = some (.slice none 0 0) := cell_of_row _ _ 0 _ _ _ kk.out; have ff : v1.frozen? ⟨w1.heap.size, 0, none⟩ = false := frozen_of_row _ _ _ _ _ kk.out; have ll : w1.heap.size < v1.heap.size := (Array.getElem?_eq_some_iff.1 kk.out).1; clear kk)); (try (have kk : Bk1 (v0.heap.size) (.cells #[.slice none 0 0] 26 (0, 0)) v1 := (by ((repeat (first | (with_reducible assumption) | (with_reducible refine Bk1.call ?_ (by with_reducible assumption)) | (with_reducible refine Bk1.new ?_ (new_bm _); first | rfl | (simp; done)) | (with_reducible refine Bk1.old ?_ _) | (with_reducible refine Bk1.drew ?_) | (with_reducible refine Bk1.same ?_) | (with_reducible refine Bk1.other ?_ (by omega) _))); (first | done | fail))); have cc : v1.cell? ⟨v0.heap.size, 0, none⟩ = some (.slice none 0 0) := cell_of_row _ _ 0 _ _ _ kk.out; have ff : v1.frozen? ⟨v0.heap.size, 0, none⟩ = false := frozen_of_row _ _ _ _ _ kk.out; have ll : v0.heap.size < v1.heap.size := (Array.getElem?_eq_some_iff.1 kk.out).1; clear kk)))
        | (go_at_call 22; refine (CM0.out _ (by ((repeat (first | (with_reducible assumption) | (with_reducible exact Gb.refl _) | (with_reducible refine Gb.call ?_ (by with_reducible assumption)) | (with_reducible refine Gb.alloc ?_ _) | (with_reducible refine Gb.drew ?_) | (with_reducible refine Gb.setCell ?_ (by omega) _))); (first | done | fail)))).mono ?_; rintro e v0 ⟨⟨r0, rfl, hr0⟩, hb0⟩; have E0 : Fr _ v0 := ⟨hb0⟩; have T0 : St r0 R0 v0 := ⟨hr0⟩; have z0 := E0.size1; obtain ⟨P0, p0, rfl, _, _, _, _⟩ := hr0; (try simp at z0); clear hb0; (try (have kk : Bk1 (w1.heap.size) (.cells #[.slice none 0 0] 26 (0, 0)) v0 := (by ((repeat (first | (with_reducible assumption) | (with_reducible refine Bk1.call ?_ (by with_reducible assumption)) | (with_reducible refine Bk1.new ?_ (new_bm _); first | rfl | (simp; done)) | (with_reducible refine Bk1.old ?_ _) | (with_reducible refine Bk1.drew ?_) | (with_reducible refine Bk1.same ?_) | (with_reducible refine Bk1.other ?_ (by omega) _))); (first | done | fail))); have cc : v0.cell? ⟨w1.heap.size, 0, none⟩ = some (.slice none 0 0) := cell_of_row _ _ 0 _ _ _ kk.out; have ff : v0.frozen? ⟨w1.heap.size, 0, none⟩ = false := frozen_of_row _ _ _ _ _ kk.out; have ll : w1.heap.size < v0.heap.size := (Array.getElem?_eq_some_iff.1 kk.out).1; clear kk)))
        | fail))
    all_goals
      go_wp2_with fail
      go_meet
      refine ⟨_, P0, p0, Q0, q0, rfl, rfl, Lib.hid ⟨(by ((repeat (first | (with_reducible assumption) | (with_reducible exact Gb.refl _) | (with_reducible refine Gb.call ?_ (by with_reducible assumption)) | (with_reducible refine Gb.alloc ?_ _) | (with_reducible refine Gb.drew ?_) | (with_reducible refine Gb.setCell ?_ (by omega) _))); (first | done | fail)) : Gb w _).out, ?_, ?_, ?_⟩⟩
      · intro p hp
        simp only [List.mem_cons, List.not_mem_nil, or_false] at hp
        subst hp
        all_goals dsimp only
        all_goals refine Bk1.out ?_
        all_goals ((repeat (first | (with_reducible assumption) | (with_reducible refine Bk1.call ?_ (by with_reducible assumption)) | (with_reducible refine Bk1.new ?_ (new_bm _); first | rfl | (simp; done)) | (with_reducible refine Bk1.old ?_ _) | (with_reducible refine Bk1.drew ?_) | (with_reducible refine Bk1.same ?_) | (with_reducible refine Bk1.other ?_ (by omega) _))); (first | done | fail))
      · intro p hp
        simp only [List.mem_cons, List.not_mem_nil, or_false] at hp
        subst hp
        all_goals dsimp only
        all_goals refine St.out ?_
        all_goals ((repeat (first | (with_reducible assumption) | (with_reducible refine St.call ?_ (by with_reducible assumption)) | (with_reducible refine St.alloc ?_ _) | (with_reducible refine St.drew ?_) | (with_reducible refine St.store ?_ (by ((repeat (first | (with_reducible assumption) | (with_reducible refine Bk1.call ?_ (by with_reducible assumption)) | (with_reducible refine Bk1.new ?_ (new_bm _); first | rfl | (simp; done)) | (with_reducible refine Bk1.old ?_ _) | (with_reducible refine Bk1.drew ?_) | (with_reducible refine Bk1.same ?_) | (with_reducible refine Bk1.other ?_ (by omega) _))); (first | done | fail))) _))); (first | done | fail))
      · intro p hp
        simp only [List.mem_cons, List.not_mem_nil, or_false] at hp
        subst hp
        all_goals dsimp only
        all_goals refine Rt.out ?_
        all_goals ((repeat (first | (with_reducible assumption) | (with_reducible refine Rt.call ?_ (by with_reducible assumption)) | (with_reducible refine Rt.alloc ?_ _) | (with_reducible refine Rt.drew ?_) | (with_reducible refine Rt.store ?_ (by ((repeat (first | (with_reducible assumption) | (with_reducible refine Bk1.call ?_ (by with_reducible assumption)) | (with_reducible refine Bk1.new ?_ (new_bm _); first | rfl | (simp; done)) | (with_reducible refine Bk1.old ?_ _) | (with_reducible refine Bk1.drew ?_) | (with_reducible refine Bk1.same ?_) | (with_reducible refine Bk1.other ?_ (by omega) _))); (first | done | fail))) _))); (first | done | fail))
  case rest =>
    obtain ⟨X0, P0, p0, Q0, q0, rfl, rfl, H2⟩ := hcut
    clear HS K0 hk00 hk01 F1 G1 CM0 CR0
    have e0 := HRn0.out
    subst e0
    clear HRn0
    have hA : Bs 84 M0 := by
      have h := HBs0.out
      refine ⟨h.nrm, ?_, h.row⟩
      have h1 := setL_spec l0
      have e : M0 = setL l0 := nrm_ext h.nrm h1.1 (fun n => ((HM0.out n).symm.trans (h1.2 n).symm))
      rw [e, ← jf_all]
      have := jf_len (srI l0) (srI l0).length
      rw [srI_len] at this ⊢
      omega
    have ha1 := HA1.out
    have ha2 := HA2.out
    obtain ⟨k, hkk⟩ : ∃ k : Nat, a1 % 601 = (k : Int) := ⟨(a1 % 601).toNat, by omega⟩
    have hk6 : k ≤ 600 := by omega
    have htm : a1.tmod 601 = (k : Int) := by rw [Int.tmod_eq_emod_of_nonneg ha1.1, hkk]
    obtain ⟨N, cN, bN⟩ := ex_cmb fBut rfl (all_one (k : Int) (by omega)) hA
    have CN := Lib.hid (fun v W h => not_set (v := v) (hA.more (by omega)) (k : Int) (by omega) cN W h)
    have CR := Lib.hid (fun A c W h => ref_not A c l0 k (by omega) (by omega) W h)
    have hTi : Inc ((upL k).filter (fun x => !decide (x ∈ l0))) := (upL_inc k).filter _
    have hTl : ((upL k).filter (fun x => !decide (x ∈ l0))).length ≤ 80000 := Nat.le_trans (List.length_filter_le _ _) (by rw [upL_len]; omega)
    have hTm : ∀ n, n ∈ (upL k).filter (fun x => !decide (x ∈ l0)) ↔ In n N := fun n => by
      have h1 := HM0.out n
      have h2 := has_in n M0
      rw [List.mem_filter, upL_mem, cN.2 n]
      show _ ↔ (has n (allL k) && !has n M0) = true
      rw [Bool.and_eq_true, has_in, all_in]
      refine and_congr_right (fun _ => ?_)
      rw [Bool.not_eq_true', Bool.not_eq_true', decide_eq_false_iff_not, h1, ← h2, Bool.not_eq_true]
    have CI := Lib.hid (fun A c v W (hv : Sl W v (rn N)) (hR : Rs W W.heap.size A (nC ((upL k).filter (fun x => !decide (x ∈ l0))))) => is_true (v := v) (bN.more (by omega)) A c _ hTl hTi hTm W hv hR)
    obtain ⟨T, hT⟩ : ∃ T, T = (upL k).filter (fun x => !decide (x ∈ l0)) := ⟨_, rfl⟩
    rw [← hT] at CR CI
    have hk0 : (0 : Int) ≤ (k : Int) := by omega
    have hk7 : (k : Int) ≤ 600 := by omega
    have hwk : IntKind.i64.wrap (k : Int) = (k : Int) := by simp only [IntKind.wrap_i64]; omega
    clear hA cN bN hTi hTl hTm hT
    have CS := Lib.hid (fun v W (h : Sl W v (rn M0)) => shift_fit (v := v) HBs0.out ha2 HFit.out W h)
    have hWi : Inc (l0.map (fun x => x + a2)) := List.pairwise_map.2 (HI0.out.imp (fun {a b} h => by omega))
    have hWm : ∀ n, n ∈ l0.map (fun x => x + a2) ↔ In n (shL a2 M0) := fun n => by
      rw [shL_in, ← HM0.out (n - a2), List.mem_map]
      constructor
      · rintro ⟨x, hx, rfl⟩
        rw [show x + a2 - a2 = x by omega]; exact hx
      · intro h
        exact ⟨n - a2, h, by omega⟩
    have CIs := Lib.hid (fun A c v W (hv : Sl W v (rn (shL a2 M0))) (hR : Rs W W.heap.size A (nC (l0.map (fun x => x + a2)))) => is_true (v := v) (shL_bs HBs0.out HFit.out) A c _ (by rw [List.length_map]; omega) hWi hWm W hv hR)
    simp only [List.length_map] at CIs
    have HAll : Hid (∀ j (h : j < l0.length), 0 ≤ l0[j] + a2 ∧ l0[j] + a2 < 1048576) := Lib.hid (fun j h => HFit.out _ ((HM0.out _).1 (List.getElem_mem h)))
    have HRow := Lib.hid HRw0.out
    obtain ⟨S, hS⟩ : ∃ S, S = rn (shL a2 M0) := ⟨_, rfl⟩
    rw [← hS] at CS CIs
    clear hWi hWm hS
    have hln : l0.length ≤ 90 := by omega
    obtain ⟨i0, hi0, hz0, hz1, hz2⟩ := info_parts2 info_num
    have Hi0 := Lib.hid hi0
    have Hz0 := Lib.hid hz0
    have Hz1 := Lib.hid hz1
    have Hz2 := Lib.hid hz2
    clear hi0 hz0 hz1 hz2
    have hc0 := H2.out.cell (.head _) 0
    go_wp2_with fail
    refine (CN.out _ _ (H2.out.set _ (.head _))).mono ?_
    rintro e v1 ⟨⟨r, rfl, hr⟩, hb⟩
    have HH1 := Lib.hid ((H2.out.next hb).addV hr)
    obtain ⟨D1, d1, rfl, _, _, _, _⟩ := hr
    clear hb
    clear hc0
    have HA1 := Lib.hid (HH1.out.alloc (.cells #[.slice D1 (rn N).length d1] 26) (Deep.blk_alloc_new v1 _))
    have ha1_0 := HH1.out.cell (.head _) 0
    have hl1_0 := HH1.out.lt (.head _)
    go_wp2_with fail
    go_region_held3 (fun W => W.cell? ⟨v1.heap.size, 0, none⟩ = some (.slice D1 (rn N).length d1) ∧ W.cell? ⟨X0, 0, none⟩ = some (.slice P0 (rn M0).length p0))
      (first | exact ⟨HH3.out.cell (.head _) 0, HH3.out.cell (.tail _ (.head _)) 0⟩ | exact ⟨HH2.out.cell (.head _) 0, HH2.out.cell (.tail _ (.head _)) 0⟩ | exact ⟨HA1.out.drew.cell (.head _) 0, HA1.out.drew.cell (.tail _ (.head _)) 0⟩ | assumption)
      ((first
        | (go_at_call 16; have := HH2; refine (CI.out _ _ _ _ (HH2.out.set _ (.head _)) (HH2.out.row _ (.head _))).mono ?_; rintro e v3 ⟨rfl, hb⟩; have HH3 := Lib.hid (HH2.out.next hb); clear hb)
        | (go_at_call 42; refine (CR.out Q0 q0 _ (HA1.out.drew.row _ (.head _))).mono ?_; rintro e v2 ⟨⟨r, rfl, hown⟩, hb⟩; obtain ⟨D2, d2, rfl, _, hr, _⟩ := rs_ownn hown; have HH2 := Lib.hid ((HA1.out.drew.next hb).addN hr); clear hb hown hr)
        | fail))
    have hc0 := HH3.out.cell (.head _) 0
    have hc1 := HH3.out.cell (.tail _ (.head _)) 0
    go_wp2_with fail
    refine (CS.out _ _ (HH3.out.set _ (.tail _ (.head _)))).mono ?_
    rintro e v4 ⟨⟨r, rfl, hr⟩, hb⟩
    have HH4 := Lib.hid ((HH3.out.next hb).addV hr)
    obtain ⟨D4, d4, rfl, _, _, _, _⟩ := hr
    clear hb
    clear hc0 hc1
    have HA4 := Lib.hid (HH4.out.alloc (.cells #[.slice D4 S.length d4] 26) (Deep.blk_alloc_new v4 _))
    have ha4_0 := HH4.out.cell (.head _) 0
    have hl4_0 := HH4.out.lt (.head _)
    have ha4_1 := HH4.out.cell (.tail _ (.head _)) 0
    have hl4_1 := HH4.out.lt (.tail _ (.head _))
    go_wp2_with fail
    obtain ⟨ws, hws⟩ : ∃ ws, ws = v4.alloc (.cells #[.slice D4 S.length d4] 26) := ⟨_, rfl⟩
    rw [← hws] at HA4 ⊢
    clear hws
    go_loopw [13, 14, 15] (fun u fv iv wr => ∃ j : Nat, j ≤ l0.length ∧ iv = .int .i64 (j : Int) ∧ fv = .bool true ∧ Hid (wr.ownsRow ws.heap.size 3 1 u (l0.take j).length (nC ((l0.take j).map (fun x => x + a2)))) ∧ Hid (Below ws.heap.size ws wr)) (fun _ _ iv _ => l0.length - (intOf iv).toNat)
    case atStart => exact ⟨0, Nat.zero_le _, rfl, rfl, Lib.hid ⟨rfl, Or.inl ⟨rfl, rfl⟩⟩, Lib.hid (Below.refl _ _)⟩
    case round =>
      obtain ⟨j, hj, rfl, rfl, HO, HB⟩ := hrel
      by_cases hlt : j < l0.length
      · obtain ⟨g, off, rfl, hg, d0⟩ := num_at ((HA4.out.next HB.out).row _ (.tail _ (.head _))) j hlt
        have hrx := (isR_iff _).1 (HRw0.out _ (List.getElem_mem hlt))
        have HS1 : Hid (nC ((l0.take (j + 1)).map (fun x => x + a2)) = nC ((l0.take j).map (fun x => x + a2)) ++ [.int .i64 (l0[j] + a2)]) := Lib.hid (by rw [take_snoc l0 j hlt, List.map_append]; unfold nC; rw [List.map_append]; rfl)
        have HS2 : Hid ((l0.take (j + 1)).length = (l0.take j).length + 1) := Lib.hid (by rw [List.length_take, List.length_take]; omega)
        have hjt : (l0.take j).length ≤ 90 := by rw [List.length_take]; omega
        have hfx := HAll.out j hlt
        obtain ⟨x, hx⟩ : ∃ x, x = l0[j] := ⟨_, rfl⟩
        rw [← hx] at d0 hrx HS1 hfx
        clear hx
        obtain ⟨J, hJ⟩ : ∃ J, J = nC ((l0.take j).map (fun x => x + a2)) := ⟨_, rfl⟩
        rw [← hJ] at HS1 HO
        obtain ⟨m, hm⟩ : ∃ m, m = (l0.take j).length := ⟨_, rfl⟩
        rw [← hm] at HS2 HO hjt
        clear hJ hm
        have hjl : (j : Int) < (l0.length : Int) := by omega
        have hj0 : (0 : Int) ≤ (j : Int) := by omega
        have hw1 : IntKind.i64.wrap ((j : Int) + 1) = (j : Int) + 1 := by simp only [IntKind.wrap_i64]; omega
        have hw3 : IntKind.i64.wrap (-x) = -x := by simp only [IntKind.wrap_i64]; omega
        have hw4 : IntKind.i64.wrap (0 - x) = -x := by simp only [IntKind.wrap_i64]; omega
        have hw5 : IntKind.i64.wrap (1048576 - x) = 1048576 - x := by simp only [IntKind.wrap_i64]; omega

        have hw2 : IntKind.i64.wrap (x + a2) = x + a2 := by simp only [IntKind.wrap_i64]; omega
        have hd1 : ¬ a2 < -x := by omega
        have hd2 : a2 < 1048576 - x := by omega
        have HOa := Lib.hid (HO.out.alloc (.cells #[.int .i64 (x + a2)] 3))
        have HBa := Lib.hid (HB.out.alloc HB.out.size (.cells #[.int .i64 (x + a2)] 3))
        have HKa := Lib.hid (Deep.blk_alloc_new wr (.cells #[.int .i64 (x + a2)] 3))
        go_wp2_with (at_builtin; refine wpList_append_agg rfl (.tmp 70) (.tmp 77) 22 rfl ws.heap.size 3 i0 _ 1 8 Try.underlying22 Hi0.out Hz0.out Hz1.out Hz2.out rfl (by decide) _ m _ rfl HOa.out wr.heap.size 1 [.int .i64 (x + a2)] 3 rfl rfl HKa.out (by simp [Value.oneCell']) (by omega) (by omega) HBa.out.size ?_; intro v4x w4x hown4 hg4; have HO4 := Lib.hid hown4; have HB4 := Lib.hid (below_grownk (B := ws.heap.size) (a := ws) HBa.out HOa.out hg4 (Nat.le_refl _) (Nat.le_refl _)); clear hown4 hg4)
        go_roundw
        case rel => exact ⟨j + 1, by omega, by go_num, rfl, by rw [HS1.out, HS2.out]; exact HO4, HB4⟩
        case measure => simp [intOf] <;> omega
      · obtain rfl : j = l0.length := by omega
        rw [List.take_length] at HO
        obtain ⟨A7, c7, rfl, _, hr7, _⟩ := rs_ownn HO.out
        have hl7 : (l0.map (fun x => x + a2)).length = l0.length := List.length_map _
        have H7 := Lib.hid ((HA4.out.next HB.out).addN hr7)
        have hc7 := H7.out.cell (.head _) 0
        clear hr7
        go_wp2_with fail
        refine (CIs.out _ _ _ _ (H7.out.set _ (.head _)) (H7.out.row _ (.head _))).mono ?_
        rintro e w8 ⟨rfl, hb⟩
        have H8 := Lib.hid (H7.out.next hb)
        clear hb
        go_wp2_with fail
        go_ret
        exact ⟨rfl, H8.out.out⟩
set_option maxRecDepth 100000 in
set_option maxHeartbeats 16000000 in
theorem walk_out (w : World) (b0 : Int) (hb0 : 0 ≤ b0 ∧ b0 ≤ 65535) (A0 : Option Addr) (c0 : Nat) (L0 : List Iv) (hL0 : L0.length ≤ 9223372036854775807) (hs0 : ∀ x ∈ L0, PrOk x) (hR0 : Rs w w.heap.size A0 (prCells L0)) (a1 : Int) (wa1 : (Lit.int .u16 a1).wf = true) (a2 : Int) (wa2 : (Lit.int .i64 a2).wf = true) (hfit : ¬ Fits a2 (setL (rowS b0 L0))) :
    Calls Try.prog 10 #[.agg #[.int .u16 b0, .slice A0 L0.length c0], .int .u16 a1, .int .i64 a2] w fun e w' => e = .returned (.bool true) ∧ Below w.heap.size w w' := by
  have ha1 := bdu16 wa1
  have ha2 := bd64 wa2
  have HA1 := Lib.hid ha1
  have HA2 := Lib.hid ha2
  have HFit := Lib.hid hfit
  clear wa1 wa2 ha1 ha2 hfit
  obtain ⟨hi0, hrw0, hln0⟩ := rowS_spec b0 hs0
  have CM0 := Lib.hid (fun W (g : Gb w W) => made_any b0 hb0 A0 c0 L0 hL0 hs0 W ((hR0.below g.out).more g.out.size))
  have CR0 := Lib.hid (fun W (g : Gb w W) => rows_any b0 hb0 A0 c0 L0 hL0 hs0 W ((hR0.below g.out).more g.out.size))
  obtain ⟨l0, hl0⟩ : ∃ l, l = rowS b0 L0 := ⟨_, rfl⟩
  rw [← hl0] at hi0 hrw0 hln0 CM0 CR0 HFit
  have hB0 : Bs 80000 (setL l0) := set_bs (by omega) hrw0
  have hm0 : ∀ n, n ∈ l0 ↔ In n (setL l0) := fun n => ((setL_spec l0).2 n).symm
  obtain ⟨M0, hM0⟩ : ∃ M, M = setL l0 := ⟨_, rfl⟩
  rw [← hM0] at hB0 hm0 CM0 HFit
  obtain ⟨R0, hRn0⟩ : ∃ R, R = rn M0 := ⟨_, rfl⟩
  rw [← hRn0] at CM0
  have HRn0 := Lib.hid hRn0
  have HRw0 := Lib.hid hrw0
  have HI0 := Lib.hid hi0
  have HBs0 := Lib.hid hB0
  have HM0 := Lib.hid hm0
  clear hR0 hl0 hM0 hRn0 hs0 hL0 hrw0 hi0 hB0 hm0
  go_enter Try.func10, Try.ntmps10
  go_wp2_with fail
  refine (known_any _).mono ?_
  rintro e w1 ⟨rfl, hb⟩
  have F1 : Fr (w.alloc (.cells #[.int .u16 b0, .slice A0 L0.length c0] 36)) w1 := ⟨hb⟩
  have G1 : Gb w w1 := Gb.call (Gb.alloc (Gb.refl w) _) F1
  have K0 : Bk1 (w.heap.size) (.cells #[.int .u16 b0, .slice A0 L0.length c0] 36 (0, 0)) w1 := Bk1.call ((Bk1.new (W := w) (by rfl) (fun v => Deep.blk_alloc_new v _) : Bk1 (w.heap.size) (.cells #[.int .u16 b0, .slice A0 L0.length c0] 36 (0, 0)) _)) F1
  have hk00 : w1.cell? ⟨w.heap.size, 0, none⟩ = some (.int .u16 b0) := cell_of_row w1 _ 0 _ _ _ K0.out
  have hk01 : w1.cell? ⟨w.heap.size, 1, none⟩ = some (.slice A0 L0.length c0) := cell_of_row w1 _ 1 _ _ _ K0.out
  have hz1 := F1.size1
  simp at hz1
  clear hb
  have HS : Hid (∀ W, Gb w1 W → W.cell? ⟨w.heap.size, 0, none⟩ = some (.int .u16 b0) ∧ W.cell? ⟨w.heap.size, 1, none⟩ = some (.slice A0 L0.length c0)) := Lib.hid (fun W g => by
    have f0 : W.heap[w.heap.size]? = some (.cells #[.int .u16 b0, .slice A0 L0.length c0] 36 (0, 0)) := (g.out.block _ (Array.getElem?_eq_some_iff.1 K0.out).1).trans K0.out
    exact ⟨cell_of_row W _ 0 _ _ _ f0, cell_of_row W _ 1 _ _ _ f0⟩)
  go_upto_region 3 with fail
  go_cut [7, 8] (fun s7 s8 wx => ∃ (X0 : Nat) (P0 : Option Addr) (p0 : Nat) (Q0 : Option Addr) (q0 : Nat), s7 = .pointer (some ⟨X0, 0, none⟩) ∧ s8 = .slice Q0 l0.length q0 ∧ Hid (Hold w [(X0, Obj.cells #[.slice P0 R0.length p0] 26 (0, 0))] [(.slice P0 R0.length p0, R0)] [(Q0, nC l0)] wx))
  case first =>
    go_region_held3 (fun W => W.cell? ⟨w.heap.size, 0, none⟩ = some (.int .u16 b0) ∧ W.cell? ⟨w.heap.size, 1, none⟩ = some (.slice A0 L0.length c0))
      (exact HS.out _ (by ((repeat (first | (with_reducible assumption) | (with_reducible exact Gb.refl _) | (with_reducible refine Gb.call ?_ (by with_reducible assumption)) | (with_reducible refine Gb.alloc ?_ _) | (with_reducible refine Gb.drew ?_) | (with_reducible refine Gb.setCell ?_ (by omega) _))); (first | done | fail))))
      ((first
        | (go_at_call 24; have := E0; refine (CR0.out _ (by ((repeat (first | (with_reducible assumption) | (with_reducible exact Gb.refl _) | (with_reducible refine Gb.call ?_ (by with_reducible assumption)) | (with_reducible refine Gb.alloc ?_ _) | (with_reducible refine Gb.drew ?_) | (with_reducible refine Gb.setCell ?_ (by omega) _))); (first | done | fail)))).mono ?_; rintro e v1 ⟨⟨y0, rfl, hown⟩, hb1⟩; have E1 : Fr _ v1 := ⟨hb1⟩; obtain ⟨Q0, q0, rfl, _, hro, _⟩ := rs_ownn hown; have U0 : Rt Q0 l0 v1 := ⟨hro⟩; have z1 := E1.size1; (try simp at z1); clear hb1 hown hro; (try (have kk : Bk1 (w1.heap.size) (.cells #[.slice none 0 0] 26 (0, 0)) v1 := (by ((repeat (first | (with_reducible assumption) | (with_reducible refine Bk1.call ?_ (by with_reducible assumption)) | (with_reducible refine Bk1.new ?_ (new_bm _); first | rfl | (simp; done)) | (with_reducible refine Bk1.old ?_ _) | (with_reducible refine Bk1.drew ?_) | (with_reducible refine Bk1.same ?_) | (with_reducible refine Bk1.other ?_ (by omega) _))); (first | done | fail))); have cc : v1.cell? ⟨w1.heap.size, 0, none⟩ = some (.slice none 0 0) := cell_of_row _ _ 0 _ _ _ kk.out; have ff : v1.frozen? ⟨w1.heap.size, 0, none⟩ = false := frozen_of_row _ _ _ _ _ kk.out; have ll : w1.heap.size < v1.heap.size := (Array.getElem?_eq_some_iff.1 kk.out).1; clear kk)); (try (have kk : Bk1 (v0.heap.size) (.cells #[.slice none 0 0] 26 (0, 0)) v1 := (by ((repeat (first | (with_reducible assumption) | (with_reducible refine Bk1.call ?_ (by with_reducible assumption)) | (with_reducible refine Bk1.new ?_ (new_bm _); first | rfl | (simp; done)) | (with_reducible refine Bk1.old ?_ _) | (with_reducible refine Bk1.drew ?_) | (with_reducible refine Bk1.same ?_) | (with_reducible refine Bk1.other ?_ (by omega) _))); (first | done | fail))); have cc : v1.cell? ⟨v0.heap.size, 0, none⟩ = some (.slice none 0 0) := cell_of_row _ _ 0 _ _ _ kk.out; have ff : v1.frozen? ⟨v0.heap.size, 0, none⟩ = false := frozen_of_row _ _ _ _ _ kk.out; have ll : v0.heap.size < v1.heap.size := (Array.getElem?_eq_some_iff.1 kk.out).1; clear kk)))
        | (go_at_call 22; refine (CM0.out _ (by ((repeat (first | (with_reducible assumption) | (with_reducible exact Gb.refl _) | (with_reducible refine Gb.call ?_ (by with_reducible assumption)) | (with_reducible refine Gb.alloc ?_ _) | (with_reducible refine Gb.drew ?_) | (with_reducible refine Gb.setCell ?_ (by omega) _))); (first | done | fail)))).mono ?_; rintro e v0 ⟨⟨r0, rfl, hr0⟩, hb0⟩; have E0 : Fr _ v0 := ⟨hb0⟩; have T0 : St r0 R0 v0 := ⟨hr0⟩; have z0 := E0.size1; obtain ⟨P0, p0, rfl, _, _, _, _⟩ := hr0; (try simp at z0); clear hb0; (try (have kk : Bk1 (w1.heap.size) (.cells #[.slice none 0 0] 26 (0, 0)) v0 := (by ((repeat (first | (with_reducible assumption) | (with_reducible refine Bk1.call ?_ (by with_reducible assumption)) | (with_reducible refine Bk1.new ?_ (new_bm _); first | rfl | (simp; done)) | (with_reducible refine Bk1.old ?_ _) | (with_reducible refine Bk1.drew ?_) | (with_reducible refine Bk1.same ?_) | (with_reducible refine Bk1.other ?_ (by omega) _))); (first | done | fail))); have cc : v0.cell? ⟨w1.heap.size, 0, none⟩ = some (.slice none 0 0) := cell_of_row _ _ 0 _ _ _ kk.out; have ff : v0.frozen? ⟨w1.heap.size, 0, none⟩ = false := frozen_of_row _ _ _ _ _ kk.out; have ll : w1.heap.size < v0.heap.size := (Array.getElem?_eq_some_iff.1 kk.out).1; clear kk)))
        | fail))
    all_goals
      go_wp2_with fail
      go_meet
      refine ⟨_, P0, p0, Q0, q0, rfl, rfl, Lib.hid ⟨(by ((repeat (first | (with_reducible assumption) | (with_reducible exact Gb.refl _) | (with_reducible refine Gb.call ?_ (by with_reducible assumption)) | (with_reducible refine Gb.alloc ?_ _) | (with_reducible refine Gb.drew ?_) | (with_reducible refine Gb.setCell ?_ (by omega) _))); (first | done | fail)) : Gb w _).out, ?_, ?_, ?_⟩⟩
      · intro p hp
        simp only [List.mem_cons, List.not_mem_nil, or_false] at hp
        subst hp
        all_goals dsimp only
        all_goals refine Bk1.out ?_
        all_goals ((repeat (first | (with_reducible assumption) | (with_reducible refine Bk1.call ?_ (by with_reducible assumption)) | (with_reducible refine Bk1.new ?_ (new_bm _); first | rfl | (simp; done)) | (with_reducible refine Bk1.old ?_ _) | (with_reducible refine Bk1.drew ?_) | (with_reducible refine Bk1.same ?_) | (with_reducible refine Bk1.other ?_ (by omega) _))); (first | done | fail))
      · intro p hp
        simp only [List.mem_cons, List.not_mem_nil, or_false] at hp
        subst hp
        all_goals dsimp only
        all_goals refine St.out ?_
        all_goals ((repeat (first | (with_reducible assumption) | (with_reducible refine St.call ?_ (by with_reducible assumption)) | (with_reducible refine St.alloc ?_ _) | (with_reducible refine St.drew ?_) | (with_reducible refine St.store ?_ (by ((repeat (first | (with_reducible assumption) | (with_reducible refine Bk1.call ?_ (by with_reducible assumption)) | (with_reducible refine Bk1.new ?_ (new_bm _); first | rfl | (simp; done)) | (with_reducible refine Bk1.old ?_ _) | (with_reducible refine Bk1.drew ?_) | (with_reducible refine Bk1.same ?_) | (with_reducible refine Bk1.other ?_ (by omega) _))); (first | done | fail))) _))); (first | done | fail))
      · intro p hp
        simp only [List.mem_cons, List.not_mem_nil, or_false] at hp
        subst hp
        all_goals dsimp only
        all_goals refine Rt.out ?_
        all_goals ((repeat (first | (with_reducible assumption) | (with_reducible refine Rt.call ?_ (by with_reducible assumption)) | (with_reducible refine Rt.alloc ?_ _) | (with_reducible refine Rt.drew ?_) | (with_reducible refine Rt.store ?_ (by ((repeat (first | (with_reducible assumption) | (with_reducible refine Bk1.call ?_ (by with_reducible assumption)) | (with_reducible refine Bk1.new ?_ (new_bm _); first | rfl | (simp; done)) | (with_reducible refine Bk1.old ?_ _) | (with_reducible refine Bk1.drew ?_) | (with_reducible refine Bk1.same ?_) | (with_reducible refine Bk1.other ?_ (by omega) _))); (first | done | fail))) _))); (first | done | fail))
  case rest =>
    obtain ⟨X0, P0, p0, Q0, q0, rfl, rfl, H2⟩ := hcut
    clear HS K0 hk00 hk01 F1 G1 CM0 CR0
    have e0 := HRn0.out
    subst e0
    clear HRn0
    have hA : Bs 84 M0 := by
      have h := HBs0.out
      refine ⟨h.nrm, ?_, h.row⟩
      have h1 := setL_spec l0
      have e : M0 = setL l0 := nrm_ext h.nrm h1.1 (fun n => ((HM0.out n).symm.trans (h1.2 n).symm))
      rw [e, ← jf_all]
      have := jf_len (srI l0) (srI l0).length
      rw [srI_len] at this ⊢
      omega
    have ha1 := HA1.out
    have ha2 := HA2.out
    obtain ⟨k, hkk⟩ : ∃ k : Nat, a1 % 601 = (k : Int) := ⟨(a1 % 601).toNat, by omega⟩
    have hk6 : k ≤ 600 := by omega
    have htm : a1.tmod 601 = (k : Int) := by rw [Int.tmod_eq_emod_of_nonneg ha1.1, hkk]
    obtain ⟨N, cN, bN⟩ := ex_cmb fBut rfl (all_one (k : Int) (by omega)) hA
    have CN := Lib.hid (fun v W h => not_set (v := v) (hA.more (by omega)) (k : Int) (by omega) cN W h)
    have CR := Lib.hid (fun A c W h => ref_not A c l0 k (by omega) (by omega) W h)
    have hTi : Inc ((upL k).filter (fun x => !decide (x ∈ l0))) := (upL_inc k).filter _
    have hTl : ((upL k).filter (fun x => !decide (x ∈ l0))).length ≤ 80000 := Nat.le_trans (List.length_filter_le _ _) (by rw [upL_len]; omega)
    have hTm : ∀ n, n ∈ (upL k).filter (fun x => !decide (x ∈ l0)) ↔ In n N := fun n => by
      have h1 := HM0.out n
      have h2 := has_in n M0
      rw [List.mem_filter, upL_mem, cN.2 n]
      show _ ↔ (has n (allL k) && !has n M0) = true
      rw [Bool.and_eq_true, has_in, all_in]
      refine and_congr_right (fun _ => ?_)
      rw [Bool.not_eq_true', Bool.not_eq_true', decide_eq_false_iff_not, h1, ← h2, Bool.not_eq_true]
    have CI := Lib.hid (fun A c v W (hv : Sl W v (rn N)) (hR : Rs W W.heap.size A (nC ((upL k).filter (fun x => !decide (x ∈ l0))))) => is_true (v := v) (bN.more (by omega)) A c _ hTl hTi hTm W hv hR)
    obtain ⟨T, hT⟩ : ∃ T, T = (upL k).filter (fun x => !decide (x ∈ l0)) := ⟨_, rfl⟩
    rw [← hT] at CR CI
    have hk0 : (0 : Int) ≤ (k : Int) := by omega
    have hk7 : (k : Int) ≤ 600 := by omega
    have hwk : IntKind.i64.wrap (k : Int) = (k : Int) := by simp only [IntKind.wrap_i64]; omega
    clear hA cN bN hTi hTl hTm hT
    have CS := Lib.hid (fun v W (h : Sl W v (rn M0)) => shift_out (v := v) HBs0.out ha2 HFit.out W h)
    have CIs := Lib.hid (fun v W (hv : Sl W v []) => is_true (v := v) (N := []) (nil_bs _) none 0 [] (by decide) List.Pairwise.nil (fun n => ⟨(fun h => nomatch h), (fun h => absurd h In.nil)⟩) W hv Rs.nil)
    have HNo : Hid (¬ ∀ j (h : j < l0.length), 0 ≤ l0[j] + a2 ∧ l0[j] + a2 < 1048576) := Lib.hid (fun h => HFit.out (fun n hn => by
      obtain ⟨j, hj, e⟩ := List.getElem_of_mem ((HM0.out n).2 hn)
      rw [← e]; exact h j hj))
    have hln : l0.length ≤ 90 := by omega
    obtain ⟨i0, hi0, hz0, hz1, hz2⟩ := info_parts2 info_num
    have Hi0 := Lib.hid hi0
    have Hz0 := Lib.hid hz0
    have Hz1 := Lib.hid hz1
    have Hz2 := Lib.hid hz2
    clear hi0 hz0 hz1 hz2
    have hc0 := H2.out.cell (.head _) 0
    go_wp2_with fail
    refine (CN.out _ _ (H2.out.set _ (.head _))).mono ?_
    rintro e v1 ⟨⟨r, rfl, hr⟩, hb⟩
    have HH1 := Lib.hid ((H2.out.next hb).addV hr)
    obtain ⟨D1, d1, rfl, _, _, _, _⟩ := hr
    clear hb
    clear hc0
    have HA1 := Lib.hid (HH1.out.alloc (.cells #[.slice D1 (rn N).length d1] 26) (Deep.blk_alloc_new v1 _))
    have ha1_0 := HH1.out.cell (.head _) 0
    have hl1_0 := HH1.out.lt (.head _)
    go_wp2_with fail
    go_region_held3 (fun W => W.cell? ⟨v1.heap.size, 0, none⟩ = some (.slice D1 (rn N).length d1) ∧ W.cell? ⟨X0, 0, none⟩ = some (.slice P0 (rn M0).length p0))
      (first | exact ⟨HH3.out.cell (.head _) 0, HH3.out.cell (.tail _ (.head _)) 0⟩ | exact ⟨HH2.out.cell (.head _) 0, HH2.out.cell (.tail _ (.head _)) 0⟩ | exact ⟨HA1.out.drew.cell (.head _) 0, HA1.out.drew.cell (.tail _ (.head _)) 0⟩ | assumption)
      ((first
        | (go_at_call 16; have := HH2; refine (CI.out _ _ _ _ (HH2.out.set _ (.head _)) (HH2.out.row _ (.head _))).mono ?_; rintro e v3 ⟨rfl, hb⟩; have HH3 := Lib.hid (HH2.out.next hb); clear hb)
        | (go_at_call 42; refine (CR.out Q0 q0 _ (HA1.out.drew.row _ (.head _))).mono ?_; rintro e v2 ⟨⟨r, rfl, hown⟩, hb⟩; obtain ⟨D2, d2, rfl, _, hr, _⟩ := rs_ownn hown; have HH2 := Lib.hid ((HA1.out.drew.next hb).addN hr); clear hb hown hr)
        | fail))
    have hc0 := HH3.out.cell (.head _) 0
    have hc1 := HH3.out.cell (.tail _ (.head _)) 0
    go_wp2_with fail
    refine (CS.out _ _ (HH3.out.set _ (.tail _ (.head _)))).mono ?_
    rintro e v4 ⟨⟨r, rfl, hr⟩, hb⟩
    have HH4 := Lib.hid ((HH3.out.next hb).addV hr)
    obtain ⟨D4, d4, rfl, _, _, _, _⟩ := hr
    clear hb
    clear hc0 hc1
    have HA4 := Lib.hid (HH4.out.alloc (.cells #[.slice D4 0 d4] 26) (Deep.blk_alloc_new v4 _))
    have ha4_0 := HH4.out.cell (.head _) 0
    have hl4_0 := HH4.out.lt (.head _)
    have ha4_1 := HH4.out.cell (.tail _ (.head _)) 0
    have hl4_1 := HH4.out.lt (.tail _ (.head _))
    go_wp2_with fail
    obtain ⟨ws, hws⟩ : ∃ ws, ws = v4.alloc (.cells #[.slice D4 0 d4] 26) := ⟨_, rfl⟩
    rw [← hws] at HA4 ⊢
    clear hws
    go_loopw [13, 14, 15] (fun u fv iv wr => ∃ j : Nat, j ≤ l0.length ∧ iv = .int .i64 (j : Int) ∧ fv = .bool true ∧ Hid (∀ q (h : q < l0.length), q < j → 0 ≤ l0[q] + a2 ∧ l0[q] + a2 < 1048576) ∧ Hid (wr.ownsRow ws.heap.size 3 1 u (l0.take j).length (nC ((l0.take j).map (fun x => x + a2)))) ∧ Hid (Below ws.heap.size ws wr)) (fun _ _ iv _ => l0.length - (intOf iv).toNat)
    case atStart => exact ⟨0, Nat.zero_le _, rfl, rfl, Lib.hid (fun q _ h => absurd h (by omega)), Lib.hid ⟨rfl, Or.inl ⟨rfl, rfl⟩⟩, Lib.hid (Below.refl _ _)⟩
    case round =>
      obtain ⟨j, hj, rfl, rfl, HQ, HO, HB⟩ := hrel
      by_cases hlt : j < l0.length
      · obtain ⟨g, off, rfl, hg, d0⟩ := num_at ((HA4.out.next HB.out).row _ (.tail _ (.head _))) j hlt
        have hrx := (isR_iff _).1 (HRw0.out _ (List.getElem_mem hlt))
        have HS1 : Hid (nC ((l0.take (j + 1)).map (fun x => x + a2)) = nC ((l0.take j).map (fun x => x + a2)) ++ [.int .i64 (l0[j] + a2)]) := Lib.hid (by rw [take_snoc l0 j hlt, List.map_append]; unfold nC; rw [List.map_append]; rfl)
        have HS2 : Hid ((l0.take (j + 1)).length = (l0.take j).length + 1) := Lib.hid (by rw [List.length_take, List.length_take]; omega)
        have hjt : (l0.take j).length ≤ 90 := by rw [List.length_take]; omega
        have HX := Lib.hid (rfl : l0[j] = l0[j])
        obtain ⟨x, hx⟩ : ∃ x, x = l0[j] := ⟨_, rfl⟩
        rw [← hx] at d0 hrx HS1 HX
        have Hx := Lib.hid hx; clear hx
        obtain ⟨J, hJ⟩ : ∃ J, J = nC ((l0.take j).map (fun x => x + a2)) := ⟨_, rfl⟩
        rw [← hJ] at HS1 HO
        obtain ⟨m, hm⟩ : ∃ m, m = (l0.take j).length := ⟨_, rfl⟩
        rw [← hm] at HS2 HO hjt
        clear hJ hm
        have hjl : (j : Int) < (l0.length : Int) := by omega
        have hj0 : (0 : Int) ≤ (j : Int) := by omega
        have hw1 : IntKind.i64.wrap ((j : Int) + 1) = (j : Int) + 1 := by simp only [IntKind.wrap_i64]; omega
        have hw3 : IntKind.i64.wrap (-x) = -x := by simp only [IntKind.wrap_i64]; omega
        have hw4 : IntKind.i64.wrap (0 - x) = -x := by simp only [IntKind.wrap_i64]; omega
        have hw5 : IntKind.i64.wrap (1048576 - x) = 1048576 - x := by simp only [IntKind.wrap_i64]; omega

        by_cases hfx : 0 ≤ x + a2 ∧ x + a2 < 1048576
        · have hfx1 := hfx.1
          have hfx2 := hfx.2
          have hw2 : IntKind.i64.wrap (x + a2) = x + a2 := by simp only [IntKind.wrap_i64]; omega
          have hd1 : ¬ a2 < -x := by omega
          have hd2 : a2 < 1048576 - x := by omega
          have HOa := Lib.hid (HO.out.alloc (.cells #[.int .i64 (x + a2)] 3))
          have HBa := Lib.hid (HB.out.alloc HB.out.size (.cells #[.int .i64 (x + a2)] 3))
          have HKa := Lib.hid (Deep.blk_alloc_new wr (.cells #[.int .i64 (x + a2)] 3))
          go_wp2_with (at_builtin; refine wpList_append_agg rfl (.tmp 70) (.tmp 77) 22 rfl ws.heap.size 3 i0 _ 1 8 Try.underlying22 Hi0.out Hz0.out Hz1.out Hz2.out rfl (by decide) _ m _ rfl HOa.out wr.heap.size 1 [.int .i64 (x + a2)] 3 rfl rfl HKa.out (by simp [Value.oneCell']) (by omega) (by omega) HBa.out.size ?_; intro v4x w4x hown4 hg4; have HO4 := Lib.hid hown4; have HB4 := Lib.hid (below_grownk (B := ws.heap.size) (a := ws) HBa.out HOa.out hg4 (Nat.le_refl _) (Nat.le_refl _)); clear hown4 hg4)
          go_roundw
          case rel => exact ⟨j + 1, by omega, by go_num, rfl, Lib.hid (fun q h hq => by by_cases e : q = j; subst e; rw [← Hx.out]; exact hfx; exact HQ.out q h (by omega)), by rw [HS1.out, HS2.out]; exact HO4, HB4⟩
          case measure => simp [intOf] <;> omega
        · by_cases hd1 : a2 < -x
          · have H7 := Lib.hid (HA4.out.next HB.out)
            have hc7 := H7.out.cell (.head _) 0
            go_wp2_with fail
            refine (CIs.out _ _ (H7.out.set _ (.head _))).mono ?_
            rintro e w8 ⟨rfl, hb⟩
            have H8 := Lib.hid (H7.out.next hb)
            clear hb
            go_wp2_with fail
            go_ret
            exact ⟨rfl, H8.out.out⟩
          · have hd2 : 1048576 - x ≤ a2 := by omega
            have H7 := Lib.hid (HA4.out.next HB.out)
            have hc7 := H7.out.cell (.head _) 0
            go_wp2_with fail
            refine (CIs.out _ _ (H7.out.set _ (.head _))).mono ?_
            rintro e w8 ⟨rfl, hb⟩
            have H8 := Lib.hid (H7.out.next hb)
            clear hb
            go_wp2_with fail
            go_ret
            exact ⟨rfl, H8.out.out⟩
      · exfalso
        exact HNo.out (fun q h => HQ.out q h (by omega))
theorem walk (w : World) (b0 : Int) (hb0 : 0 ≤ b0 ∧ b0 ≤ 65535) (A0 : Option Addr) (c0 : Nat) (L0 : List Iv) (hL0 : L0.length ≤ 9223372036854775807) (hs0 : ∀ x ∈ L0, PrOk x) (hR0 : Rs w w.heap.size A0 (prCells L0)) (a1 : Int) (wa1 : (Lit.int .u16 a1).wf = true) (a2 : Int) (wa2 : (Lit.int .i64 a2).wf = true) :
    Calls Try.prog 10 #[.agg #[.int .u16 b0, .slice A0 L0.length c0], .int .u16 a1, .int .i64 a2] w fun e w' => e = .returned (.bool true) ∧ Below w.heap.size w w' := by
  by_cases hf : Fits a2 (setL (rowS b0 L0))
  · exact walk_fit w b0 hb0 A0 c0 L0 hL0 hs0 hR0 a1 wa1 a2 wa2 hf
  · exact walk_out w b0 hb0 A0 c0 L0 hL0 hs0 hR0 a1 wa1 a2 wa2 hf
set_option maxRecDepth 100000 in
theorem lifted (os : Os) (started : os.Started) (H : Type) (enc : TypeId × Value → H) :
    ReturnsInHanded {} Try.checked os 10 .any (Rows.bitmapNotsSpec.pre6 enc Try.prog Try.f10 Rows.bitmapNotsRow.domain false) (Rows.bitmapNotsSpec.post enc Try.prog Try.f10 false true false false) := by
  refine returnsInHanded_of_change (C := Try.checked) own started (by kernel_rfl) Try.func10
    (ChangeSpec.witness6 (enc := enc) (C := Try.checked) false ⟨#[], #[.agg #[.int .u16 0, .slice none 0 0], .int .u16 0, .int .i64 0], []⟩ 8 (by kernel_rfl) (by kernel_rfl) (by kernel_rfl) (by kernel_rfl)) ?_
  intro W base args ds gs before hval0 hW _ _
  have hval : ∀ (j : Nat) t v, Try.f10.params[j]? = some t → args[j]? = some v → Value.okWide Try.prog W .any base t v := hval0
  have hW' := hW
  obtain ⟨p, q, hA0, hV, rfl, _, _⟩ := hW
  have hA : DataW.TrodAll enc Try.prog W 0 (fun _ => true) true Try.f10.params.toList args.toList ds p := hA0
  rw [Try.params10] at hA hval
  obtain ⟨v0, vs0, d0, ds0, p0, q0, hargs0, rfl, rfl, h0, r0⟩ := trodAll_cons hA
  obtain ⟨v1, vs1, d1, ds1, p1, q1, hargs1, rfl, rfl, h1, r1⟩ := trodAll_cons r0
  obtain ⟨v2, vs2, d2, ds2, p2, q2, hargs2, rfl, rfl, h2, r2⟩ := trodAll_cons r1
  obtain ⟨rfl, rfl, rfl⟩ := trodAll_nil r2
  obtain rfl : args = #[v0, v1, v2] := by cases args; simp_all
  obtain ⟨rfl, rfl⟩ := trodVars_none hV
  have lt0 : ∀ x ∈ p0, x.block < W.heap.size := fun x hx => hW'.lt x (by simp [hx])
  obtain ⟨b0, A0, c0, L0, rfl, hb0, hL0, hs0, hR0⟩ := open_set (hval 0 36 v0 rfl rfl) h0 lt0
  obtain ⟨a1, rfl, rfl, rfl, wa1⟩ := open_int Try.underlying33 (hval 1 33 v1 rfl rfl) h1
  obtain ⟨a2, rfl, rfl, rfl, wa2⟩ := open_int Try.underlying3 (hval 2 3 v2 rfl rfl) h2
  clear hA0 hval0
  simp only [List.append_nil] at hW'
  refine (walk W b0 hb0 A0 c0 L0 hL0 hs0 hR0 a1 wa1 a2 wa2).mono fun e W' ⟨he, hb⟩ => ?_
  subst he
  exact ⟨_, rfl, post_mem hW' hb (fun _ _ _ => trodAll_mk1 (shut_bool Try.underlying4 _)) (fun sp hsp => by
    have t := trodAll_cons_mk (carry laidOut (by kernel_rfl) (of_decide_eq_true (by kernel_rfl)) h0 hb lt0 sp (fun x hx => hsp x (by simp [hx]))) (trodAll_cons_mk (shut_int Try.underlying33 wa1) (trodAll_cons_mk (shut_int Try.underlying3 wa2) trodAll_mk0))
    simp only [List.append_nil] at t
    exact t) (fun _ => rfl) (ok_one (by kernel_rfl) rfl (okWide_bool_mk Try.underlying4 _))⟩

theorem proved : Rows.BitmapNotsSaid :=
  OpenClaim.holds_of_wide 10 Try.f10 rfl rfl rfl rfl rfl rfl rfl ⟨rfl, rfl, rfl, rfl, rfl⟩ rfl rfl rfl rfl rfl (by kernel_rfl) Try.func10 (by kernel_rfl)
    (of_decide_eq_true (by kernel_rfl)) (by unfold Func.isWrapper; first | (rw [if_pos (by decide +kernel)]; kernel_rfl) | (rw [if_neg (by decide +kernel)]; exact ⟨rfl, rfl⟩))
    (fun os started H enc _ => lifted os started H enc)

end Go.Proofs.Ytacgomhegjilgaa.lawNots
