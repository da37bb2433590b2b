/- The law's form. -/
import Derived.Test.YtajainkaomkbjaaEe
namespace Go.Proofs.Ytajainkaomkbjaa
open Go.ChangeShapes Go.WideShapes Go.ChangeAt Go.RowKit Go.Joins Bt

/-- Keys behind a call of the Writer. -/
theorem kr_ws {b c : World} {g : Nat} {fs : List (List UInt8)} {A : Option Addr} {L : List Ky} (h : KR b A L) (hw : E.WS b g fs) (k : b.grownBy c ((some (⟨g, 0, none⟩ : Addr)).map Addr.block)) : KR c A L := by
  obtain ⟨_, hg, _⟩ := hw
  exact h.grown k hg (by decide)
theorem blk_other {b c : World} {g i : Nat} {o : Obj} (k : b.grownBy c ((some (⟨g, 0, none⟩ : Addr)).map Addr.block)) (h : b.heap[i]? = some o) (hne : i ≠ g) : c.heap[i]? = some o :=
  (k.block i (Array.getElem?_eq_some_iff.1 h).1 (fun e => by injection e with e; exact hne e)).trans h
set_option maxRecDepth 100000 in
set_option maxHeartbeats 2000000 in
theorem form_any (n : Nat) (sd : Int) (hn : n ≤ 1024) (hsd : 0 ≤ sd ∧ sd ≤ 4611686018427387904) (S : List Ky) (hS : S.length ≤ 300000) (hz : Sz S) (u : Value) (w : World) (h : StV w n sd S u) :
    Calls Try.prog 35 #[u] w fun e w' => e = .returned (.string (frE n sd (skt n S))) ∧ Below w.heap.size w w' := by
  have HU := Lib.hid h
  have HKp := Lib.hid (fun W h => kept_any n sd S (by omega) u W h)
  have HEx := Lib.hid (fun W h => rexact_any n sd S (by omega) u W h)
  obtain ⟨v, rfl, hv⟩ := h
  obtain ⟨A0, c0, rfl, _, _, _⟩ := hv
  obtain ⟨S0, hS0⟩ : ∃ q, q = S.length := ⟨_, rfl⟩
  rw [← hS0] at HU HKp HEx ⊢
  have hL : (S.take n).length ≤ 1024 := by rw [List.length_take]; omega
  have hzL := hz.take n
  have HFr : Hid (frE n sd (skt n S) = ⟨(E.whole (prE n sd (decide (n < S0)) (S.take n) (S.take n).length)).toArray⟩) := Lib.hid (by rw [hS0]; rfl)
  rw [HFr.out]
  obtain ⟨m, hm⟩ : ∃ m, m = decide (n < S0) := ⟨_, rfl⟩
  rw [← hm] at HEx ⊢
  obtain ⟨L, hLL⟩ : ∃ L, L = S.take n := ⟨_, rfl⟩
  rw [← hLL] at HKp hL hzL ⊢
  have hnI : (0 : Int) ≤ (n : Int) ∧ (n : Int) ≤ 4611686018427387904 := by omega
  have HZ := Lib.hid hzL
  have HT := Lib.hid (fun j => prE_total hnI hsd m hL hzL j)
  have HP := Lib.hid (prE_pos hnI hsd m hL hzL L.length)
  obtain ⟨ln, hln⟩ : ∃ ln, ln = L.length := ⟨_, rfl⟩
  have HLn := Lib.hid hln
  rw [← hln] at HP hL ⊢
  have HB1 : Hid (Below w.heap.size w ((w.alloc (.cells #[.int .i64 (n : Int), .int .i64 sd, .slice A0 S0 c0] 28)).alloc (.cells #[.pointer none, .int .i64 0] 72))) := Lib.hid (((Below.refl _ _).alloc (Nat.le_refl _) _).alloc (by simp) _)
  have HG := Lib.hid (blk_under w (.cells #[.int .i64 (n : Int), .int .i64 sd, .slice A0 S0 c0] 28) (.cells #[.pointer none, .int .i64 0] 72))
  have HW1 : Hid (E.WQ ((w.alloc (.cells #[.int .i64 (n : Int), .int .i64 sd, .slice A0 S0 c0] 28)).alloc (.cells #[.pointer none, .int .i64 0] 72)) (some ⟨w.heap.size + 1, 0, none⟩) []) := Lib.hid (.inr ⟨_, rfl, .pointer none, blk_over w _ _, rfl⟩)
  have hbn : n ≤ 1024 := hn
  have ht5 : E.total [] = 0 := rfl
  have hb1 := E.num_bounds (n : Int) (by omega) (by omega)
  have hb2 := E.num_bounds sd (by omega) (by omega)
  have hb3 : (E.boolF (!m)).length ≤ 9 := by cases m <;> decide
  have HW0 := Lib.hid (fun W => E.w_numberq (some ⟨w.heap.size + 1, 0, none⟩) [] (n : Int) ⟨by omega, by omega⟩ (by decide) W)
  have HW01 := Lib.hid (fun W => E.w_numberq (some ⟨w.heap.size + 1, 0, none⟩) [E.En.num (n : Int)] sd ⟨by omega, by omega⟩ (by simp only [E.total_cons]; omega) W)
  have HW02 := Lib.hid (fun W => E.w_bool (some ⟨w.heap.size + 1, 0, none⟩) [E.En.num sd, E.En.num (n : Int)] (!m) (by simp only [E.total_cons]; omega) W)
  have HW03 := Lib.hid (fun W => E.w_numberq (some ⟨w.heap.size + 1, 0, none⟩) [E.boolF (!m), E.En.num sd, E.En.num (n : Int)] (ln : Int) ⟨by omega, by omega⟩ (by simp only [E.total_cons]; omega) W)
  obtain ⟨w0, hw0⟩ : ∃ w0, w0 = ((w.alloc (.cells #[.int .i64 (n : Int), .int .i64 sd, .slice A0 S0 c0] 28)).alloc (.cells #[.pointer none, .int .i64 0] 72)) := ⟨_, rfl⟩
  have hl0 : w.heap.size < w0.heap.size := by rw [hw0]; exact (Array.getElem?_eq_some_iff.1 HG.out).1
  have HE0 := Lib.hid hw0
  rw [← hw0] at HB1 HG HW1
  have HC : Hid (∀ W, Below w.heap.size w W → W.heap[w.heap.size]? = some (.cells #[.int .i64 (n : Int), .int .i64 sd, .slice A0 S0 c0] 28 (0, 0)) → W.cell? ⟨w.heap.size, 0, none⟩ = some (.int .i64 (n : Int)) ∧ W.cell? ⟨w.heap.size, 1, none⟩ = some (.int .i64 sd) ∧ W.cell? ⟨w.heap.size, 2, none⟩ = some (.slice A0 S0 c0)) := Lib.hid (fun W hb h => ⟨cell_of_row W _ 0 _ _ _ h, cell_of_row W _ 1 _ _ _ h, cell_of_row W _ 2 _ _ _ h⟩)
  obtain ⟨r0, r1, r2⟩ := HC.out _ HB1.out HG.out
  clear hz hn hsd hln ht5 hb1 hb2 hb3 hnI hLL hm hS0 hzL hbn
  go_enter Try.func35, Try.ntmps35
  rw [hw0] at r0 r1 r2
  clear hw0
  go_wp2_with fail
  rw [← HE0.out] at r0 r1 r2 ⊢
  with_reducible refine (HKp.out _ (HU.out.below HB1.out)).mono ?_
  rintro e w1 ⟨⟨v1, rfl, hv1⟩, hb⟩
  obtain ⟨A, c, rfl, hlc, hnl, hR⟩ := hv1
  have HR := Lib.hid hR
  have HB2 := Lib.hid (HB1.out.trans (hb.mono HB1.out.size))
  have HG2 := Lib.hid ((hb.block _ hl0).trans HG.out)
  have HW2 := Lib.hid (HW1.out.below hb)
  rw [← HLn.out] at hlc ⊢
  clear r0 r1 r2 hb hnl hR
  obtain ⟨r0, r1, r2⟩ := HC.out _ HB2.out HG2.out
  go_wp2_with fail
  with_reducible refine (HW0.out _ HW2.out).mono ?_
  rintro e w3 ⟨rfl, hws, hgr⟩
  have HB3 := Lib.hid (bq_own HB2.out hgr (Nat.le_succ _) (Nat.le_refl _))
  have HG3 := Lib.hid (blk_other hgr HG2.out (by omega))
  have HR3 := Lib.hid (kr_ws HR.out (ws_gq HW2.out) hgr)
  have HW3 := Lib.hid hws
  clear r0 r1 r2 hws hgr
  obtain ⟨r0, r1, r2⟩ := HC.out _ HB3.out HG3.out
  go_wp2_with fail
  with_reducible refine (HW01.out _ HW3.out).mono ?_
  rintro e w4 ⟨rfl, hws, hgr⟩
  have HB4 := Lib.hid (bq_own HB3.out hgr (Nat.le_succ _) (Nat.le_refl _))
  have HG4 := Lib.hid (blk_other hgr HG3.out (by omega))
  have HR4 := Lib.hid (kr_ws HR3.out (ws_gq HW3.out) hgr)
  have HW4 := Lib.hid hws
  clear r0 r1 r2 hws hgr
  obtain ⟨r0, r1, r2⟩ := HC.out _ HB4.out HG4.out
  go_wp2_with fail
  with_reducible refine (HEx.out _ (HU.out.below HB4.out)).mono ?_
  rintro e w5 ⟨rfl, hb⟩
  have HB5 := Lib.hid (HB4.out.trans (hb.mono HB4.out.size))
  have HG5 := Lib.hid ((hb.block _ (Array.getElem?_eq_some_iff.1 HG4.out).1).trans HG4.out)
  have HR5 := Lib.hid (HR4.out.below hb)
  have HW5 := Lib.hid (HW4.out.below hb)
  clear r0 r1 r2 hb
  go_wp2_with fail
  with_reducible refine (HW02.out _ HW5.out).mono ?_
  rintro e w6 ⟨rfl, hws, hgr⟩
  have HB6 := Lib.hid (bq_own HB5.out hgr (Nat.le_succ _) (Nat.le_refl _))
  have HG6 := Lib.hid (blk_other hgr HG5.out (by omega))
  have HR6 := Lib.hid (kr_ws HR5.out (ws_gq HW5.out) hgr)
  have HW6 := Lib.hid hws
  clear hws hgr
  go_wp2_with fail
  with_reducible refine (HW03.out _ HW6.out).mono ?_
  rintro e w7 ⟨rfl, hws, hgr⟩
  have HB7 := Lib.hid (bq_own HB6.out hgr (Nat.le_succ _) (Nat.le_refl _))
  have HG7 := Lib.hid (blk_other hgr HG6.out (by omega))
  have HR7 := Lib.hid (kr_ws HR6.out (ws_gq HW6.out) hgr)
  have HW7 := Lib.hid hws
  clear hws hgr
  have HW70 : Hid (E.WQ w7 (some ⟨w.heap.size + 1, 0, none⟩) (prE n sd m L 0)) := Lib.hid (by show E.WQ _ _ [_, _, _, _]; rw [← HLn.out]; exact HW7.out)
  go_wp2_with fail
  go_loopw [5] (fun iv wr => ∃ j : Nat, j ≤ ln ∧ iv = .int .i64 (j : Int) ∧ Hid (E.WQ wr (some ⟨w.heap.size + 1, 0, none⟩) (prE n sd m L j)) ∧ Hid (Below w.heap.size w wr) ∧ Hid (KR wr A L)) (fun iv _ => ln - (intOf iv).toNat)
  case atStart => exact ⟨0, Nat.zero_le _, rfl, HW70, HB7, HR7⟩
  case round =>
    obtain ⟨j, hj, rfl, HW, HB, HRr⟩ := hrel
    by_cases hlt : j < ln
    · have hj2 : j < L.length := by rw [← HLn.out]; exact hlt
      obtain ⟨b, off, rfl, hbl, h0', h1'⟩ := HRr.out.at j hj2
      have HS : Hid (prE n sd m L (j + 1) = E.text L[j].2 :: prE n sd m L j) := Lib.hid (by
        show E.text (L.getD j (0, ByteArray.empty)).2 :: prE n sd m L j = _
        rw [show L.getD j (0, ByteArray.empty) = L[j] by simp [List.getD, List.getElem?_eq_getElem hj2]])
      have HZj := Lib.hid (HZ.out _ (List.getElem_mem hj2))
      obtain ⟨⟨kh, kt⟩, hx⟩ : ∃ k, k = L[j] := ⟨_, rfl⟩
      rw [← hx] at h0' h1' HS HZj
      dsimp only at h0' h1' HS HZj
      have hjI : (j : Int) < (ln : Int) := by omega
      have hj0 : (0 : Int) ≤ (j : Int) := by omega
      have hw1 : IntKind.i64.wrap ((j : Int) + 1) = (j : Int) + 1 := by simp only [IntKind.wrap_i64]; omega
      have HTj := Lib.hid (HT.out j)
      have HCt := Lib.hid (fun W h => E.w_text (some ⟨w.heap.size + 1, 0, none⟩) (prE n sd m L j) kt (by have := HZj.out; omega) (by have := HTj.out; omega) W h)
      clear hx hj2 h0'
      go_wp2_with fail
      with_reducible refine (HCt.out _ HW.out).mono ?_
      rintro e w8 ⟨rfl, hws, hgr⟩
      have HB8 := Lib.hid (bq_own HB.out hgr (Nat.le_succ _) (Nat.le_refl _))
      have HR8 := Lib.hid (kr_ws HRr.out (ws_gq HW.out) hgr)
      have HW8 : Hid (E.WQ w8 (some ⟨w.heap.size + 1, 0, none⟩) (prE n sd m L (j + 1))) := Lib.hid (by rw [HS.out]; exact hws)
      clear hws hgr h1'
      go_wp2_with fail
      go_roundw
      case rel => exact ⟨j + 1, by omega, by go_num, HW8, HB8, HR8⟩
      case measure => simp [intOf] <;> omega
    · obtain rfl : j = ln := by omega
      have HTj := Lib.hid (HT.out j)
      have HCb := Lib.hid (fun W h => E.w_bytes (w.heap.size + 1) (prE n sd m L j) HP.out (by have := HTj.out; omega) W h)
      go_wp2_with fail
      with_reducible refine (HCb.out _ (ws_gq HW.out)).mono ?_
      rintro e w8 ⟨rfl, hb⟩
      have HB8 := Lib.hid (HB.out.trans (hb.mono HB.out.size))
      clear hb
      go_wp2_with fail
      go_ret
      exact ⟨rfl, HB8.out⟩
end Go.Proofs.Ytajainkaomkbjaa
