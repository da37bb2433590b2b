/- The reference: of. -/
import Derived.Test.YtajainkaomkbjaaBn
namespace Go.Proofs.Ytajainkaomkbjaa
open Go.ChangeShapes Go.WideShapes Go.ChangeAt Go.RowKit Go.Joins Bt

theorem SlV.grown {w w' : World} {v : Value} {L : List Ky} {g : Nat} {cs : Array Value} {T : TypeId} {fz : Nat × Nat} (h : SlV w v L) (k : Gs g w w') (hb : w.heap[g]? = some (.cells cs T fz)) (hT : T ≠ 50) : SlV w' v L := by
  obtain ⟨A, c, e, h1, h2, h3⟩ := h
  exact ⟨A, c, e, h1, h2, h3.grown k hb hT⟩
theorem bldk_len (sd : Int) (K : List ByteArray) : (bld (kys sd K)).length ≤ K.length := by
  have := bld_len (kys sd K)
  unfold kys at this ⊢
  simpa using this
set_option maxRecDepth 100000 in
set_option maxHeartbeats 4000000 in
theorem rof_any (n sd : Int) (A : Option Addr) (c : Nat) (K : List ByteArray) (hl : K.length ≤ 100000) (hs : ∀ t ∈ K, t.size ≤ 1000000) (w : World) (hR : Rd Value.string w A K) :
    Calls Try.prog 18 #[.int .i64 n, .int .i64 sd, .slice A K.length c] w fun e w' => (∃ u, e = .returned u ∧ StV w' n sd (bld (kys sd K)) u) ∧ Below w.heap.size w w' := by
  have HR := Lib.hid hR
  have HS := Lib.hid hs
  have HF : Hid (K.take K.length = K) := Lib.hid (List.take_length)
  obtain ⟨ln, hln⟩ : ∃ ln, K.length = ln := ⟨_, rfl⟩
  have HLn := Lib.hid hln
  rw [hln] at hl HF ⊢
  have HBl := Lib.hid (fun k => bldk_len sd (K.take k))
  have HB0 : Hid (Below w.heap.size w ((w.alloc (.cells #[.int .i64 0, .int .i64 0, .slice none 0 0] 28)).alloc (.cells #[.int .i64 n, .int .i64 sd, .slice none 0 0] 28))) := Lib.hid (((Below.refl _ _).alloc (Nat.le_refl _) _).alloc (by simp) _)
  have HG0 := Lib.hid (blk_under w (.cells #[.int .i64 0, .int .i64 0, .slice none 0 0] 28) (.cells #[.int .i64 n, .int .i64 sd, .slice none 0 0] 28))
  have HG1 := Lib.hid (blk_over w (.cells #[.int .i64 0, .int .i64 0, .slice none 0 0] 28) (.cells #[.int .i64 n, .int .i64 sd, .slice none 0 0] 28))
  clear hR hs hln
  go_enter Try.func18, Try.ntmps18
  go_wp2_with fail
  go_loopw [8] (fun iv wr => ∃ (k : Nat) (B : Option Addr) (l d : Nat), k ≤ ln ∧ iv = .int .i64 (k : Int) ∧ Hid (SlV wr (.slice B l d) (bld (kys sd (K.take k)))) ∧ Hid (wr.heap[w.heap.size]? = some (.cells #[.int .i64 0, .int .i64 0, .slice none 0 0] 28 (0, 0))) ∧ Hid (wr.heap[w.heap.size + 1]? = some (.cells #[.int .i64 n, .int .i64 sd, .slice B l d] 28 (0, 0))) ∧ Hid (Below w.heap.size w wr)) (fun iv _ => ln - (intOf iv).toNat)
  case atStart => exact ⟨0, none, 0, 0, Nat.zero_le _, rfl, Lib.hid ⟨none, 0, rfl, Nat.le_refl _, fun _ => rfl, KR.nil⟩, HG0, HG1, HB0⟩
  case round =>
    obtain ⟨k, B, l, d, hk, rfl, HV, HX0, HX1, HB⟩ := hrel
    have x10 := cell_of_row wr (w.heap.size + 1) 0 _ _ _ HX1.out
    have x11 := cell_of_row wr (w.heap.size + 1) 1 _ _ _ HX1.out
    have x12 := cell_of_row wr (w.heap.size + 1) 2 _ _ _ HX1.out
    simp at x10 x11 x12
    have hl0 := (Array.getElem?_eq_some_iff.1 HX0.out).1
    have hl1 := (Array.getElem?_eq_some_iff.1 HX1.out).1
    by_cases hlt : k < ln
    · have hk2 : k < K.length := by rw [HLn.out]; exact hlt
      obtain ⟨b, off, rfl, hbl, hc⟩ := (HR.out.below HB.out) k hk2
      have HE := Lib.hid (bld_kys sd K k hk2)
      have HS1 := Lib.hid (HS.out K[k] (List.getElem_mem hk2))
      have hkI : (k : Int) < (ln : Int) := by omega
      have hkI0 : (0 : Int) ≤ (k : Int) := by omega
      have hw1 : IntKind.i64.wrap ((k : Int) + 1) = (k : Int) + 1 := by simp only [IntKind.wrap_i64]; omega
      obtain ⟨t, ht⟩ : ∃ t, t = K[k] := ⟨_, rfl⟩
      rw [← ht] at hc HE HS1
      have HW := Lib.hid (fun W u h => with_any n sd (bld (kys sd (K.take k))) (by have := HBl.out k; rw [List.length_take] at this; omega) u t HS1.out W h)
      rw [← HE.out] at HW
      have HD : Hid (Below wr.heap.size wr wr.drew) := Lib.hid (Below.refl _ _).drew
      clear ht hk2
      go_wp2_with fail
      go_still_tail 5, (by kernel_rfl)
      change wpList _ _ _ _ _ wr.drew
      go_wp2_with fail
      refine (HW.out _ _ ⟨_, rfl, HV.out.below HD.out⟩).mono ?_
      rintro e w2 ⟨⟨u, rfl, hu⟩, hb⟩
      obtain ⟨v, rfl, ⟨B2, d2, rfl, hs2⟩⟩ := hu
      have HB2 : Hid (Below wr.heap.size wr w2) := Lib.hid (HD.out.trans (hb.mono HD.out.size))
      have HVS := Lib.hid hs2
      obtain ⟨l2, hl2⟩ : ∃ l2, l2 = (bld (kys sd (K.take (k + 1)))).length := ⟨_, rfl⟩
      have HL2 := Lib.hid hl2
      rw [← hl2]
      clear hs2 hb hl2 x10 x11 x12 hc
      have hy0 := (HB2.out.block _ hl0).trans HX0.out
      have hy1 := (HB2.out.block _ hl1).trans HX1.out
      have HY0 := Lib.hid hy0
      have HY1 := Lib.hid hy1
      have f0 := frozen_of_row w2 (w.heap.size + 1) 0 _ _ hy1
      have f1 := frozen_of_row w2 (w.heap.size + 1) 1 _ _ hy1
      have f2 := frozen_of_row w2 (w.heap.size + 1) 2 _ _ hy1
      have x10 := cell_of_row w2 (w.heap.size + 1) 0 _ _ _ hy1
      have x11 := cell_of_row w2 (w.heap.size + 1) 1 _ _ _ hy1
      have x12 := cell_of_row w2 (w.heap.size + 1) 2 _ _ _ hy1
      simp at x10 x11 x12
      have hz1 : w.heap.size + 1 < w2.heap.size := (Array.getElem?_eq_some_iff.1 hy1).1
      have HGs := Lib.hid (fun (a b c : Value) => ((((Gs.refl (w.heap.size + 1) w2).set (i := 0) a).set (i := 1) b).set (i := 2) c))
      clear hy0 hy1
      go_wp2_with fail
      go_roundw
      case rel =>
        refine ⟨k + 1, B2, l2, d2, by omega, by go_num, Lib.hid ⟨B2, d2, by rw [HL2.out], HVS.out.1, HVS.out.2.1, KR.grown HVS.out.2.2 (HGs.out _ _ _) HY1.out (by decide)⟩, Lib.hid ?_, Lib.hid ?_, Lib.hid (below_gs (HB.out.trans (HB2.out.mono HB.out.size)) (HGs.out _ _ _) (by omega) (Nat.le_refl _))⟩
        · exact ((HGs.out _ _ _).block _ (Array.getElem?_eq_some_iff.1 HY0.out).1 (fun e => by injection e with e; omega)).trans HY0.out
        · rw [blk_set _ (blk_set _ (blk_set _ HY1.out))]; simp
      case measure => simp [intOf] <;> omega
    · obtain rfl : k = ln := by omega
      have x00 := cell_of_row wr w.heap.size 0 _ _ _ HX0.out
      have x01 := cell_of_row wr w.heap.size 1 _ _ _ HX0.out
      have x02 := cell_of_row wr w.heap.size 2 _ _ _ HX0.out
      have f0 := frozen_of_row wr w.heap.size 0 _ _ HX0.out
      have f1 := frozen_of_row wr w.heap.size 1 _ _ HX0.out
      have f2 := frozen_of_row wr w.heap.size 2 _ _ HX0.out
      simp at x00 x01 x02
      have HGs := Lib.hid (fun (a b c : Value) => ((((Gs.refl w.heap.size wr).set (i := 0) a).set (i := 1) b).set (i := 2) c))
      have HVS := HV.out
      rw [HF.out] at HVS
      have HV2 := Lib.hid HVS
      clear HVS HV
      go_wp2_with fail
      refine bodyPost_ret (v := .agg #[.int .i64 n, .int .i64 sd, .slice B l d]) ?_ rfl ⟨⟨_, rfl, ?_⟩, ?_⟩
      · rw [results_cell1 rfl]; go_simp <;> rfl
      · exact ⟨_, rfl, SlV.grown HV2.out (HGs.out _ _ _) HX0.out (by decide)⟩
      · exact below_gs HB.out (HGs.out _ _ _) (Nat.le_refl _) (Nat.le_refl _)
end Go.Proofs.Ytajainkaomkbjaa
