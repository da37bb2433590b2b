/- EncodingWrites: the call. -/
import Derived.Test.YtnblechnalnghaaPo
import Derived.Test.YtnblechnalnghaaKn
namespace Go.Proofs.Ytnblechnalnghaa
open Go.ChangeShapes Go.WideShapes Go.ChangeAt Go.RowKit En

theorem whole_bytes (F : List UInt8) (fs : List (List UInt8)) : (⟨(whole (F :: fs)).toArray⟩ : ByteArray) = bytesOf (whole fs) ++ bytesOf F := by
  rw [bytesOf_append, whole_cons]; rfl
set_option maxRecDepth 100000 in
set_option maxHeartbeats 4000000 in
theorem writes_any (A : Option Addr) (c : Nat) (L : List Pt) (hL : L.length ≤ 8) (hok : ∀ a ∈ L, a.Ok ∧ a.key.size ≤ 9223372036854775807 ∧ a.s.size ≤ 9223372036854775807) (w : World) (hR : Rs w w.heap.size A (ptCells L)) :
    Calls Try.prog 6 #[.slice A L.length c] w fun e w' => e = .returned (.bool true) ∧ Below w.heap.size w w' := by
  have HR := Lib.hid hR
  have Hok := Lib.hid hok
  clear hR hok
  have hl8 : ¬ (8 : Int) < (L.length : Int) := by omega
  go_enter Try.func6, Try.ntmps6
  go_wp2_with fail
  refine (known_any w).mono ?_
  rintro e w1 ⟨rfl, hb⟩
  have HB1 := Lib.hid hb
  have hs1 := hb.size
  clear hb
  go_wp2_with fail
  have HW0 : Hid (WS (w1.alloc (.cells #[.pointer none, .int .i64 0] 24)) w1.heap.size []) := Lib.hid ⟨.pointer none, Deep.blk_alloc_new w1 _, rfl⟩
  have HBa : Hid (Below w.heap.size w (w1.alloc (.cells #[.pointer none, .int .i64 0] 24))) := Lib.hid (HB1.out.alloc hs1 _)
  go_loopw [4, 5] (fun u iv wr => ∃ (k : Nat) (fs : List (List UInt8)) (P : ByteArray), k ≤ L.length ∧ iv = .int .i64 (k : Int) ∧ u = .string P ∧ P.size ≤ 100000 * k ∧ Hid (P = bytesOf (whole fs)) ∧ Hid (WS wr w1.heap.size fs) ∧ Hid (∀ f ∈ fs, 0 < f.length) ∧ Hid (total fs = P.size) ∧ Hid (Below w.heap.size w wr)) (fun _ iv _ => L.length - (intOf iv).toNat)
  case atStart => exact ⟨0, [], ⟨#[]⟩, Nat.zero_le _, rfl, rfl, Nat.zero_le _, Lib.hid rfl, HW0, Lib.hid (fun f hf => absurd hf (by simp)), Lib.hid rfl, HBa⟩
  case round =>
    obtain ⟨k, fs, P, hk, rfl, rfl, hP, HP, HW, Hpos, Htot, HB⟩ := hrel
    by_cases hlt : k < L.length
    · obtain ⟨b, off, rfl, hb, hcell⟩ := pt_cells (HR.out.below HB.out) k hlt
      obtain ⟨ok, hz1, hz2⟩ := Hok.out _ (List.getElem_mem hlt)
      obtain ⟨a, ha⟩ : ∃ a, a = L[k] := ⟨_, rfl⟩
      rw [← ha] at hcell ok hz1 hz2
      clear ha
      obtain ⟨kd, n0, n1, n2, n3, n4, n5, n6, n7, key, s⟩ := a
      have c0 := hcell 0 _ rfl
      have c1 := hcell 1 _ rfl
      have c2 := hcell 2 _ rfl
      have c3 := hcell 3 _ rfl
      have c4 := hcell 4 _ rfl
      have c5 := hcell 5 _ rfl
      have c6 := hcell 6 _ rfl
      have c7 := hcell 7 _ rfl
      have c8 := hcell 8 _ rfl
      have c9 := hcell 9 _ rfl
      have c10 := hcell 10 _ rfl
      dsimp only at c0 c1 c2 c3 c4 c5 c6 c7 c8 c9 c10 hz1 hz2
      rw [Nat.add_zero] at c0
      clear hcell
      by_cases h50 : key.size ≤ 50
      · have h50' : ¬ (50 : Int) < (key.size : Int) := by omega
        by_cases hs50 : s.size ≤ 50
        · have hs50' : ¬ (50 : Int) < (s.size : Int) := by omega
          have htf : total fs ≤ 1000000 := by rw [Htot.out]; omega
          have hp : Calls Try.prog 24 #[.pointer (some ⟨w1.heap.size, 0, none⟩), .agg #[.int .u8 kd, .int .i64 n0, .int .i64 n1, .int .i64 n2, .int .i64 n3, .int .i64 n4, .int .i64 n5, .int .i64 n6, .int .i64 n7, .string key, .string s]] wr (PartPost wr w1.heap.size fs) :=
            part_any w1.heap.size fs htf ⟨kd, n0, n1, n2, n3, n4, n5, n6, n7, key, s⟩ ok h50 hs50 wr HW.out
          have Hp := Lib.hid hp
          have Hok' := Lib.hid ok
          clear hp ok
          go_wp2_with fail
          refine Hp.out.mono ?_
          rintro e w2 ⟨F, hF0, hF1, rfl, hW2, hg2⟩
          obtain ⟨Y, hY⟩ : ∃ Y, Y = bytesOf F := ⟨_, rfl⟩
          have hYs : Y.size = F.length := by rw [hY, bytesOf_size]
          have htF : total (F :: fs) = P.size + Y.size := by rw [total_cons, Htot.out, hYs]; omega
          have HY := Lib.hid hY
          have HB2 : Hid (Below w.heap.size w w2) := Lib.hid (below_grown HB.out hg2 hs1 (Nat.le_refl _))
          have HW2 := Lib.hid hW2
          have Hpos2 : Hid (∀ f ∈ F :: fs, 0 < f.length) := Lib.hid (fun f hf => by
            rcases List.mem_cons.1 hf with rfl | hf
            · exact hF0
            · exact Hpos.out f hf)
          have hby := w_bytes w1.heap.size (F :: fs) Hpos2.out (by rw [htF]; omega) w2 HW2.out
          rw [whole_bytes, ← HP.out, ← hY] at hby
          have HtF := Lib.hid htF
          have Hby := Lib.hid hby
          rw [← hY]
          have hys : Y.size ≤ 100000 := by omega
          have HPY : Hid (P ++ Y = bytesOf (whole (F :: fs))) := Lib.hid (by rw [HP.out, hY, bytesOf_append, whole_cons])
          clear hY hYs htF hW2 hg2 hby
          go_wp2_with fail
          refine Hby.out.mono ?_
          rintro e w3 ⟨rfl, hb3⟩
          have HB3 : Hid (Below w.heap.size w w3) := Lib.hid (HB2.out.trans (hb3.mono HB2.out.size))
          have HW3 := Lib.hid (HW2.out.below hb3)
          clear hb3
          have hln := w_len w1.heap.size (F :: fs) w3 HW3.out
          rw [HtF.out] at hln
          go_wp2_with fail
          refine hln.mono ?_
          rintro e w4 ⟨rfl, rfl⟩
          clear hln
          go_wp2_with fail
          go_roundw
          case rel => exact ⟨k + 1, F :: fs, P ++ Y, by omega, by go_num, rfl, by rw [ByteArray.size_append]; omega, HPY, HW3, Hpos2, Lib.hid (by rw [HtF.out, ByteArray.size_append]), HB3⟩
          case measure => simp [intOf]; omega
        · have hs50' : (50 : Int) < (s.size : Int) := by omega
          go_wp2_with fail
          go_ret
          exact ⟨rfl, HB.out⟩
      · have h50' : (50 : Int) < (key.size : Int) := by omega
        go_wp2_with fail
        go_ret
        exact ⟨rfl, HB.out⟩
    · go_wp2_with fail
      go_ret
      exact ⟨rfl, HB.out⟩
end Go.Proofs.Ytnblechnalnghaa
