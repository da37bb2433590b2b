/- Of at a number that is no value. -/
import Derived.Test.YtfjgdldjghdjhaaHl
namespace Go.Proofs.Ytfjgdldjghdjhaa
open Go.ChangeShapes Go.WideShapes Go.ChangeAt Go.RowKit

set_option maxRecDepth 100000 in
set_option maxHeartbeats 4000000 in
theorem of_bad (A : Option Addr) (c : Nat) (L : List Int) (hl : L.length ≤ 1000000) (hV : ¬ ∀ x ∈ L, Vl x) (w : World) (hR : Rd (Value.int .i64) w A L) :
    Calls Try.prog 20 #[.slice A L.length c] w fun e w' => e = .returned (.tuple #[.agg #[.slice none 0 0], .int .i64 2]) ∧ Below w.heap.size w w' := by
  have hd : decide (1048576 < L.length) = false := by simp; omega
  have hz : ∀ W, (zeroValue 68).run Try.prog W = .ok (.agg (List.replicate 305 (.int .i64 0)).toArray) W := fun W => by kernel_rfl
  have HR := Lib.hid hR
  have HNo := Lib.hid hV
  have HBd := Lib.hid (cvN_bd L)
  have HLn := Lib.hid (cvN_len L)
  have HS : Hid (∀ j, cvN L (j + 1) = (cvN L j).set (ix (L.getD j 0).toNat) ((cvN L j).getD (ix (L.getD j 0).toNat) 0 + 1)) := Lib.hid (fun _ => rfl)
  have HZ0 : Hid ((List.replicate 305 (Value.int .i64 0)).toArray = ((cvN L 0).map (Value.int .i64)).toArray) := Lib.hid (by show _ = ((List.replicate 305 (0 : Int)).map (Value.int .i64)).toArray; rw [List.map_replicate])
  obtain ⟨Z, hZ⟩ : ∃ Z : Array Value, Z = (List.replicate 305 (.int .i64 0)).toArray := ⟨_, rfl⟩
  rw [← hZ] at hz HZ0
  clear hR hV hZ
  go_enter Try.func20, Try.ntmps20
  go_wp2_with fail
  clear hz
  have HB0 : Hid (Below w.heap.size w ((w.alloc (.cells #[.slice none 0 0] 33)).alloc (.cells Z 68))) := Lib.hid (((Below.refl _ _).alloc (Nat.le_refl _) _).alloc (by simp) _)
  have HG0 := Lib.hid (blk_under w (.cells #[.slice none 0 0] 33) (.cells Z 68))
  have HG1 := Lib.hid (blk_over w (.cells #[.slice none 0 0] 33) (.cells Z 68))
  go_loopw [15] (fun iv wr => ∃ j : Nat, j ≤ L.length ∧ iv = .int .i64 (j : Int) ∧ Hid (∀ x ∈ L.take j, Vl x) ∧ Hid (wr.heap[w.heap.size]? = some (.cells #[.slice none 0 0] 33 (0, 0))) ∧ Hid (wr.heap[w.heap.size + 1]? = some (.cells ((cvN L j).map (Value.int .i64)).toArray 68 (0, 0))) ∧ Hid (Below w.heap.size w wr)) (fun iv _ => L.length - (intOf iv).toNat)
  case atStart => exact ⟨0, Nat.zero_le _, rfl, Lib.hid (by simp), HG0, by rw [← HZ0.out]; exact HG1, HB0⟩
  case round =>
    obtain ⟨j, hj, rfl, HV, HK, HC, HB⟩ := hrel
    have hsz := HB.out.size
    have hlt1 : w.heap.size + 1 < wr.heap.size := (Array.getElem?_eq_some_iff.1 HC.out).1
    by_cases hlt : j < L.length
    · obtain ⟨b, off, rfl, hb, h0⟩ := int_at (HR.out.below HB.out) j hlt
      have hx : L.getD j 0 = L[j] := by simp [List.getD, List.getElem?_eq_getElem hlt]
      have hS := HS.out j
      rw [hx] at hS
      have hT : L.take (j + 1) = L.take j ++ [L[j]] := by rw [List.take_append_getElem hlt]
      obtain ⟨x, hxe⟩ : ∃ x, x = L[j] := ⟨_, rfl⟩
      rw [← hxe] at h0 hS hT
      have hjI : (j : Int) < (L.length : Int) := by omega
      have hj0 : (0 : Int) ≤ (j : Int) := by omega
      have hw1 : IntKind.i64.wrap ((j : Int) + 1) = (j : Int) + 1 := by simp only [IntKind.wrap_i64]; omega
      by_cases hv : x < 0 ∨ 1099511627776 < x
      · have HI := Lib.hid (fun W => index_bad x hv W)
        have ck := cell_of_row wr w.heap.size 0 _ _ _ HK.out
        have hfr : wr.frozen? ⟨w.heap.size, 0, none⟩ = false := by simp [World.frozen?, HK.out]
        have hl3 : w.heap.size < wr.heap.size := by omega
        clear hx hxe hS hT hv hw1
        go_wp2_with fail
        refine (HI.out _).mono ?_
        rintro e w' ⟨rfl, rfl⟩
        go_wp2_with fail
        refine bodyPost_ret (v := .tuple #[.agg #[.slice none 0 0], .int .i64 2]) ?_ rfl ⟨rfl, ?_⟩
        · rw [results_cell_tmp1 rfl]; go_simp <;> rfl
        · first | exact HB.out | exact HB.out.setCell (p := ⟨w.heap.size, 0, none⟩) (Nat.le_refl _) _
      · obtain ⟨n, hn⟩ : ∃ n : Nat, x = (n : Int) := ⟨x.toNat, by omega⟩
        have hn40 : n ≤ 1099511627776 := by omega
        have HV2 : Hid (∀ y ∈ L.take (j + 1), Vl y) := Lib.hid (by
          intro y hy
          rw [hT] at hy
          rcases List.mem_append.1 hy with hy | hy
          · exact HV.out y hy
          · rw [List.mem_singleton.1 hy]; unfold Vl; omega)
        rw [hn, Int.toNat_natCast] at hS
        rw [hn] at h0
        have HI := Lib.hid (fun W => index_ok n hn40 W)
        have hi5 := ix_lt n hn40
        have hbd := HBd.out j (ix n)
        obtain ⟨i, hi⟩ : ∃ i, i = ix n := ⟨_, rfl⟩
        rw [← hi] at hS HI hi5 hbd
        have hln := HLn.out j
        have hcell : wr.cell? ⟨w.heap.size + 1, i, none⟩ = some (.int .i64 ((cvN L j).getD i 0)) := by
          rw [cell_of_row wr (w.heap.size + 1) i _ _ _ HC.out]
          simp [List.getD, List.getElem?_eq_getElem (show i < (cvN L j).length by omega)]
        have hfr : wr.frozen? ⟨w.heap.size + 1, i, none⟩ = false := by simp [World.frozen?, HC.out]
        have HSn := Lib.hid hS
        obtain ⟨y, hy⟩ : ∃ y, y = (cvN L j).getD i 0 := ⟨_, rfl⟩
        rw [← hy] at hbd hcell HSn
        have hy2 : y ≤ 1000000 := by omega
        have hiI : (i : Int) < 305 := by omega
        clear hx hxe hv hn hS hi hy hln hT
        go_wp2_with fail
        refine (HI.out _).mono ?_
        rintro e w' ⟨rfl, rfl⟩
        go_wp2_with fail
        go_roundw
        case rel =>
          refine ⟨j + 1, by omega, by go_num, HV2, Lib.hid ?_, Lib.hid ?_, Lib.hid (HB.out.setCell (p := ⟨w.heap.size + 1, i, none⟩) (by show w.heap.size ≤ w.heap.size + 1; omega) _)⟩
          · exact (Below.heap_setCell wr _ _ _ (by show w.heap.size ≠ w.heap.size + 1; omega)).trans HK.out
          · rw [blk_set _ HC.out, HSn.out]
            simp [List.map_set]
        case measure => simp [intOf] <;> omega
    · obtain rfl : j = L.length := by omega
      exact absurd (by have h := HV.out; rw [List.take_length] at h; exact h) HNo.out
end Go.Proofs.Ytfjgdldjghdjhaa
