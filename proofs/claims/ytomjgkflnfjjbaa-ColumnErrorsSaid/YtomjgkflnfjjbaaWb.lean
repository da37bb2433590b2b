/- The Writer's Bytes. -/
import Derived.Test.YtomjgkflnfjjbaaWn
import Derived.Lib.BufferWrite
import Derived.Laws.CopyOwn
namespace Go.Proofs.Ytomjgkflnfjjbaa
open Go.ChangeShapes Go.WideShapes Go.ChangeAt Go.RowKit En

/-- The bytes of the row while the parts rs are still to be copied. -/
def left (rs : List (List UInt8)) (suf : List UInt8) : List Value := List.replicate (total rs) (.int .u8 0) ++ suf.map u8v
theorem make_bytes (n : Nat) (hn : n ≤ 1000000) (w : World) :
    (Instr.makeSlice 90 (.int .i64 (n : Int)) (.int .i64 (n : Int))).run Try.prog w = .ok (.slice (some ⟨w.heap.size, 0, none⟩) n n) (w.alloc (.cells (List.replicate n (.int .u8 0)).toArray 5)) := by
  obtain ⟨i0, hi0, hz0, hz1, hz2⟩ := info_parts u8_info
  have h := run_make w 90 5 i0 _ Try.underlying90 hi0 hz0 .i64 .i64 n n (by omega) (Int.le_refl _) (by rw [hz2]; omega) (by omega)
  rw [Int.toNat_natCast, hz1, Nat.mul_one] at h
  rw [h]
  have e : madeCells (Value.cells (.int .u8 0)) n = (List.replicate n (.int .u8 0)).toArray := by
    have := toList_madeCells_one (.int .u8 0) n
    rw [← this]; rfl
  rw [e]
theorem u8_size : (Try.prog.info? 5).map (·.size) = some 1 := by kernel_rfl
set_option maxRecDepth 100000 in
set_option maxHeartbeats 1000000 in
theorem w_bytes (g : Nat) (fs : List (List UInt8)) (hne : ∀ f ∈ fs, 0 < f.length) (htot : total fs ≤ 1000000) (w : World) (hW : WS w g fs) :
    Calls Try.prog 48 #[.pointer (some ⟨g, 0, none⟩)] w fun e w' => e = .returned (.string ⟨(whole fs).toArray⟩) ∧ Below w.heap.size w w' := by
  have HW := Lib.hid hW
  obtain ⟨last, hg, hparts⟩ := hW
  obtain ⟨q, rfl⟩ : ∃ q, last = Value.pointer q := by
    cases fs with
    | nil => exact ⟨_, hparts⟩
    | cons f fs => obtain ⟨p, before, hv, _⟩ := hparts; exact ⟨_, hv⟩
  have c0 := cell_of_row w g 0 _ _ _ hg
  have c1 := cell_of_row w g 1 _ _ _ hg
  have HP := Lib.hid hparts
  have hglt : g < w.heap.size := (Array.getElem?_eq_some_iff.1 hg).1
  have HG := Lib.hid hg
  have km : (Instr.makeSlice 90 (.int .i64 (total fs : Int)) (.int .i64 (total fs : Int))).run Try.prog w = .ok (.slice (some ⟨w.heap.size, 0, none⟩) (total fs) (total fs)) (w.alloc (.cells (left fs []).toArray 5)) := by
    rw [make_bytes _ htot w]
    unfold left
    rw [List.map_nil, List.append_nil]
  clear hg hparts
  go_enter Try.func48, Try.ntmps48
  go_wp2_with fail
  go_loopw [4, 5] (fun en pv wr => ∃ rs suf, whole rs ++ suf = whole fs ∧ en = .int .i64 (total rs : Int) ∧ Hid (Parts wr pv rs) ∧ (∀ f ∈ rs, 0 < f.length) ∧ Hid (wr.heap[w.heap.size]? = some (.cells (left rs suf).toArray 5 (0, 0))) ∧ Hid (Below w.heap.size w wr)) (fun en _ _ => (intOf en).toNat)
  case atStart =>
    refine ⟨fs, [], by rw [List.append_nil], rfl, Lib.hid (HP.out.same fun p cs hc => ?_), hne, Lib.hid (Deep.blk_alloc_new w _), Lib.hid ((Below.refl _ _).alloc (Nat.le_refl _) _)⟩
    exact Deep.blk_alloc_lt _ _ _ (Array.getElem?_eq_some_iff.1 hc).1
  case round =>
    obtain ⟨rs, suf, hsum, rfl, HPr, hpos, HB, hbelow⟩ := hrel
    have Hsum := Lib.hid hsum
    have htots : total rs + suf.length = total fs := by rw [← whole_len, ← whole_len, ← hsum, List.length_append]
    have hbs := hbelow.out.size
    have hlt : w.heap.size < wr.heap.size := (Array.getElem?_eq_some_iff.1 HB.out).1
    clear hsum
    cases rs with
    | nil =>
      obtain rfl : u5 = _ := HPr.out
      have k4 : (convert 90 9 (.slice (some ⟨w.heap.size, 0, none⟩) (total fs) (total fs))).run Try.prog wr = .ok (.string ⟨(whole fs).toArray⟩) wr := by
        have hs : suf = whole fs := Hsum.out
        have hl : suf.length = total fs := by rw [hs, whole_len]
        rw [← hs, ← hl]
        refine run_convert_bytes_back wr 90 9 5 ⟨w.heap.size, 0, none⟩ suf.length suf Try.underlying90 Try.underlying5 Try.underlying9 (fun j hj => ?_)
        rw [add_flat, Nat.zero_add, cell_of_row wr w.heap.size j _ _ _ HB.out]
        simp [left, total, u8v, hj]
      go_wp2_with fail
      go_ret
      exact ⟨rfl, hbelow.out⟩
    | cons f rs =>
      obtain ⟨p, before, rfl, hp, hr⟩ := HPr.out
      have hf := hpos f (List.mem_cons_self ..)
      have d0 := cell_of_row wr p 0 _ _ _ hp
      have d1 := cell_of_row wr p 1 _ _ _ hp
      have Hp := Lib.hid hp
      have Hr := Lib.hid hr
      rw [total_cons] at htots
      have kc : (Builtin.copy_ #[90, 9] 3 #[.slice (some ⟨w.heap.size, total rs, none⟩) (total fs - total rs) (total fs - total rs), .string ⟨f.toArray⟩]).run Try.prog wr.drew = .ok (goInt f.length) (wr.drew.setRow w.heap.size (left rs (f ++ suf)).toArray) := by
        have h := Lib.run_copy_row_string (P := Try.prog) wr.drew 90 9 3 5 w.heap.size (total rs) (total fs - total rs) (total fs - total rs) ⟨f.toArray⟩ (left (f :: rs) suf).toArray 5 Try.underlying90 u8_size HB.out (by show f.toArray.size ≤ _; simp; omega) (by show _ + f.toArray.size ≤ _; simp [left, total_cons]; omega)
        rw [h]
        have e1 : (⟨f.toArray⟩ : ByteArray).size = f.length := by show f.toArray.size = _; simp
        rw [e1]
        have e2 : List.take (total rs) (left (f :: rs) suf).toArray.toList ++ Lib.byteCells (⟨f.toArray⟩ : ByteArray).data.toList ++ List.drop (total rs + f.length) (left (f :: rs) suf).toArray.toList = left rs (f ++ suf) := by
          have e3 : (left (f :: rs) suf).toArray.toList = List.replicate (total rs) (.int .u8 0) ++ (List.replicate f.length (.int .u8 0) ++ suf.map u8v) := by
            show left (f :: rs) suf = _
            unfold left
            rw [total_cons, Nat.add_comm, ← List.replicate_append_replicate, List.append_assoc]
          rw [e3, List.take_left' (by simp), List.drop_append]
          simp [left, Lib.byteCells, u8v]
        rw [e2]
      have hw : wrap64 ((total (f :: rs) : Int) - (f.length : Int)) = (total rs : Int) := by
        rw [total_cons]; unfold wrap64; omega
      have htl : total rs ≤ total fs := by omega
      clear hp hr
      go_wp2_with fail
      go_region
      have hpne : p ≠ w.heap.size := by
        intro e
        have h1 := Hp.out
        rw [e, HB.out] at h1
        simp at h1
      have d0' : (wr.drew.setRow w.heap.size (left rs (f ++ suf)).toArray).cell? ⟨p, 0, none⟩ = some before := by
        have h1 : (wr.drew.setRow w.heap.size (left rs (f ++ suf)).toArray).heap[p]? = _ := (setRow_other wr.drew w.heap.size p _ hpne).trans Hp.out
        rw [cell_of_row _ p 0 _ _ _ h1]; rfl
      go_wp2_with fail
      refine ⟨⟨rs, f ++ suf, ?_, by rw [hw], Lib.hid (Hr.out.same fun b cs hc => ?_), fun x hx => hpos x (List.mem_cons_of_mem _ hx), Lib.hid (setRow_heap wr.drew w.heap.size _ _ _ _ HB.out), Lib.hid (below_setRow (Below.drew hbelow.out) (Nat.le_refl _) _)⟩, ?_⟩
      · rw [← Hsum.out, whole_cons, List.append_assoc]
      · refine setRow_other wr.drew w.heap.size b _ (fun e => ?_)
        rw [e, HB.out] at hc
        simp at hc
      · rw [hw]
        show (total rs : Int).toNat < (total (f :: rs) : Int).toNat
        rw [total_cons]; omega
end Go.Proofs.Ytomjgkflnfjjbaa
