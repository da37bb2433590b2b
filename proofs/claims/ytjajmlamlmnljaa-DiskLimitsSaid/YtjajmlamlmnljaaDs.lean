/- The methods at nil (written by wip/bin/gen_ds26.py). -/
import Derived.Test.YtjajmlamlmnljaaDr
namespace Go.Proofs.Ytjajmlamlmnljaa
open Go.ChangeShapes Go.WideShapes Go.ChangeAt Go.RowKit Go.Joins Go.Maps Go.ChangeMaps Go.MapKept

theorem run_eql_nil_some (t : TypeId) (a : Addr) (w : World) (h : Try.prog.underlying t = some (.pointer (Try.prog.pointee t))) : (binOp .eql t (.pointer none) (.pointer (some a))).run Try.prog w = .ok (.bool false) w := by
  have h2 : ∀ d : Nat, (Op.equalIn (d + 1) t (.pointer none) (.pointer (some a))).run Try.prog w = .ok false w := fun d => by simp [Op.equalIn, run_underlying h]
  simp only [binOp]
  simp [Op.equal, Op.maxDepth, h2 9999]
set_option maxRecDepth 100000 in
set_option maxHeartbeats 4000000 in
theorem find0_nil (k : ByteArray) (w : World) :
    Calls Try.prog 44 #[.pointer none, .string k, .slice none 0 0] w fun e w' => e = .returned (.tuple #[.agg #[.slice none 0 0, .int .i64 0, .bool false], .int .i64 1]) ∧ Below w.heap.size w w' := by
  obtain ⟨i0, hi0, hz0, hz1, hz2⟩ := info_parts str_info
  obtain ⟨W0, hW0⟩ : ∃ W0 : World, W0 = w.alloc (.cells #[.slice none 0 0, .int .i64 0, .bool false] 69) := ⟨_, rfl⟩
  have hz : W0.heap.size = w.heap.size + 1 := by rw [hW0]; simp
  have hb0 : Below w.heap.size w W0 := by rw [hW0]; exact (Below.refl _ _).alloc (Nat.le_refl _) _
  have hg0 : W0.heap[w.heap.size]? = some (.cells #[.slice none 0 0, .int .i64 0, .bool false] 69 (0, 0)) := by rw [hW0]; exact Deep.blk_alloc_new _ _
  obtain ⟨W1, hW1⟩ : ∃ W1 : World, W1 = W0.alloc (.cells #[.string k] 9) := ⟨_, rfl⟩
  have hb1 : Below W0.heap.size W0 W1 := by rw [hW1]; exact (Below.refl _ _).alloc (Nat.le_refl _) _
  have hz1' : W1.heap.size = w.heap.size + 2 := by rw [hW1]; simp [hz]
  have hk1 : W1.heap[w.heap.size + 1]? = some (.cells #[.string k] 9 (0, 0)) := by
    rw [hW1]
    have := Deep.blk_alloc_new W0 (.cells #[.string k] 9)
    rw [hz] at this; exact this
  have hO : W1.ownsRow (w.heap.size + 1) 9 1 (.slice (some ⟨w.heap.size + 1, 0, none⟩) 1 1) 1 ([k].map Value.string) := ⟨rfl, .inr ⟨w.heap.size + 1, 1, #[.string k], rfl, Nat.le_refl _, hk1, Nat.le_refl _, by unfold maxLen; decide, rfl, rfl⟩⟩
  have HO := Lib.hid hO
  have HB1 := Lib.hid (hb0.trans (hb1.mono hb0.size))
  have HG0 := Lib.hid ((hb1.block w.heap.size (by omega)).trans hg0)
  have HSb : Hid ((Try.prog.info? 69).map (fun i => i.size) = some 3) := Lib.hid (by kernel_rfl)
  have hWr := hW1
  rw [hW0] at hWr
  have HWr := Lib.hid hWr
  have Hi0 := Lib.hid hi0
  have Hz0 := Lib.hid hz0
  have Hz1 := Lib.hid hz1
  have Hz2 := Lib.hid hz2
  have HZ1 := Lib.hid hz1'
  clear hW0 hW1 hWr hb0 hb1 hg0 hk1 hO hz hi0 hz0 hz1 hz2 hz1'
  go_enter Try.func44, Try.ntmps44
  go_wp2_with (at_builtin; (try rw [← HWr.out]); go_loud (refine wpList_append_own_none rfl (.tmp 13) (.tmp 14) 41 rfl (w.heap.size + 1) 9 i0 1 Try.underlying41 Hi0.out (.slice (some ⟨w.heap.size + 1, 0, none⟩) 1 1) 1 ([k].map Value.string) rfl HO.out rfl ?_))
  have HB3 := HB1
  have HG3 := HG0
  have HZ3 := HZ1
  refine (check_nil _ _).mono ?_
  rintro e w4 ⟨rfl, hb4⟩
  have HB4 := Lib.hid (HB3.out.trans (hb4.mono HB3.out.size))
  have HG4 := Lib.hid ((hb4.block w.heap.size (by have := HB3.out.size; have := HZ3.out; omega)).trans HG3.out)
  have hp4 : w.heap.size < w4.heap.size := by have := hb4.size; have := HZ3.out; omega
  go_wp2_with (refine wpList_store_row rfl _ _ _ rfl w.heap.size #[.slice none 0 0, .int .i64 0, .bool false] rfl rfl 69 _ HG4.out HSb.out rfl (one_file default) ?_)
  have ho := setRow_heap w4 w.heap.size _ #[.slice none 0 0, .int .i64 0, .bool false] _ _ HG4.out
  have k0 := cell_of_row _ _ 0 _ _ _ ho
  have k1 := cell_of_row _ _ 1 _ _ _ ho
  have k2 := cell_of_row _ _ 2 _ _ _ ho
  simp at k0 k1 k2
  refine bodyPost_ret (v := .tuple #[.agg #[.slice none 0 0, .int .i64 0, .bool false], .int .i64 1]) ?_ rfl ⟨rfl, below_setRow HB4.out (Nat.le_refl _)⟩
  rw [results_cell_tmp1 rfl]; go_simp <;> rfl
set_option maxRecDepth 100000 in
set_option maxHeartbeats 4000000 in
theorem find1_nil (k : ByteArray) (ad : Addr) (c : Nat) (k2 : ByteArray) (w : World) (hR : Rd Value.string w (some ad) [k2]) :
    Calls Try.prog 44 #[.pointer none, .string k, .slice (some ad) 1 c] w fun e w' => e = .returned (.tuple #[.agg #[.slice none 0 0, .int .i64 0, .bool false], .int .i64 1]) ∧ Below w.heap.size w w' := by
  obtain ⟨i0, hi0, hz0, hz1, hz2⟩ := info_parts str_info
  obtain ⟨W0, hW0⟩ : ∃ W0 : World, W0 = w.alloc (.cells #[.slice none 0 0, .int .i64 0, .bool false] 69) := ⟨_, rfl⟩
  have hz : W0.heap.size = w.heap.size + 1 := by rw [hW0]; simp
  have hb0 : Below w.heap.size w W0 := by rw [hW0]; exact (Below.refl _ _).alloc (Nat.le_refl _) _
  have hg0 : W0.heap[w.heap.size]? = some (.cells #[.slice none 0 0, .int .i64 0, .bool false] 69 (0, 0)) := by rw [hW0]; exact Deep.blk_alloc_new _ _
  obtain ⟨W1, hW1⟩ : ∃ W1 : World, W1 = W0.alloc (.cells #[.string k] 9) := ⟨_, rfl⟩
  have hb1 : Below W0.heap.size W0 W1 := by rw [hW1]; exact (Below.refl _ _).alloc (Nat.le_refl _) _
  have hz1' : W1.heap.size = w.heap.size + 2 := by rw [hW1]; simp [hz]
  have hk1 : W1.heap[w.heap.size + 1]? = some (.cells #[.string k] 9 (0, 0)) := by
    rw [hW1]
    have := Deep.blk_alloc_new W0 (.cells #[.string k] 9)
    rw [hz] at this; exact this
  have hO : W1.ownsRow (w.heap.size + 1) 9 1 (.slice (some ⟨w.heap.size + 1, 0, none⟩) 1 1) 1 ([k].map Value.string) := ⟨rfl, .inr ⟨w.heap.size + 1, 1, #[.string k], rfl, Nat.le_refl _, hk1, Nat.le_refl _, by unfold maxLen; decide, rfl, rfl⟩⟩
  have HO := Lib.hid hO
  have HB1 := Lib.hid (hb0.trans (hb1.mono hb0.size))
  have HG0 := Lib.hid ((hb1.block w.heap.size (by omega)).trans hg0)
  have HSb : Hid ((Try.prog.info? 69).map (fun i => i.size) = some 3) := Lib.hid (by kernel_rfl)
  have HR := Lib.hid (hR.below (hb0.trans (hb1.mono hb0.size)))
  have hnw : ∀ j u, ([k2].map Value.string)[j]? = some u → W1.cell? (ad.add j) = some u := by
    intro j u hu
    have hj : j < [k2].length := by
      have := (List.getElem?_eq_some_iff.1 hu).1
      simpa using this
    obtain ⟨b, off, e, _, h3⟩ := HR.out j hj
    injection e with e
    subst e
    have hj0 : j = 0 := by simpa using hj
    subst hj0
    rw [add_flat]
    simp at hu h3
    rw [← hu]; exact h3
  have HNw := Lib.hid hnw
  clear hnw hR
  have hWr := hW1
  rw [hW0] at hWr
  have HWr := Lib.hid hWr
  have Hi0 := Lib.hid hi0
  have Hz0 := Lib.hid hz0
  have Hz1 := Lib.hid hz1
  have Hz2 := Lib.hid hz2
  have HZ1 := Lib.hid hz1'
  clear hW0 hW1 hWr hb0 hb1 hg0 hk1 hO hz hi0 hz0 hz1 hz2 hz1'
  go_enter Try.func44, Try.ntmps44
  go_wp2_with (at_builtin; (try rw [← HWr.out]); go_loud (refine wpList_append_own _ rfl (.tmp 13) (.tmp 14) 41 rfl (w.heap.size + 1) 9 i0 _ 1 16 Try.underlying41 Hi0.out Hz0.out Hz1.out Hz2.out rfl (by omega) (.slice (some ⟨w.heap.size + 1, 0, none⟩) 1 1) 1 ([k].map Value.string) rfl HO.out ad 1 c ([k2].map Value.string) rfl rfl HNw.out (by simp [Value.oneCell']) (by unfold maxLen; omega) (by omega) (by have := HZ1.out; omega) ?_); go_loud (intro v3 w3 hown hg _); go_loud (obtain ⟨g3, c3, rfl, _, _, _⟩ := own_pos hown (by omega)); have HO3 := Lib.hid hown; have HBq := Lib.hid (below_grownBy (B := w.heap.size + 1) (a := W1) (Below.refl _ _) HO.out hg (Nat.le_refl _) (by have := HZ1.out; omega)); clear hown hg)
  have HB3 := Lib.hid (HB1.out.trans (HBq.out.mono (Nat.le_succ _)))
  have HG3 := Lib.hid ((HBq.out.block w.heap.size (by omega)).trans HG0.out)
  have HZ3 : Hid (w.heap.size + 2 ≤ w3.heap.size) := Lib.hid (by have := HBq.out.size; have := HZ1.out; omega)
  refine (check_nil _ _).mono ?_
  rintro e w4 ⟨rfl, hb4⟩
  have HB4 := Lib.hid (HB3.out.trans (hb4.mono HB3.out.size))
  have HG4 := Lib.hid ((hb4.block w.heap.size (by have := HB3.out.size; have := HZ3.out; omega)).trans HG3.out)
  have hp4 : w.heap.size < w4.heap.size := by have := hb4.size; have := HZ3.out; omega
  go_wp2_with (refine wpList_store_row rfl _ _ _ rfl w.heap.size #[.slice none 0 0, .int .i64 0, .bool false] rfl rfl 69 _ HG4.out HSb.out rfl (one_file default) ?_)
  have ho := setRow_heap w4 w.heap.size _ #[.slice none 0 0, .int .i64 0, .bool false] _ _ HG4.out
  have k0 := cell_of_row _ _ 0 _ _ _ ho
  have k1 := cell_of_row _ _ 1 _ _ _ ho
  have k2 := cell_of_row _ _ 2 _ _ _ ho
  simp at k0 k1 k2
  refine bodyPost_ret (v := .tuple #[.agg #[.slice none 0 0, .int .i64 0, .bool false], .int .i64 1]) ?_ rfl ⟨rfl, below_setRow HB4.out (Nat.le_refl _)⟩
  rw [results_cell_tmp1 rfl]; go_simp <;> rfl
set_option maxRecDepth 100000 in
set_option maxHeartbeats 4000000 in
theorem begin0_nil (k : ByteArray) (w : World) :
    Calls Try.prog 45 #[.pointer none, .string k, .slice none 0 0] w fun e w' => e = .returned (.tuple #[.agg #[.slice none 0 0, .int .i64 0, .bool false], .int .i64 1]) ∧ Below w.heap.size w w' := by
  obtain ⟨W0, hW0⟩ : ∃ W0 : World, W0 = w.alloc (.cells #[.slice none 0 0, .int .i64 0, .bool false] 69) := ⟨_, rfl⟩
  have hz : W0.heap.size = w.heap.size + 1 := by rw [hW0]; simp
  have hb0 : Below w.heap.size w W0 := by rw [hW0]; exact (Below.refl _ _).alloc (Nat.le_refl _) _
  have hg0 : W0.heap[w.heap.size]? = some (.cells #[.slice none 0 0, .int .i64 0, .bool false] 69 (0, 0)) := by rw [hW0]; exact Deep.blk_alloc_new _ _
  have HCl := Lib.hid (find0_nil k W0)
  have HSb : Hid ((Try.prog.info? 69).map (fun i => i.size) = some 3) := Lib.hid (by kernel_rfl)
  have HB0 := Lib.hid hb0
  have HG0 := Lib.hid hg0
  have HW := Lib.hid hW0
  have HZ := Lib.hid hz
  clear hW0 hb0 hg0 hz
  go_enter Try.func45, Try.ntmps45
  go_wp2_with fail
  rw [← HW.out]
  refine HCl.out.mono ?_
  rintro e w1 ⟨rfl, hb1⟩
  have HB1 := Lib.hid (HB0.out.trans (hb1.mono HB0.out.size))
  have HG1 := Lib.hid ((hb1.block w.heap.size (by have := HZ.out; omega)).trans HG0.out)
  have hp1 : w.heap.size < w1.heap.size := by have := hb1.size; have := HZ.out; omega
  obtain ⟨W2, hW2⟩ : ∃ W2, W2 = w1.alloc (.cells #[.slice none 0 0, .int .i64 0, .bool false] 69) := ⟨_, rfl⟩
  have hb2 : Below w1.heap.size w1 W2 := by rw [hW2]; exact (Below.refl _ _).alloc (Nat.le_refl _) _
  have HB2 := Lib.hid (HB1.out.trans (hb2.mono HB1.out.size))
  have HG2 := Lib.hid ((hb2.block w.heap.size hp1).trans HG1.out)
  have HX2 : Hid (W2.heap[w1.heap.size]? = some (.cells #[.slice none 0 0, .int .i64 0, .bool false] 69 (0, 0))) := Lib.hid (by rw [hW2]; exact Deep.blk_alloc_new _ _)
  have HA : Hid ((w1.alloc (.cells #[.slice none 0 0, .int .i64 0, .bool false] 69)).heap[w1.heap.size]? = some (.cells #[.slice none 0 0, .int .i64 0, .bool false] 69 (0, 0))) := Lib.hid (Deep.blk_alloc_new _ _)
  have HW2 : Hid (W2 = (w1.alloc (.cells #[.slice none 0 0, .int .i64 0, .bool false] 69)).setRow w1.heap.size #[.slice none 0 0, .int .i64 0, .bool false]) := Lib.hid (by rw [hW2]; exact (alloc_setRow _ _ _ _).symm)
  clear hb1 hp1 hW2 hb2
  have y0 := cell_of_row _ _ 0 _ _ _ HX2.out
  have y1 := cell_of_row _ _ 1 _ _ _ HX2.out
  have y2 := cell_of_row _ _ 2 _ _ _ HX2.out
  simp at y0 y1 y2
  rw [HW2.out] at y0 y1 y2
  have hg2 := HG2.out
  rw [HW2.out] at hg2
  have HG2r := Lib.hid hg2
  clear hg2
  go_wp2_with (first
    | (refine wpList_store_row rfl _ _ _ rfl w1.heap.size #[.slice none 0 0, .int .i64 0, .bool false] rfl rfl 69 _ HA.out HSb.out rfl (one_file default) ?_)
    | (go_loud (refine wpList_store_row rfl _ _ _ rfl w.heap.size #[.slice none 0 0, .int .i64 0, .bool false] rfl rfl 69 _ HG2r.out HSb.out rfl (one_file default) ?_)))
  rw [← HW2.out]
  have ho := setRow_heap W2 w.heap.size _ #[.slice none 0 0, .int .i64 0, .bool false] _ _ HG2.out
  have k0 := cell_of_row _ _ 0 _ _ _ ho
  have k1 := cell_of_row _ _ 1 _ _ _ ho
  have k2 := cell_of_row _ _ 2 _ _ _ ho
  simp at k0 k1 k2
  refine bodyPost_ret (v := .tuple #[.agg #[.slice none 0 0, .int .i64 0, .bool false], .int .i64 1]) ?_ rfl ⟨rfl, below_setRow HB2.out (Nat.le_refl _)⟩
  rw [results_cell_tmp1 rfl]; go_simp <;> rfl
set_option maxRecDepth 100000 in
set_option maxHeartbeats 4000000 in
theorem begin1_nil (k : ByteArray) (ad : Addr) (c : Nat) (k2 : ByteArray) (w : World) (hR : Rd Value.string w (some ad) [k2]) :
    Calls Try.prog 45 #[.pointer none, .string k, .slice (some ad) 1 c] w fun e w' => e = .returned (.tuple #[.agg #[.slice none 0 0, .int .i64 0, .bool false], .int .i64 1]) ∧ Below w.heap.size w w' := by
  obtain ⟨W0, hW0⟩ : ∃ W0 : World, W0 = w.alloc (.cells #[.slice none 0 0, .int .i64 0, .bool false] 69) := ⟨_, rfl⟩
  have hz : W0.heap.size = w.heap.size + 1 := by rw [hW0]; simp
  have hb0 : Below w.heap.size w W0 := by rw [hW0]; exact (Below.refl _ _).alloc (Nat.le_refl _) _
  have hg0 : W0.heap[w.heap.size]? = some (.cells #[.slice none 0 0, .int .i64 0, .bool false] 69 (0, 0)) := by rw [hW0]; exact Deep.blk_alloc_new _ _
  have HCl := Lib.hid (find1_nil k ad c k2 W0 (hR.below hb0))
  have HSb : Hid ((Try.prog.info? 69).map (fun i => i.size) = some 3) := Lib.hid (by kernel_rfl)
  have HB0 := Lib.hid hb0
  have HG0 := Lib.hid hg0
  have HW := Lib.hid hW0
  have HZ := Lib.hid hz
  clear hW0 hb0 hg0 hz hR
  go_enter Try.func45, Try.ntmps45
  go_wp2_with fail
  rw [← HW.out]
  refine HCl.out.mono ?_
  rintro e w1 ⟨rfl, hb1⟩
  have HB1 := Lib.hid (HB0.out.trans (hb1.mono HB0.out.size))
  have HG1 := Lib.hid ((hb1.block w.heap.size (by have := HZ.out; omega)).trans HG0.out)
  have hp1 : w.heap.size < w1.heap.size := by have := hb1.size; have := HZ.out; omega
  obtain ⟨W2, hW2⟩ : ∃ W2, W2 = w1.alloc (.cells #[.slice none 0 0, .int .i64 0, .bool false] 69) := ⟨_, rfl⟩
  have hb2 : Below w1.heap.size w1 W2 := by rw [hW2]; exact (Below.refl _ _).alloc (Nat.le_refl _) _
  have HB2 := Lib.hid (HB1.out.trans (hb2.mono HB1.out.size))
  have HG2 := Lib.hid ((hb2.block w.heap.size hp1).trans HG1.out)
  have HX2 : Hid (W2.heap[w1.heap.size]? = some (.cells #[.slice none 0 0, .int .i64 0, .bool false] 69 (0, 0))) := Lib.hid (by rw [hW2]; exact Deep.blk_alloc_new _ _)
  have HA : Hid ((w1.alloc (.cells #[.slice none 0 0, .int .i64 0, .bool false] 69)).heap[w1.heap.size]? = some (.cells #[.slice none 0 0, .int .i64 0, .bool false] 69 (0, 0))) := Lib.hid (Deep.blk_alloc_new _ _)
  have HW2 : Hid (W2 = (w1.alloc (.cells #[.slice none 0 0, .int .i64 0, .bool false] 69)).setRow w1.heap.size #[.slice none 0 0, .int .i64 0, .bool false]) := Lib.hid (by rw [hW2]; exact (alloc_setRow _ _ _ _).symm)
  clear hb1 hp1 hW2 hb2
  have y0 := cell_of_row _ _ 0 _ _ _ HX2.out
  have y1 := cell_of_row _ _ 1 _ _ _ HX2.out
  have y2 := cell_of_row _ _ 2 _ _ _ HX2.out
  simp at y0 y1 y2
  rw [HW2.out] at y0 y1 y2
  have hg2 := HG2.out
  rw [HW2.out] at hg2
  have HG2r := Lib.hid hg2
  clear hg2
  go_wp2_with (first
    | (refine wpList_store_row rfl _ _ _ rfl w1.heap.size #[.slice none 0 0, .int .i64 0, .bool false] rfl rfl 69 _ HA.out HSb.out rfl (one_file default) ?_)
    | (go_loud (refine wpList_store_row rfl _ _ _ rfl w.heap.size #[.slice none 0 0, .int .i64 0, .bool false] rfl rfl 69 _ HG2r.out HSb.out rfl (one_file default) ?_)))
  rw [← HW2.out]
  have ho := setRow_heap W2 w.heap.size _ #[.slice none 0 0, .int .i64 0, .bool false] _ _ HG2.out
  have k0 := cell_of_row _ _ 0 _ _ _ ho
  have k1 := cell_of_row _ _ 1 _ _ _ ho
  have k2 := cell_of_row _ _ 2 _ _ _ ho
  simp at k0 k1 k2
  refine bodyPost_ret (v := .tuple #[.agg #[.slice none 0 0, .int .i64 0, .bool false], .int .i64 1]) ?_ rfl ⟨rfl, below_setRow HB2.out (Nat.le_refl _)⟩
  rw [results_cell_tmp1 rfl]; go_simp <;> rfl
set_option maxRecDepth 100000 in
set_option maxHeartbeats 4000000 in
theorem sync_nil (k : ByteArray) (w : World) :
    Calls Try.prog 22 #[.pointer none, .string k] w fun e w' => e = .returned (.int .i64 1) ∧ Below w.heap.size w w' := by
  go_enter Try.func22, Try.ntmps22
  go_wp2_with fail
  refine (begin0_nil k w).mono ?_
  rintro e w1 ⟨rfl, hb1⟩
  obtain ⟨W2, hW2⟩ : ∃ W2, W2 = w1.alloc (.cells #[.slice none 0 0, .int .i64 0, .bool false] 69) := ⟨_, rfl⟩
  have hb2 : Below w1.heap.size w1 W2 := by rw [hW2]; exact (Below.refl _ _).alloc (Nat.le_refl _) _
  have HB2 : Hid (Below w.heap.size w W2) := Lib.hid (hb1.trans (hb2.mono (hb1.size)))
  have HX2 : Hid (W2.heap[w1.heap.size]? = some (.cells #[.slice none 0 0, .int .i64 0, .bool false] 69 (0, 0))) := Lib.hid (by rw [hW2]; exact Deep.blk_alloc_new _ _)
  have HA : Hid ((w1.alloc (.cells #[.slice none 0 0, .int .i64 0, .bool false] 69)).heap[w1.heap.size]? = some (.cells #[.slice none 0 0, .int .i64 0, .bool false] 69 (0, 0))) := Lib.hid (Deep.blk_alloc_new _ _)
  have HW2 : Hid (W2 = (w1.alloc (.cells #[.slice none 0 0, .int .i64 0, .bool false] 69)).setRow w1.heap.size #[.slice none 0 0, .int .i64 0, .bool false]) := Lib.hid (by rw [hW2]; exact (alloc_setRow _ _ _ _).symm)
  have HSb : Hid ((Try.prog.info? 69).map (fun i => i.size) = some 3) := Lib.hid (by kernel_rfl)
  clear hb1 hW2 hb2
  have y0 := cell_of_row _ _ 0 _ _ _ HX2.out
  have y1 := cell_of_row _ _ 1 _ _ _ HX2.out
  have y2 := cell_of_row _ _ 2 _ _ _ HX2.out
  simp at y0 y1 y2
  rw [HW2.out] at y0 y1 y2
  go_wp2_with (refine wpList_store_row rfl _ _ _ rfl w1.heap.size #[.slice none 0 0, .int .i64 0, .bool false] rfl rfl 69 _ HA.out HSb.out rfl (one_file default) ?_)
  try rw [← HW2.out]
  go_ret
  exact ⟨rfl, HB2.out⟩
set_option maxRecDepth 100000 in
set_option maxHeartbeats 4000000 in
theorem remove_nil (k : ByteArray) (w : World) :
    Calls Try.prog 26 #[.pointer none, .string k] w fun e w' => e = .returned (.int .i64 1) ∧ Below w.heap.size w w' := by
  go_enter Try.func26, Try.ntmps26
  go_wp2_with fail
  refine (begin0_nil k w).mono ?_
  rintro e w1 ⟨rfl, hb1⟩
  obtain ⟨W2, hW2⟩ : ∃ W2, W2 = w1.alloc (.cells #[.slice none 0 0, .int .i64 0, .bool false] 69) := ⟨_, rfl⟩
  have hb2 : Below w1.heap.size w1 W2 := by rw [hW2]; exact (Below.refl _ _).alloc (Nat.le_refl _) _
  have HB2 : Hid (Below w.heap.size w W2) := Lib.hid (hb1.trans (hb2.mono (hb1.size)))
  have HX2 : Hid (W2.heap[w1.heap.size]? = some (.cells #[.slice none 0 0, .int .i64 0, .bool false] 69 (0, 0))) := Lib.hid (by rw [hW2]; exact Deep.blk_alloc_new _ _)
  have HA : Hid ((w1.alloc (.cells #[.slice none 0 0, .int .i64 0, .bool false] 69)).heap[w1.heap.size]? = some (.cells #[.slice none 0 0, .int .i64 0, .bool false] 69 (0, 0))) := Lib.hid (Deep.blk_alloc_new _ _)
  have HW2 : Hid (W2 = (w1.alloc (.cells #[.slice none 0 0, .int .i64 0, .bool false] 69)).setRow w1.heap.size #[.slice none 0 0, .int .i64 0, .bool false]) := Lib.hid (by rw [hW2]; exact (alloc_setRow _ _ _ _).symm)
  have HSb : Hid ((Try.prog.info? 69).map (fun i => i.size) = some 3) := Lib.hid (by kernel_rfl)
  clear hb1 hW2 hb2
  have y0 := cell_of_row _ _ 0 _ _ _ HX2.out
  have y1 := cell_of_row _ _ 1 _ _ _ HX2.out
  have y2 := cell_of_row _ _ 2 _ _ _ HX2.out
  simp at y0 y1 y2
  rw [HW2.out] at y0 y1 y2
  go_wp2_with (refine wpList_store_row rfl _ _ _ rfl w1.heap.size #[.slice none 0 0, .int .i64 0, .bool false] rfl rfl 69 _ HA.out HSb.out rfl (one_file default) ?_)
  try rw [← HW2.out]
  go_ret
  exact ⟨rfl, HB2.out⟩
set_option maxRecDepth 100000 in
set_option maxHeartbeats 4000000 in
theorem rename_nil (k k2 : ByteArray) (w : World) :
    Calls Try.prog 25 #[.pointer none, .string k, .string k2] w fun e w' => e = .returned (.int .i64 1) ∧ Below w.heap.size w w' := by
  obtain ⟨W0, hW0⟩ : ∃ W0 : World, W0 = w.alloc (.cells #[.string k2] 9) := ⟨_, rfl⟩
  have hb0 : Below w.heap.size w W0 := by rw [hW0]; exact (Below.refl _ _).alloc (Nat.le_refl _) _
  have hk0 : W0.heap[w.heap.size]? = some (.cells #[.string k2] 9 (0, 0)) := by rw [hW0]; exact Deep.blk_alloc_new _ _
  have hO : W0.ownsRow w.heap.size 9 1 (.slice (some ⟨w.heap.size, 0, none⟩) 1 1) 1 ([k2].map Value.string) := ⟨rfl, .inr ⟨w.heap.size, 1, #[.string k2], rfl, Nat.le_refl _, hk0, Nat.le_refl _, by unfold maxLen; decide, rfl, rfl⟩⟩
  have HBg := Lib.hid (begin1_nil k ⟨w.heap.size, 0, none⟩ 1 k2 W0 (Rd.own hO))
  have HB0 := Lib.hid hb0
  have HW0 := Lib.hid hW0
  clear hW0 hb0 hk0 hO
  go_enter Try.func25, Try.ntmps25
  go_wp2_with fail
  rw [← HW0.out]
  refine HBg.out.mono ?_
  rintro e w1 ⟨rfl, hb1⟩
  obtain ⟨W2, hW2⟩ : ∃ W2, W2 = w1.alloc (.cells #[.slice none 0 0, .int .i64 0, .bool false] 69) := ⟨_, rfl⟩
  have hb2 : Below w1.heap.size w1 W2 := by rw [hW2]; exact (Below.refl _ _).alloc (Nat.le_refl _) _
  have HB2 : Hid (Below w.heap.size w W2) := Lib.hid ((HB0.out.trans (hb1.mono HB0.out.size)).trans (hb2.mono (Nat.le_trans HB0.out.size hb1.size)))
  have HX2 : Hid (W2.heap[w1.heap.size]? = some (.cells #[.slice none 0 0, .int .i64 0, .bool false] 69 (0, 0))) := Lib.hid (by rw [hW2]; exact Deep.blk_alloc_new _ _)
  have HA : Hid ((w1.alloc (.cells #[.slice none 0 0, .int .i64 0, .bool false] 69)).heap[w1.heap.size]? = some (.cells #[.slice none 0 0, .int .i64 0, .bool false] 69 (0, 0))) := Lib.hid (Deep.blk_alloc_new _ _)
  have HW2 : Hid (W2 = (w1.alloc (.cells #[.slice none 0 0, .int .i64 0, .bool false] 69)).setRow w1.heap.size #[.slice none 0 0, .int .i64 0, .bool false]) := Lib.hid (by rw [hW2]; exact (alloc_setRow _ _ _ _).symm)
  have HSb : Hid ((Try.prog.info? 69).map (fun i => i.size) = some 3) := Lib.hid (by kernel_rfl)
  clear hb1 hW2 hb2
  have y0 := cell_of_row _ _ 0 _ _ _ HX2.out
  have y1 := cell_of_row _ _ 1 _ _ _ HX2.out
  have y2 := cell_of_row _ _ 2 _ _ _ HX2.out
  simp at y0 y1 y2
  rw [HW2.out] at y0 y1 y2
  go_wp2_with (refine wpList_store_row rfl _ _ _ rfl w1.heap.size #[.slice none 0 0, .int .i64 0, .bool false] rfl rfl 69 _ HA.out HSb.out rfl (one_file default) ?_)
  try rw [← HW2.out]
  go_ret
  exact ⟨rfl, HB2.out⟩
set_option maxRecDepth 100000 in
set_option maxHeartbeats 4000000 in
theorem read_nil (k : ByteArray) (w : World) :
    Calls Try.prog 20 #[.pointer none, .string k] w fun e w' => e = .returned (.tuple #[.string ⟨#[]⟩, .int .i64 1]) ∧ Below w.heap.size w w' := by
  go_enter Try.func20, Try.ntmps20
  go_wp2_with fail
  refine (find0_nil k w).mono ?_
  rintro e w1 ⟨rfl, hb1⟩
  obtain ⟨W2, hW2⟩ : ∃ W2, W2 = w1.alloc (.cells #[.slice none 0 0, .int .i64 0, .bool false] 69) := ⟨_, rfl⟩
  have hb2 : Below w1.heap.size w1 W2 := by rw [hW2]; exact (Below.refl _ _).alloc (Nat.le_refl _) _
  have HB2 : Hid (Below w.heap.size w W2) := Lib.hid (hb1.trans (hb2.mono (hb1.size)))
  have HX2 : Hid (W2.heap[w1.heap.size]? = some (.cells #[.slice none 0 0, .int .i64 0, .bool false] 69 (0, 0))) := Lib.hid (by rw [hW2]; exact Deep.blk_alloc_new _ _)
  have HA : Hid ((w1.alloc (.cells #[.slice none 0 0, .int .i64 0, .bool false] 69)).heap[w1.heap.size]? = some (.cells #[.slice none 0 0, .int .i64 0, .bool false] 69 (0, 0))) := Lib.hid (Deep.blk_alloc_new _ _)
  have HW2 : Hid (W2 = (w1.alloc (.cells #[.slice none 0 0, .int .i64 0, .bool false] 69)).setRow w1.heap.size #[.slice none 0 0, .int .i64 0, .bool false]) := Lib.hid (by rw [hW2]; exact (alloc_setRow _ _ _ _).symm)
  have HSb : Hid ((Try.prog.info? 69).map (fun i => i.size) = some 3) := Lib.hid (by kernel_rfl)
  clear hb1 hW2 hb2
  have y0 := cell_of_row _ _ 0 _ _ _ HX2.out
  have y1 := cell_of_row _ _ 1 _ _ _ HX2.out
  have y2 := cell_of_row _ _ 2 _ _ _ HX2.out
  simp at y0 y1 y2
  rw [HW2.out] at y0 y1 y2
  have q0 := conv_none 0 W2
  rw [HW2.out] at q0
  go_wp2_with (refine wpList_store_row rfl _ _ _ rfl w1.heap.size #[.slice none 0 0, .int .i64 0, .bool false] rfl rfl 69 _ HA.out HSb.out rfl (one_file default) ?_)
  try rw [← HW2.out]
  refine bodyPost_ret (results_tmp2 rfl _ _ _) rfl ⟨?_, HB2.out⟩
  rfl
set_option maxRecDepth 100000 in
set_option maxHeartbeats 4000000 in
theorem durable_nil (k : ByteArray) (w : World) :
    Calls Try.prog 33 #[.pointer none, .string k] w fun e w' => e = .returned (.tuple #[.string ⟨#[]⟩, .int .i64 1]) ∧ Below w.heap.size w w' := by
  go_enter Try.func33, Try.ntmps33
  go_wp2_with fail
  refine (find0_nil k w).mono ?_
  rintro e w1 ⟨rfl, hb1⟩
  obtain ⟨W2, hW2⟩ : ∃ W2, W2 = w1.alloc (.cells #[.slice none 0 0, .int .i64 0, .bool false] 69) := ⟨_, rfl⟩
  have hb2 : Below w1.heap.size w1 W2 := by rw [hW2]; exact (Below.refl _ _).alloc (Nat.le_refl _) _
  have HB2 : Hid (Below w.heap.size w W2) := Lib.hid (hb1.trans (hb2.mono (hb1.size)))
  have HX2 : Hid (W2.heap[w1.heap.size]? = some (.cells #[.slice none 0 0, .int .i64 0, .bool false] 69 (0, 0))) := Lib.hid (by rw [hW2]; exact Deep.blk_alloc_new _ _)
  have HA : Hid ((w1.alloc (.cells #[.slice none 0 0, .int .i64 0, .bool false] 69)).heap[w1.heap.size]? = some (.cells #[.slice none 0 0, .int .i64 0, .bool false] 69 (0, 0))) := Lib.hid (Deep.blk_alloc_new _ _)
  have HW2 : Hid (W2 = (w1.alloc (.cells #[.slice none 0 0, .int .i64 0, .bool false] 69)).setRow w1.heap.size #[.slice none 0 0, .int .i64 0, .bool false]) := Lib.hid (by rw [hW2]; exact (alloc_setRow _ _ _ _).symm)
  have HSb : Hid ((Try.prog.info? 69).map (fun i => i.size) = some 3) := Lib.hid (by kernel_rfl)
  clear hb1 hW2 hb2
  have y0 := cell_of_row _ _ 0 _ _ _ HX2.out
  have y1 := cell_of_row _ _ 1 _ _ _ HX2.out
  have y2 := cell_of_row _ _ 2 _ _ _ HX2.out
  simp at y0 y1 y2
  rw [HW2.out] at y0 y1 y2
  have q0 := conv_none 0 W2
  rw [HW2.out] at q0
  go_wp2_with (refine wpList_store_row rfl _ _ _ rfl w1.heap.size #[.slice none 0 0, .int .i64 0, .bool false] rfl rfl 69 _ HA.out HSb.out rfl (one_file default) ?_)
  try rw [← HW2.out]
  refine bodyPost_ret (results_tmp2 rfl _ _ _) rfl ⟨?_, HB2.out⟩
  rfl
set_option maxRecDepth 100000 in
set_option maxHeartbeats 4000000 in
theorem down_nil (w : World) :
    Calls Try.prog 27 #[.pointer none] w fun e w' => e = .returned (.bool false) ∧ Below w.heap.size w w' := by
  go_enter Try.func27, Try.ntmps27
  go_wp2_with fail
  go_ret
  exact ⟨rfl, Below.refl _ _⟩
set_option maxRecDepth 100000 in
set_option maxHeartbeats 4000000 in
theorem limit_nil (n : Int) (w : World) :
    Calls Try.prog 21 #[.pointer none, .int .i64 n] w fun e w' => e = .returned (.tuple #[]) ∧ Below w.heap.size w w' := by
  go_enter Try.func21, Try.ntmps21
  go_wp2_with fail
  first
  | (refine bodyPost_end (results_none rfl _ _ _) rfl ?_; exact ⟨rfl, Below.refl _ _⟩)
  | (refine bodyPost_ret (results_none rfl _ _ _) rfl ?_; exact ⟨rfl, Below.refl _ _⟩)
set_option maxRecDepth 100000 in
set_option maxHeartbeats 4000000 in
theorem crash_nil (w : World) :
    Calls Try.prog 17 #[.pointer none] w fun e w' => e = .returned (.tuple #[]) ∧ Below w.heap.size w w' := by
  go_enter Try.func17, Try.ntmps17
  go_wp2_with fail
  refine bodyPost_end (results_none rfl _ _ _) rfl ?_
  exact ⟨rfl, Below.refl _ _⟩
set_option maxRecDepth 100000 in
set_option maxHeartbeats 4000000 in
theorem start_nil (v : Value) (w : World) :
    Calls Try.prog 18 #[.pointer none, v] w fun e w' => e = .returned (.tuple #[]) ∧ Below w.heap.size w w' := by
  go_enter Try.func18, Try.ntmps18
  go_wp2_with fail
  refine (down_nil _).mono ?_
  rintro e w1 ⟨rfl, hb⟩
  have HB := Lib.hid hb
  clear hb
  go_wp2_with fail
  refine bodyPost_ret (results_none rfl _ _ _) rfl ?_
  exact ⟨rfl, HB.out⟩
set_option maxRecDepth 100000 in
set_option maxHeartbeats 4000000 in
theorem list_nil (w : World) :
    Calls Try.prog 19 #[.pointer none] w fun e w' => e = .returned (.slice none 0 0) ∧ Below w.heap.size w w' := by
  go_enter Try.func19, Try.ntmps19
  go_wp2_with fail
  refine (check_nil _ _).mono ?_
  rintro e w1 ⟨rfl, hb⟩
  have HB := Lib.hid hb
  clear hb
  go_wp2_with fail
  go_ret
  exact ⟨rfl, HB.out⟩
set_option maxRecDepth 100000 in
set_option maxHeartbeats 4000000 in
theorem used_nil (w : World) :
    Calls Try.prog 32 #[.pointer none] w fun e w' => e = .returned (.int .i64 0) ∧ Below w.heap.size w w' := by
  go_enter Try.func32, Try.ntmps32
  go_wp2_with fail
  refine (check_nil _ _).mono ?_
  rintro e w1 ⟨rfl, hb⟩
  have HB := Lib.hid hb
  clear hb
  go_wp2_with fail
  go_ret
  exact ⟨rfl, HB.out⟩
set_option maxRecDepth 100000 in
set_option maxHeartbeats 4000000 in
theorem cap_nil (w : World) :
    Calls Try.prog 34 #[.pointer none] w fun e w' => e = .returned (.int .i64 0) ∧ Below w.heap.size w w' := by
  go_enter Try.func34, Try.ntmps34
  go_wp2_with fail
  go_ret
  exact ⟨rfl, Below.refl _ _⟩
set_option maxRecDepth 100000 in
set_option maxHeartbeats 4000000 in
theorem clone_nil (w : World) :
    Calls Try.prog 28 #[.pointer none] w fun e w' => e = .returned (.pointer none) ∧ Below w.heap.size w w' := by
  go_enter Try.func28, Try.ntmps28
  go_wp2_with fail
  go_ret
  exact ⟨rfl, Below.refl _ _⟩
set_option maxRecDepth 100000 in
set_option maxHeartbeats 4000000 in
theorem equal_nn (w : World) :
    Calls Try.prog 29 #[.pointer none, .pointer none] w fun e w' => e = .returned (.bool true) ∧ Below w.heap.size w w' := by
  go_enter Try.func29, Try.ntmps29
  go_wp2_with fail
  go_ret
  exact ⟨rfl, Below.refl _ _⟩
set_option maxRecDepth 100000 in
set_option maxHeartbeats 4000000 in
theorem equal_np (p : Nat) (w : World) :
    Calls Try.prog 29 #[.pointer none, .pointer (some ⟨p, 0, none⟩)] w fun e w' => e = .returned (.bool false) ∧ Below w.heap.size w w' := by
  have q0 := run_eql_nil_some 23 ⟨p, 0, none⟩ w (by kernel_rfl)
  go_enter Try.func29, Try.ntmps29
  go_wp2_with fail
  go_ret
  exact ⟨rfl, Below.refl _ _⟩
set_option maxRecDepth 100000 in
set_option maxHeartbeats 4000000 in
theorem equal_pn (p : Nat) (w : World) :
    Calls Try.prog 29 #[.pointer (some ⟨p, 0, none⟩), .pointer none] w fun e w' => e = .returned (.bool false) ∧ Below w.heap.size w w' := by
  go_enter Try.func29, Try.ntmps29
  go_wp2_with fail
  go_ret
  exact ⟨rfl, Below.refl _ _⟩
set_option maxRecDepth 100000 in
set_option maxHeartbeats 4000000 in
theorem append_nil (k data : ByteArray) (w : World) :
    Calls Try.prog 24 #[.pointer none, .string k, .string data] w fun e w' => e = .returned (.int .i64 1) ∧ Below w.heap.size w w' := by
  go_enter Try.func24, Try.ntmps24
  go_wp2_with fail
  refine (check_nil _ _).mono ?_
  rintro e w1 ⟨rfl, hb⟩
  have HB2 : Hid (Below w.heap.size w w1) := Lib.hid (((Below.refl w.heap.size w).alloc (Nat.le_refl _) _).trans (hb.mono (by simp)))
  clear hb
  go_wp2_with fail
  go_ret
  exact ⟨rfl, HB2.out⟩
end Go.Proofs.Ytjajmlamlmnljaa
