/- The reference's form of a span (written by wip/bin/gen_ri.py). -/
import Derived.Test.YtepcihfkkeahhaaRh
namespace Go.Proofs.Ytepcihfkkeahhaa
open Go.ChangeShapes Go.WideShapes Go.ChangeAt Go.RowKit En

theorem boolF_le (b : Bool) : (bytesOf (boolF b)).size ≤ 9 := by rw [bytesOf_size]; exact boolF_bound b
set_option maxRecDepth 100000 in
set_option maxHeartbeats 4000000 in
theorem ref_span (s : Sp) (hs : s.Ok) (va vl : Value) (w : World) (hR : s.Has w w.heap.size va vl) :
    Calls Try.prog 28 #[.agg (s.cells va vl)] w fun e w' => e = .returned (.string (bytesOf s.form)) ∧ Below w.heap.size w w' := by
  obtain ⟨A, ca, A2, cl, rfl, rfl, hA, hL⟩ := hR
  obtain ⟨t, i, p, r, c, k, sv, ve, op, st, en, er, al, ls⟩ := s
  obtain ⟨o1, o2, o3, o4, o5, o6, o7, o8, o9, o10, o11⟩ := hs
  unfold Sp.form
  unfold Sp.cells
  dsimp only at o1 o2 o3 o4 o5 o6 o7 o8 o9 o10 o11 hA hL ⊢

  have ht : In64 t := o1 _ (by simp)
  have hi : In64 i := o1 _ (by simp)
  have hp : In64 p := o1 _ (by simp)
  have hr : In64 r := o1 _ (by simp)
  have hc : In64 c := o1 _ (by simp)
  have hk : In64 k := o1 _ (by simp)
  have hst : In64 st := o5 _ (by simp)
  have hen : In64 en := o5 _ (by simp)
  have lt := num_le t ht
  have li := num_le i hi
  have lp := num_le p hp
  have lr := num_le r hr
  have lc := num_le c hc
  have lk := num_le k hk
  have lsv := text_le sv o2
  have lve := text_le ve o3
  have lop := text_le op o4
  have lst := num_le st hst
  have len_ := num_le en hen
  have ler := boolF_le er
  have hal : In64 (al.length : Int) := ⟨by omega, by omega⟩
  have hls : In64 (ls.length : Int) := ⟨by omega, by omega⟩
  have lal := num_le _ hal
  have lls := num_le _ hls
  have e1 : bytesOf (num t) ++ bytesOf (num i) ++ bytesOf (num p) ++ bytesOf (num r) ++ bytesOf (num c) ++ bytesOf (num k) = bytesOf (nums [t, i, p, r, c, k]) := by simp only [bytesOf_append]; simp [nums]
  obtain ⟨FF, hFF⟩ : ∃ F, F = nums [t, i, p, r, c, k] ++ (text sv ++ (text ve ++ (text op ++ (nums [st, en] ++ (boolF er ++ ((num (al.length : Int) ++ atForms al) ++ (num (ls.length : Int) ++ rfForms ls))))))) := ⟨_, rfl⟩
  rw [← hFF]
  have E1 := Lib.hid e1
  have EF := Lib.hid hFF
  have HAt := Lib.hid hA
  have HLs := Lib.hid hL
  have O6 := Lib.hid o6
  have O7 := Lib.hid o7
  have O10 := Lib.hid o10
  have O11 := Lib.hid o11
  have B1 : Hid ((bytesOf (nums [t, i, p, r, c, k])).size ≤ 54) := Lib.hid (by have := nums_len _ o1; rw [bytesOf_size]; simpa using this)
  clear e1 hFF hA hL o6 o7 o10 o11 o1 o5
  have hblk := Deep.blk_alloc_new w (.cells #[.int .i64 t, .int .i64 i, .int .i64 p, .int .i64 r, .int .i64 c, .int .i64 k, .string sv, .string ve, .string op, .int .i64 st, .int .i64 en, .bool er, .slice A al.length ca, .slice A2 ls.length cl] 54)
  have Hblk := Lib.hid hblk
  have cG0 : ∀ d os, (Go.Sort.grow (redrawn (w.alloc (.cells #[.int .i64 t, .int .i64 i, .int .i64 p, .int .i64 r, .int .i64 c, .int .i64 k, .string sv, .string ve, .string op, .int .i64 st, .int .i64 en, .bool er, .slice A al.length ca, .slice A2 ls.length cl] 54)) d) os).cell? ⟨w.heap.size, 0, none⟩ = some (.int .i64 t) := fun d os => cell_regrown (cell_of_row _ w.heap.size 0 _ _ _ hblk) d os
  have cG1 : ∀ d os, (Go.Sort.grow (redrawn (w.alloc (.cells #[.int .i64 t, .int .i64 i, .int .i64 p, .int .i64 r, .int .i64 c, .int .i64 k, .string sv, .string ve, .string op, .int .i64 st, .int .i64 en, .bool er, .slice A al.length ca, .slice A2 ls.length cl] 54)) d) os).cell? ⟨w.heap.size, 1, none⟩ = some (.int .i64 i) := fun d os => cell_regrown (cell_of_row _ w.heap.size 1 _ _ _ hblk) d os
  have cG2 : ∀ d os, (Go.Sort.grow (redrawn (w.alloc (.cells #[.int .i64 t, .int .i64 i, .int .i64 p, .int .i64 r, .int .i64 c, .int .i64 k, .string sv, .string ve, .string op, .int .i64 st, .int .i64 en, .bool er, .slice A al.length ca, .slice A2 ls.length cl] 54)) d) os).cell? ⟨w.heap.size, 2, none⟩ = some (.int .i64 p) := fun d os => cell_regrown (cell_of_row _ w.heap.size 2 _ _ _ hblk) d os
  have cG3 : ∀ d os, (Go.Sort.grow (redrawn (w.alloc (.cells #[.int .i64 t, .int .i64 i, .int .i64 p, .int .i64 r, .int .i64 c, .int .i64 k, .string sv, .string ve, .string op, .int .i64 st, .int .i64 en, .bool er, .slice A al.length ca, .slice A2 ls.length cl] 54)) d) os).cell? ⟨w.heap.size, 3, none⟩ = some (.int .i64 r) := fun d os => cell_regrown (cell_of_row _ w.heap.size 3 _ _ _ hblk) d os
  have cG4 : ∀ d os, (Go.Sort.grow (redrawn (w.alloc (.cells #[.int .i64 t, .int .i64 i, .int .i64 p, .int .i64 r, .int .i64 c, .int .i64 k, .string sv, .string ve, .string op, .int .i64 st, .int .i64 en, .bool er, .slice A al.length ca, .slice A2 ls.length cl] 54)) d) os).cell? ⟨w.heap.size, 4, none⟩ = some (.int .i64 c) := fun d os => cell_regrown (cell_of_row _ w.heap.size 4 _ _ _ hblk) d os
  have cG5 : ∀ d os, (Go.Sort.grow (redrawn (w.alloc (.cells #[.int .i64 t, .int .i64 i, .int .i64 p, .int .i64 r, .int .i64 c, .int .i64 k, .string sv, .string ve, .string op, .int .i64 st, .int .i64 en, .bool er, .slice A al.length ca, .slice A2 ls.length cl] 54)) d) os).cell? ⟨w.heap.size, 5, none⟩ = some (.int .i64 k) := fun d os => cell_regrown (cell_of_row _ w.heap.size 5 _ _ _ hblk) d os
  have CN : Hid (NumC (w.alloc (.cells #[.int .i64 t, .int .i64 i, .int .i64 p, .int .i64 r, .int .i64 c, .int .i64 k, .string sv, .string ve, .string op, .int .i64 st, .int .i64 en, .bool er, .slice A al.length ca, .slice A2 ls.length cl] 54))) := Lib.hid (num_c _)
  clear hblk
  go_enter Try.func28, Try.ntmps28
  go_wp2_with fail
  refine wp_region_quiet_below (by kernel_rfl) (by kernel_rfl) ?_
  repeat (go_big_quiet_step ((exact CN.out _ _ _ (by assumption))))
  refine wpQuiet_nil ?_
  intro _ hw'
  obtain ⟨⟨dq, osq⟩, hw''⟩ := hw'
  subst hw''
  have HB1 : Hid (Below (w.heap.size + 1) (w.alloc (.cells #[.int .i64 t, .int .i64 i, .int .i64 p, .int .i64 r, .int .i64 c, .int .i64 k, .string sv, .string ve, .string op, .int .i64 st, .int .i64 en, .bool er, .slice A al.length ca, .slice A2 ls.length cl] 54)) (Go.Sort.grow (redrawn (w.alloc (.cells #[.int .i64 t, .int .i64 i, .int .i64 p, .int .i64 r, .int .i64 c, .int .i64 k, .string sv, .string ve, .string op, .int .i64 st, .int .i64 en, .bool er, .slice A al.length ca, .slice A2 ls.length cl] 54)) dq) osq)) := Lib.hid ((below_regrown (w.alloc (.cells #[.int .i64 t, .int .i64 i, .int .i64 p, .int .i64 r, .int .i64 c, .int .i64 k, .string sv, .string ve, .string op, .int .i64 st, .int .i64 en, .bool er, .slice A al.length ca, .slice A2 ls.length cl] 54)) dq osq).mono (by simp))
  clear cG0 cG1 cG2 cG3 cG4 cG5 CN
  generalize Go.Sort.grow (redrawn (w.alloc (.cells #[.int .i64 t, .int .i64 i, .int .i64 p, .int .i64 r, .int .i64 c, .int .i64 k, .string sv, .string ve, .string op, .int .i64 st, .int .i64 en, .bool er, .slice A al.length ca, .slice A2 ls.length cl] 54)) dq) osq = w1 at *
  generalize hX1 : bytesOf (num t) ++ bytesOf (num i) ++ bytesOf (num p) ++ bytesOf (num r) ++ bytesOf (num c) ++ bytesOf (num k) = X1 at *
  have E1' := E1.out
  have l1 : X1.size ≤ 54 := by rw [E1']; exact B1.out
  have HX1 := Lib.hid E1'
  have Hblk1 := Lib.hid ((HB1.out.block w.heap.size (Nat.lt_succ_self _)).trans Hblk.out)
  clear hX1 E1' E1
  have cG6 : ∀ d os, (Go.Sort.grow (redrawn w1 d) os).cell? ⟨w.heap.size, 6, none⟩ = some (.string sv) := fun d os => cell_regrown (cell_of_row _ w.heap.size 6 _ _ _ Hblk1.out) d os
  have cG7 : ∀ d os, (Go.Sort.grow (redrawn w1 d) os).cell? ⟨w.heap.size, 7, none⟩ = some (.string ve) := fun d os => cell_regrown (cell_of_row _ w.heap.size 7 _ _ _ Hblk1.out) d os
  have cG8 : ∀ d os, (Go.Sort.grow (redrawn w1 d) os).cell? ⟨w.heap.size, 8, none⟩ = some (.string op) := fun d os => cell_regrown (cell_of_row _ w.heap.size 8 _ _ _ Hblk1.out) d os
  have cG9 : ∀ d os, (Go.Sort.grow (redrawn w1 d) os).cell? ⟨w.heap.size, 9, none⟩ = some (.int .i64 st) := fun d os => cell_regrown (cell_of_row _ w.heap.size 9 _ _ _ Hblk1.out) d os
  have cG10 : ∀ d os, (Go.Sort.grow (redrawn w1 d) os).cell? ⟨w.heap.size, 10, none⟩ = some (.int .i64 en) := fun d os => cell_regrown (cell_of_row _ w.heap.size 10 _ _ _ Hblk1.out) d os
  have cG11 : ∀ d os, (Go.Sort.grow (redrawn w1 d) os).cell? ⟨w.heap.size, 11, none⟩ = some (.bool er) := fun d os => cell_regrown (cell_of_row _ w.heap.size 11 _ _ _ Hblk1.out) d os
  have CN : Hid (NumC w1) := Lib.hid (num_c _)
  have CT : Hid (TextC w1) := Lib.hid (text_c _)
  have CB : Hid (BoolC w1) := Lib.hid (bool_c _)
  go_wp2_with fail
  refine wp_region_quiet_below (by kernel_rfl) (by kernel_rfl) ?_
  repeat (go_big_quiet_step ((first | (go_at_call 16; exact CN.out _ _ _ (by assumption)) | (go_at_call 66; exact CT.out _ _ _ (by assumption)) | (go_at_call 65; exact CB.out _ _ _))))
  refine wpQuiet_nil ?_
  intro _ hw'
  obtain ⟨⟨dq2, osq2⟩, hw''⟩ := hw'
  subst hw''
  have HB2 : Hid (Below (w.heap.size + 1) (w.alloc (.cells #[.int .i64 t, .int .i64 i, .int .i64 p, .int .i64 r, .int .i64 c, .int .i64 k, .string sv, .string ve, .string op, .int .i64 st, .int .i64 en, .bool er, .slice A al.length ca, .slice A2 ls.length cl] 54)) (Go.Sort.grow (redrawn w1 dq2) osq2)) := Lib.hid (HB1.out.trans ((below_regrown w1 dq2 osq2).mono (by have := HB1.out.size; simp at this; omega)))
  clear cG6 cG7 cG8 cG9 cG10 cG11 CN CT CB
  generalize Go.Sort.grow (redrawn w1 dq2) osq2 = w2 at *
  have e2 : X1 ++ bytesOf (text sv) ++ bytesOf (text ve) ++ bytesOf (text op) ++ bytesOf (num st) ++ bytesOf (num en) ++ bytesOf (boolF er) = bytesOf (nums [t, i, p, r, c, k] ++ (text sv ++ (text ve ++ (text op ++ (nums [st, en] ++ boolF er))))) := by
    rw [HX1.out]; simp only [bytesOf_append]; simp [nums]
  generalize hX2 : X1 ++ bytesOf (text sv) ++ bytesOf (text ve) ++ bytesOf (text op) ++ bytesOf (num st) ++ bytesOf (num en) ++ bytesOf (boolF er) = X2 at *
  have l2 : X2.size ≤ 40000 := by
    rw [← hX2]; simp only [ByteArray.size_append]; omega
  have HX2 := Lib.hid e2
  have Hblk2 := Lib.hid ((HB2.out.block w.heap.size (Nat.lt_succ_self _)).trans Hblk.out)
  have c12 : w2.cell? ⟨w.heap.size, 12, none⟩ = some (.slice A al.length ca) := by rw [cell_of_row w2 w.heap.size 12 _ _ _ Hblk2.out]; rfl
  have HN := Lib.hid (fun W => ref_number (al.length : Int) hal W)
  have HN2 := Lib.hid (fun W => ref_number (ls.length : Int) hls W)
  clear hX2 e2 HX1 l1
  go_wp2_with fail
  refine (HN.out w2).mono ?_
  rintro e w3 ⟨rfl, hb3⟩
  have HB3 : Hid (Below (w.heap.size + 1) (w.alloc (.cells #[.int .i64 t, .int .i64 i, .int .i64 p, .int .i64 r, .int .i64 c, .int .i64 k, .string sv, .string ve, .string op, .int .i64 st, .int .i64 en, .bool er, .slice A al.length ca, .slice A2 ls.length cl] 54)) w3) := Lib.hid (HB2.out.trans (hb3.mono (by have := HB2.out.size; simp at this; omega)))
  clear hb3 c12
  have lX3 : (bytesOf (num (al.length : Int))).size ≤ 9 := lal
  change (bytesOf (num (al.length : Int))).size ≤ 9 at lal
  have Hblk3 := Lib.hid ((HB3.out.block w.heap.size (Nat.lt_succ_self _)).trans Hblk.out)
  generalize hN3 : (⟨(num (al.length : Int)).toArray⟩ : ByteArray) = N3 at *
  have l3 : N3.size ≤ 9 := by rw [← hN3]; exact lal
  have HN3 : Hid (N3 = bytesOf (num (al.length : Int))) := Lib.hid hN3.symm
  clear hN3
  go_wp2_with fail
  go_loopw [3, 4] (fun u iv wr => ∃ (j : Nat) (X : ByteArray), j ≤ al.length ∧ iv = .int .i64 (j : Int) ∧ u = .string X ∧ X.size ≤ 300000 ∧ Hid (X = X2 ++ N3 ++ bytesOf (atForms (al.take j))) ∧ Hid (Below (w.heap.size + 1) (w.alloc (.cells #[.int .i64 t, .int .i64 i, .int .i64 p, .int .i64 r, .int .i64 c, .int .i64 k, .string sv, .string ve, .string op, .int .i64 st, .int .i64 en, .bool er, .slice A al.length ca, .slice A2 ls.length cl] 54)) wr)) (fun _ iv _ => al.length - (intOf iv).toNat)
  case atStart =>
    refine ⟨0, X2 ++ N3, Nat.zero_le _, rfl, rfl, by rw [ByteArray.size_append]; omega, Lib.hid ?_, HB3⟩
    rw [show bytesOf (atForms (al.take 0)) = ByteArray.empty from rfl, ByteArray.append_empty]
  case round =>
    obtain ⟨j, X, hj, rfl, rfl, hXs, HX, HB⟩ := hrel
    have hbs : w.heap.size + 1 ≤ wr.heap.size := by have := HB.out.size; simpa using this
    have Hblkr := Lib.hid ((HB.out.block w.heap.size (Nat.lt_succ_self _)).trans Hblk.out)
    have c12 : wr.cell? ⟨w.heap.size, 12, none⟩ = some (.slice A al.length ca) := by rw [cell_of_row wr w.heap.size 12 _ _ _ Hblkr.out]; rfl
    have HBw : Hid (Below w.heap.size w wr) := Lib.hid (((Below.refl _ _).alloc (Nat.le_refl _) _).trans (HB.out.mono (Nat.le_succ _)))
    by_cases hlt : j < al.length
    · obtain ⟨b, off, rfl, hb, h0, h1, h2, h3⟩ := at_cells (HAt.out.below HBw.out) j hlt
      have ok := O6.out _ (List.getElem_mem hlt)
      have Hts := Lib.hid (take_snocA al j hlt)
      have hfl := Nat.le_trans (atForms_take al (j + 1)) O10.out
      rw [Hts.out, atForms_snoc, List.length_append] at hfl
      obtain ⟨⟨key, kd, tx, n⟩, ha⟩ : ∃ a, a = al[j] := ⟨_, rfl⟩
      rw [← ha] at h0 h1 h2 h3 ok Hts hfl
      obtain ⟨ok1, ok2, ok3, ok4⟩ := ok
      dsimp only at h0 h1 h2 h3 ok1 ok2 ok3 ok4
      have hca := ref_attr key kd tx n ok1 ok3 ok2 ok4 wr
      obtain ⟨Y, hY⟩ : ∃ Y, Y = bytesOf (attrF key kd tx n) := ⟨_, rfl⟩
      rw [← hY] at hca
      have hYs : Y.size ≤ 21000 := by rw [hY, bytesOf_size]; exact At.form_len (a := ⟨key, kd, tx, n⟩) ⟨ok1, ok2, ok3, ok4⟩
      have hXY : X.size + Y.size ≤ 300000 := by
        rw [HX.out, hY]; simp only [ByteArray.size_append, bytesOf_size]
        have : (attrF key kd tx n).length = (At.form ⟨key, kd, tx, n⟩).length := rfl
        omega
      have HY := Lib.hid hY
      clear ha hY hfl
      go_wp2_with fail
      refine hca.mono ?_
      rintro e w4 ⟨rfl, hb4⟩
      have HB4 := Lib.hid (HB.out.trans (hb4.mono hbs))
      clear hb4 hca
      go_wp2_with fail
      go_roundw
      case rel =>
        refine ⟨j + 1, X ++ Y, by omega, by go_num, rfl, by rw [ByteArray.size_append]; omega, Lib.hid ?_, HB4⟩
        rw [Hts.out, atForms_snoc, ← bytesOf_append, ← ByteArray.append_assoc, ← HX.out, HY.out]
        rfl
      case measure => simp [intOf]; omega
    · obtain rfl : j = al.length := by omega
      have HXX : Hid (X = X2 ++ N3 ++ bytesOf (atForms al)) := Lib.hid (by rw [HX.out, List.take_length])
      have c13 : wr.cell? ⟨w.heap.size, 13, none⟩ = some (.slice A2 ls.length cl) := by rw [cell_of_row wr w.heap.size 13 _ _ _ Hblkr.out]; rfl
      have hXs2 : X.size ≤ 250000 := by
        rw [HXX.out]; simp only [ByteArray.size_append, bytesOf_size]
        have := O10.out
        omega
      clear HX
      go_wp2_with fail
      refine (HN2.out wr).mono ?_
      rintro e w5 ⟨rfl, hb5⟩
      have HB5 : Hid (Below (w.heap.size + 1) (w.alloc (.cells #[.int .i64 t, .int .i64 i, .int .i64 p, .int .i64 r, .int .i64 c, .int .i64 k, .string sv, .string ve, .string op, .int .i64 st, .int .i64 en, .bool er, .slice A al.length ca, .slice A2 ls.length cl] 54)) w5) := Lib.hid (HB.out.trans (hb5.mono hbs))
      clear hb5 c12 c13
      change (bytesOf (num (ls.length : Int))).size ≤ 9 at lls
      generalize hN4 : (⟨(num (ls.length : Int)).toArray⟩ : ByteArray) = N4 at *
      have l4 : N4.size ≤ 9 := by rw [← hN4]; exact lls
      have HN4 : Hid (N4 = bytesOf (num (ls.length : Int))) := Lib.hid hN4.symm
      clear hN4
      go_wp2_with fail
      obtain ⟨wo, rfl⟩ : ∃ wo : World, wo = wr := ⟨_, rfl⟩
      go_loopw [3, 5] (fun u iv wr => ∃ (j : Nat) (Y : ByteArray), j ≤ ls.length ∧ iv = .int .i64 (j : Int) ∧ u = .string Y ∧ Y.size ≤ 600000 ∧ Hid (Y = X ++ N4 ++ bytesOf (rfForms (ls.take j))) ∧ Hid (Below (w.heap.size + 1) (w.alloc (.cells #[.int .i64 t, .int .i64 i, .int .i64 p, .int .i64 r, .int .i64 c, .int .i64 k, .string sv, .string ve, .string op, .int .i64 st, .int .i64 en, .bool er, .slice A al.length ca, .slice A2 ls.length cl] 54)) wr)) (fun _ iv _ => ls.length - (intOf iv).toNat)
      case atStart =>
        refine ⟨0, X ++ N4, Nat.zero_le _, rfl, rfl, by rw [ByteArray.size_append]; omega, Lib.hid ?_, HB5⟩
        rw [show bytesOf (rfForms (ls.take 0)) = ByteArray.empty from rfl, ByteArray.append_empty]
      case round =>
        obtain ⟨j2, Y, hj2, rfl, rfl, hYs, HY, HBr⟩ := hrel
        have hbs2 : w.heap.size + 1 ≤ wr.heap.size := by have := HBr.out.size; simpa using this
        have Hblkq := Lib.hid ((HBr.out.block w.heap.size (Nat.lt_succ_self _)).trans Hblk.out)
        have d13 : wr.cell? ⟨w.heap.size, 13, none⟩ = some (.slice A2 ls.length cl) := by rw [cell_of_row wr w.heap.size 13 _ _ _ Hblkq.out]; rfl
        have HBv : Hid (Below w.heap.size w wr) := Lib.hid (((Below.refl _ _).alloc (Nat.le_refl _) _).trans (HBr.out.mono (Nat.le_succ _)))
        by_cases hlt2 : j2 < ls.length
        · obtain ⟨b, off, rfl, hb, h0, h1⟩ := rf_cells (HLs.out.below HBv.out) j2 hlt2
          have ok := O7.out _ (List.getElem_mem hlt2)
          have Hts := Lib.hid (take_snocR ls j2 hlt2)
          have hfl := Nat.le_trans (rfForms_take ls (j2 + 1)) O11.out
          rw [Hts.out, rfForms_snoc, List.length_append] at hfl
          obtain ⟨⟨x, y⟩, ha⟩ : ∃ a, a = ls[j2] := ⟨_, rfl⟩
          rw [← ha] at h0 h1 ok Hts hfl
          obtain ⟨ok1, ok2⟩ := ok
          dsimp only at h0 h1 ok1 ok2
          have hca := ref_ref x y ok1 ok2 wr
          have hZs := ref_le x y ok1 ok2
          obtain ⟨Z, hZ⟩ : ∃ Y, Y = bytesOf (nums [x, y]) := ⟨_, rfl⟩
          rw [← hZ] at hca hZs
          have hXY : Y.size + Z.size ≤ 600000 := by
            rw [HY.out, hZ]; simp only [ByteArray.size_append, bytesOf_size]
            dsimp only at hfl
            omega
          have HZ := Lib.hid hZ
          clear ha hZ hfl
          go_wp2_with fail
          refine hca.mono ?_
          rintro e w6 ⟨rfl, hb6⟩
          have HB6 := Lib.hid (HBr.out.trans (hb6.mono hbs2))
          clear hb6 hca
          go_wp2_with fail
          go_roundw
          case rel =>
            refine ⟨j2 + 1, Y ++ Z, by omega, by go_num, rfl, by rw [ByteArray.size_append]; omega, Lib.hid ?_, HB6⟩
            rw [Hts.out, rfForms_snoc, ← bytesOf_append, ← ByteArray.append_assoc, ← HY.out, HZ.out]
          case measure => simp [intOf]; omega
        · obtain rfl : j2 = ls.length := by omega
          have HYY : Hid (Y = X ++ N4 ++ bytesOf (rfForms ls)) := Lib.hid (by rw [HY.out, List.take_length])
          clear HY
          go_wp2_with fail
          go_ret
          refine ⟨?_, HBv.out⟩
          have hfin : Y = bytesOf FF := by
            rw [HYY.out, HXX.out, HX2.out, HN3.out, HN4.out, EF.out]
            simp only [bytesOf_append]
            simp
          rw [← hfin]; rfl

end Go.Proofs.Ytepcihfkkeahhaa
