/- The reference's Spans, Fragment, Trace (written by wip/bin/gen_fe.py). -/
import Derived.Test.YtepcihfkkeahhaaFb
namespace Go.Proofs.Ytepcihfkkeahhaa
open Go.ChangeShapes Go.WideShapes Go.ChangeAt Go.RowKit En

set_option maxRecDepth 100000 in
set_option maxHeartbeats 4000000 in
theorem ref_spans (L : List Sv) (hL : L.length ≤ 4096) (hF : (spForms L).length ≤ 100000) (A : Option Addr) (c : Nat) (w : World) (hok : ∀ x ∈ L, x.1.Ok ∧ x.1.Has w w.heap.size x.2.1 x.2.2) (hR : Rs w w.heap.size A (spCells L)) :
    Calls Try.prog 87 #[.slice A L.length c] w fun e w' => e = .returned (.string (bytesOf (num L.length ++ spForms L))) ∧ Below w.heap.size w w' := by
  have hn : In64 (L.length : Int) := ⟨by omega, by omega⟩
  have ln := num_le _ hn
  have HN := Lib.hid (fun W => ref_number (L.length : Int) hn W)
  have Hok := Lib.hid hok
  have HR := Lib.hid hR
  have HF := Lib.hid hF
  clear hok hR hF
  change (bytesOf (num (L.length : Int))).size ≤ 9 at ln
  go_enter Try.func87, Try.ntmps87
  go_wp2_with fail
  refine (HN.out w).mono ?_
  rintro e w3 ⟨rfl, hb3⟩
  have HB3 := Lib.hid hb3
  clear hb3
  generalize hN3 : (⟨(num (L.length : Int)).toArray⟩ : ByteArray) = N3 at *
  have l3 : N3.size ≤ 9 := by rw [← hN3]; exact ln
  have HN3 : Hid (N3 = bytesOf (num (L.length : Int))) := Lib.hid hN3.symm
  clear hN3
  go_wp2_with fail
  go_loopw [3, 4] (fun u iv wr => ∃ (j : Nat) (X : ByteArray), j ≤ L.length ∧ iv = .int .i64 (j : Int) ∧ u = .string X ∧ X.size ≤ 200000 ∧ Hid (X = N3 ++ bytesOf (spForms (L.take j))) ∧ Hid (Below w.heap.size w wr)) (fun _ iv _ => L.length - (intOf iv).toNat)
  case atStart =>
    refine ⟨0, N3, Nat.zero_le _, rfl, rfl, by omega, Lib.hid ?_, HB3⟩
    rw [show bytesOf (spForms (L.take 0)) = ByteArray.empty from rfl, ByteArray.append_empty]
  case round =>
    obtain ⟨j, X, hj, rfl, rfl, hXs, HX, HB⟩ := hrel
    have hbs := HB.out.size
    by_cases hlt : j < L.length
    · obtain ⟨b, off, rfl, hb, hcs⟩ := rows_at (C := spC) (k := 14) (by decide) (fun _ => rfl) (HR.out.below HB.out) j hlt
      have ok := Hok.out _ (List.getElem_mem hlt)
      have Hts := Lib.hid (take_snoc L j hlt)
      have hfl := Nat.le_trans (spForms_take L (j + 1)) HF.out
      rw [Hts.out, spForms_snoc, List.length_append] at hfl
      obtain ⟨x, hx⟩ : ∃ x, x = L[j] := ⟨_, rfl⟩
      rw [← hx] at hcs ok Hts hfl
      clear hx
      have h0 := hcs 0 (by decide)
      have h1 := hcs 1 (by decide)
      have h2 := hcs 2 (by decide)
      have h3 := hcs 3 (by decide)
      have h4 := hcs 4 (by decide)
      have h5 := hcs 5 (by decide)
      have h6 := hcs 6 (by decide)
      have h7 := hcs 7 (by decide)
      have h8 := hcs 8 (by decide)
      have h9 := hcs 9 (by decide)
      have h10 := hcs 10 (by decide)
      have h11 := hcs 11 (by decide)
      have h12 := hcs 12 (by decide)
      have h13 := hcs 13 (by decide)
      clear hcs
      obtain ⟨s, va, vl⟩ := x
      dsimp only at ok
      obtain ⟨ok1, A1, c1, A2, c2, rfl, rfl, r1, r2⟩ := ok
      obtain ⟨t, i, p, r, c0, k, sv, ve, op, st, en, er, al, ls⟩ := s
      dsimp only at r1 r2
      simp only [spC, Sp.cells, Nat.add_zero, List.getElem?_cons_succ, List.getElem?_cons_zero] at h0 h1 h2 h3 h4 h5 h6 h7 h8 h9 h10 h11 h12 h13
      have hca := ref_span ⟨t, i, p, r, c0, k, sv, ve, op, st, en, er, al, ls⟩ ok1 (.slice A1 al.length c1) (.slice A2 ls.length c2) wr (Sp.Has.more (Sp.Has.below ⟨A1, c1, A2, c2, rfl, rfl, r1, r2⟩ HB.out) hbs)
      dsimp only at hfl
      obtain ⟨Y, hY⟩ : ∃ Y, Y = bytesOf (Sp.form ⟨t, i, p, r, c0, k, sv, ve, op, st, en, er, al, ls⟩) := ⟨_, rfl⟩
      rw [← hY] at hca
      have hXY : X.size + Y.size ≤ 200000 := by
        rw [HX.out, hY]; simp only [ByteArray.size_append, bytesOf_size]
        omega
      have HY := Lib.hid hY
      unfold Sp.cells at hca
      dsimp only at hca
      clear hY hfl ok1 r1 r2
      go_wp2_with fail
      refine hca.mono ?_
      rintro e w4 ⟨rfl, hb4⟩
      have HB4 := Lib.hid (HB.out.trans (hb4.mono hbs))
      clear hb4 hca
      go_wp2_with fail
      go_roundw
      case rel =>
        refine ⟨j + 1, X ++ Y, by omega, by go_num, rfl, by rw [ByteArray.size_append]; omega, Lib.hid ?_, HB4⟩
        rw [Hts.out, spForms_snoc, ← bytesOf_append, ← ByteArray.append_assoc, ← HX.out, HY.out]
      case measure => simp [intOf]; omega
    · obtain rfl : j = L.length := by omega
      have HXX : Hid (X = N3 ++ bytesOf (spForms L)) := Lib.hid (by rw [HX.out, List.take_length])
      clear HX
      go_wp2_with fail
      go_ret
      refine ⟨?_, HB.out⟩
      have hfin : X = bytesOf (num (L.length : Int) ++ spForms L) := by
        rw [HXX.out, HN3.out, bytesOf_append]
      rw [← hfin]; rfl
def SpansC (W : World) (A : Option Addr) (n c : Nat) (F : ByteArray) : Prop := ∀ (d : Nat) (os : Array Obj), Calls Try.prog 87 #[.slice A n c] (Go.Sort.grow (redrawn W d) os) fun e w'' => e = .returned (.string F) ∧ ∃ p : Regrown, w'' = Go.Sort.grow (redrawn W p.d) p.os
theorem spans_c (L : List Sv) (hL : L.length ≤ 4096) (hF : (spForms L).length ≤ 100000) (A : Option Addr) (c : Nat) (w : World) (hok : ∀ x ∈ L, x.1.Ok ∧ x.1.Has w w.heap.size x.2.1 x.2.2) (hR : Rs w w.heap.size A (spCells L)) : SpansC w A L.length c (bytesOf (num L.length ++ spForms L)) := fun d os =>
  Calls.regrown_of (ref_spans L hL hF A c _ (fun x hx => ⟨(hok x hx).1, ((hok x hx).2.below (below_regrown w d os)).more (below_regrown w d os).size⟩) ((hR.below (below_regrown w d os)).more (below_regrown w d os).size))

set_option maxRecDepth 100000 in
set_option maxHeartbeats 4000000 in
theorem ref_frag (a q : Int) (ha : In64 a) (hq : In64 q) (L : List Sv) (hL : L.length ≤ 4096) (hF : (spForms L).length ≤ 40000) (A : Option Addr) (c : Nat) (M : List Ex) (hM : M.length ≤ 4096) (hG : (exForms M).length ≤ 200000) (hex : ∀ x ∈ M, ExOk x) (A2 : Option Addr) (c2 : Nat) (w : World) (hok : ∀ x ∈ L, x.1.Ok ∧ x.1.Has w w.heap.size x.2.1 x.2.2) (hR : Rs w w.heap.size A (spCells L)) (hR2 : Rs w w.heap.size A2 (exCells M)) :
    Calls Try.prog 34 #[.agg #[.int .i64 a, .int .i64 q, .slice A L.length c, .slice A2 M.length c2]] w fun e w' => e = .returned (.string (bytesOf (fragF a q L M))) ∧ Below w.heap.size w w' := by
  have la := num_le a ha
  have lq := num_le q hq
  have hn : In64 (L.length : Int) := ⟨by omega, by omega⟩
  have ln := num_le _ hn
  have HA : Hid (Below w.heap.size w (w.alloc (.cells #[.int .i64 a, .int .i64 q, .slice A L.length c, .slice A2 M.length c2] 62))) := Lib.hid ((Below.refl _ _).alloc (Nat.le_refl _) _)
  have CS : Hid (SpansC (w.alloc (.cells #[.int .i64 a, .int .i64 q, .slice A L.length c, .slice A2 M.length c2] 62)) A L.length c (bytesOf (num L.length ++ spForms L))) := Lib.hid (spans_c L hL (by omega) A c _ (fun x hx => ⟨(hok x hx).1, ((hok x hx).2.below HA.out).more (by simp)⟩) ((hR.below HA.out).more (by simp)))
  have CN : Hid (NumC (w.alloc (.cells #[.int .i64 a, .int .i64 q, .slice A L.length c, .slice A2 M.length c2] 62))) := Lib.hid (num_c _)
  have ls : (bytesOf (num (L.length : Int) ++ spForms L)).size ≤ 50000 := by rw [bytesOf_size, List.length_append]; rw [bytesOf_size] at ln; omega
  obtain ⟨X3, hX3⟩ : ∃ X, X = bytesOf (num (L.length : Int) ++ spForms L) := ⟨_, rfl⟩
  rw [← hX3] at CS ls
  have HX3 := Lib.hid hX3
  have hm : In64 (M.length : Int) := ⟨by omega, by omega⟩
  have lm := num_le _ hm
  have e0 : bytesOf (num a) ++ bytesOf (num q) ++ X3 ++ bytesOf (num (M.length : Int)) = bytesOf (num a ++ (num q ++ ((num L.length ++ spForms L) ++ num M.length))) := by
    rw [hX3]; simp only [bytesOf_append]; simp
  obtain ⟨Z, hZ⟩ : ∃ X, X = bytesOf (num a ++ (num q ++ ((num L.length ++ spForms L) ++ num M.length))) := ⟨_, rfl⟩
  rw [← hZ] at e0
  have E0 := Lib.hid e0
  have HZ := Lib.hid hZ
  have HR2 := Lib.hid hR2
  have Hex := Lib.hid hex
  have HG := Lib.hid hG
  clear hX3 e0 hZ hok hR hF ln hR2 hex hG
  have hblk := Deep.blk_alloc_new w (.cells #[.int .i64 a, .int .i64 q, .slice A L.length c, .slice A2 M.length c2] 62)
  have Hblk := Lib.hid hblk
  have cG0 : ∀ d os, (Go.Sort.grow (redrawn (w.alloc (.cells #[.int .i64 a, .int .i64 q, .slice A L.length c, .slice A2 M.length c2] 62)) d) os).cell? ⟨w.heap.size, 0, none⟩ = some (.int .i64 a) := fun d os => cell_regrown (cell_of_row _ w.heap.size 0 _ _ _ hblk) d os
  have cG1 : ∀ d os, (Go.Sort.grow (redrawn (w.alloc (.cells #[.int .i64 a, .int .i64 q, .slice A L.length c, .slice A2 M.length c2] 62)) d) os).cell? ⟨w.heap.size, 1, none⟩ = some (.int .i64 q) := fun d os => cell_regrown (cell_of_row _ w.heap.size 1 _ _ _ hblk) d os
  have cG2 : ∀ d os, (Go.Sort.grow (redrawn (w.alloc (.cells #[.int .i64 a, .int .i64 q, .slice A L.length c, .slice A2 M.length c2] 62)) d) os).cell? ⟨w.heap.size, 2, none⟩ = some (.slice A L.length c) := fun d os => cell_regrown (cell_of_row _ w.heap.size 2 _ _ _ hblk) d os
  have cG3 : ∀ d os, (Go.Sort.grow (redrawn (w.alloc (.cells #[.int .i64 a, .int .i64 q, .slice A L.length c, .slice A2 M.length c2] 62)) d) os).cell? ⟨w.heap.size, 3, none⟩ = some (.slice A2 M.length c2) := fun d os => cell_regrown (cell_of_row _ w.heap.size 3 _ _ _ hblk) d os
  clear hblk
  go_enter Try.func34, Try.ntmps34
  go_wp2_with fail
  refine wp_region_quiet_below (by kernel_rfl) (by kernel_rfl) ?_
  repeat (go_big_quiet_step ((first | (go_at_call 16; exact CN.out _ _ _ (by assumption)) | (go_at_call 87; exact CS.out _ _))))
  refine wpQuiet_nil ?_
  intro _ hw'
  obtain ⟨⟨dq, osq⟩, hw''⟩ := hw'
  subst hw''
  have HBg := Lib.hid (below_regrown (w.alloc (.cells #[.int .i64 a, .int .i64 q, .slice A L.length c, .slice A2 M.length c2] 62)) dq osq)
  clear cG0 cG1 cG2 cG3 CN CS
  generalize Go.Sort.grow (redrawn (w.alloc (.cells #[.int .i64 a, .int .i64 q, .slice A L.length c, .slice A2 M.length c2] 62)) dq) osq = wg at *
  have lZ : Z.size ≤ 60000 := by rw [← E0.out]; simp only [ByteArray.size_append]; omega
  have hbg : w.heap.size + 1 ≤ wg.heap.size := by have := HBg.out.size; simpa using this
  have HB0 : Hid (Below (w.heap.size + 1) (w.alloc (.cells #[.int .i64 a, .int .i64 q, .slice A L.length c, .slice A2 M.length c2] 62)) wg) := Lib.hid (HBg.out.mono (by simp))
  generalize hZ1 : bytesOf (num a) ++ bytesOf (num q) ++ X3 ++ bytesOf (num (M.length : Int)) = Z1 at *
  obtain rfl : Z1 = Z := E0.out
  clear hZ1 E0
  go_wp2_with fail
  go_loopw [3, 4] (fun u iv wr => ∃ (j : Nat) (X : ByteArray), j ≤ M.length ∧ iv = .int .i64 (j : Int) ∧ u = .string X ∧ X.size ≤ 300000 ∧ Hid (X = Z1 ++ bytesOf (exForms (M.take j))) ∧ Hid (Below (w.heap.size + 1) (w.alloc (.cells #[.int .i64 a, .int .i64 q, .slice A L.length c, .slice A2 M.length c2] 62)) wr)) (fun _ iv _ => M.length - (intOf iv).toNat)
  case atStart =>
    refine ⟨0, Z1, Nat.zero_le _, rfl, rfl, by omega, Lib.hid ?_, HB0⟩
    rw [show bytesOf (exForms (M.take 0)) = ByteArray.empty from rfl, ByteArray.append_empty]
  case round =>
    obtain ⟨j, X, hj, rfl, rfl, hXs, HX, HB⟩ := hrel
    have hbs : w.heap.size + 1 ≤ wr.heap.size := by have := HB.out.size; simpa using this
    have Hblkr := Lib.hid ((HB.out.block w.heap.size (Nat.lt_succ_self _)).trans Hblk.out)
    have c3' : wr.cell? ⟨w.heap.size, 3, none⟩ = some (.slice A2 M.length c2) := cell_of_row wr w.heap.size 3 _ _ _ Hblkr.out
    have HBw : Hid (Below w.heap.size w wr) := Lib.hid (HA.out.trans (HB.out.mono (Nat.le_succ _)))
    by_cases hlt : j < M.length
    · obtain ⟨b, off, rfl, hb, hcs⟩ := rows_at (C := exC) (k := 5) (by decide) (fun _ => rfl) (HR2.out.below HBw.out) j hlt
      have ok := Hex.out _ (List.getElem_mem hlt)
      have Hts := Lib.hid (take_snoc M j hlt)
      have hfl := Nat.le_trans (exForms_take M (j + 1)) HG.out
      rw [Hts.out, exForms_snoc, List.length_append] at hfl
      obtain ⟨x, hx⟩ : ∃ x, x = M[j] := ⟨_, rfl⟩
      rw [← hx] at hcs ok Hts hfl
      clear hx
      have h0 := hcs 0 (by decide)
      have h1 := hcs 1 (by decide)
      have h2 := hcs 2 (by decide)
      have h3 := hcs 3 (by decide)
      have h4 := hcs 4 (by decide)
      clear hcs
      obtain ⟨xf, xt, xs, xr, xm⟩ := x
      unfold ExOk at ok
      dsimp only at ok hfl
      simp only [exC, Nat.add_zero, List.getElem?_cons_succ, List.getElem?_cons_zero] at h0 h1 h2 h3 h4
      have hca := ref_exchange xf xt xs xr xm (ok _ (by simp)) (ok _ (by simp)) (ok _ (by simp)) (ok _ (by simp)) (ok _ (by simp)) wr
      obtain ⟨Y, hY⟩ : ∃ Y, Y = bytesOf (nums [xf, xt, xs, xr, xm]) := ⟨_, rfl⟩
      rw [← hY] at hca
      have hXY : X.size + Y.size ≤ 300000 := by
        rw [HX.out, hY]; simp only [ByteArray.size_append, bytesOf_size]
        omega
      have HY := Lib.hid hY
      clear hY hfl ok
      go_wp2_with fail
      refine hca.mono ?_
      rintro e w4 ⟨rfl, hb4⟩
      have HB4 := Lib.hid (HB.out.trans (hb4.mono hbs))
      clear hb4 hca
      go_wp2_with fail
      go_roundw
      case rel =>
        refine ⟨j + 1, X ++ Y, by omega, by go_num, rfl, by rw [ByteArray.size_append]; omega, Lib.hid ?_, HB4⟩
        rw [Hts.out, exForms_snoc, ← bytesOf_append, ← ByteArray.append_assoc, ← HX.out, HY.out]
      case measure => simp [intOf]; omega
    · obtain rfl : j = M.length := by omega
      have HXX : Hid (X = Z1 ++ bytesOf (exForms M)) := Lib.hid (by rw [HX.out, List.take_length])
      clear HX
      go_wp2_with fail
      go_ret
      refine ⟨?_, HBw.out⟩
      have hfin : X = bytesOf (fragF a q L M) := by
        rw [HXX.out, HZ.out, bytesOf_append]
        unfold fragF
        simp
      rw [← hfin]; rfl

set_option maxRecDepth 100000 in
set_option maxHeartbeats 4000000 in
theorem ref_trace (a q : Int) (ha : In64 a) (hq : In64 q) (L : List Sv) (hL : L.length ≤ 4096) (hF : (spForms L).length ≤ 40000) (A : Option Addr) (c : Nat) (w : World) (hok : ∀ x ∈ L, x.1.Ok ∧ x.1.Has w w.heap.size x.2.1 x.2.2) (hR : Rs w w.heap.size A (spCells L)) :
    Calls Try.prog 35 #[.agg #[.int .i64 a, .int .i64 q, .slice A L.length c]] w fun e w' => e = .returned (.string (bytesOf (traceF a q L))) ∧ Below w.heap.size w w' := by
  have la := num_le a ha
  have lq := num_le q hq
  have hn : In64 (L.length : Int) := ⟨by omega, by omega⟩
  have ln := num_le _ hn
  have HA : Hid (Below w.heap.size w (w.alloc (.cells #[.int .i64 a, .int .i64 q, .slice A L.length c] 65))) := Lib.hid ((Below.refl _ _).alloc (Nat.le_refl _) _)
  have CS : Hid (SpansC (w.alloc (.cells #[.int .i64 a, .int .i64 q, .slice A L.length c] 65)) A L.length c (bytesOf (num L.length ++ spForms L))) := Lib.hid (spans_c L hL (by omega) A c _ (fun x hx => ⟨(hok x hx).1, ((hok x hx).2.below HA.out).more (by simp)⟩) ((hR.below HA.out).more (by simp)))
  have CN : Hid (NumC (w.alloc (.cells #[.int .i64 a, .int .i64 q, .slice A L.length c] 65))) := Lib.hid (num_c _)
  have ls : (bytesOf (num (L.length : Int) ++ spForms L)).size ≤ 50000 := by rw [bytesOf_size, List.length_append]; rw [bytesOf_size] at ln; omega
  obtain ⟨X3, hX3⟩ : ∃ X, X = bytesOf (num (L.length : Int) ++ spForms L) := ⟨_, rfl⟩
  rw [← hX3] at CS ls
  have HX3 := Lib.hid hX3
  have e0 : bytesOf (num a) ++ bytesOf (num q) ++ X3 = bytesOf (traceF a q L) := by
    rw [hX3]; unfold traceF; simp only [bytesOf_append]; simp
  obtain ⟨Z, hZ⟩ : ∃ X, X = bytesOf (traceF a q L) := ⟨_, rfl⟩
  rw [← hZ] at e0 ⊢
  have E0 := Lib.hid e0
  have HZ := Lib.hid hZ
  skip
  skip
  skip
  clear hX3 e0 hZ hok hR hF ln 
  have hblk := Deep.blk_alloc_new w (.cells #[.int .i64 a, .int .i64 q, .slice A L.length c] 65)
  have Hblk := Lib.hid hblk
  have cG0 : ∀ d os, (Go.Sort.grow (redrawn (w.alloc (.cells #[.int .i64 a, .int .i64 q, .slice A L.length c] 65)) d) os).cell? ⟨w.heap.size, 0, none⟩ = some (.int .i64 a) := fun d os => cell_regrown (cell_of_row _ w.heap.size 0 _ _ _ hblk) d os
  have cG1 : ∀ d os, (Go.Sort.grow (redrawn (w.alloc (.cells #[.int .i64 a, .int .i64 q, .slice A L.length c] 65)) d) os).cell? ⟨w.heap.size, 1, none⟩ = some (.int .i64 q) := fun d os => cell_regrown (cell_of_row _ w.heap.size 1 _ _ _ hblk) d os
  have cG2 : ∀ d os, (Go.Sort.grow (redrawn (w.alloc (.cells #[.int .i64 a, .int .i64 q, .slice A L.length c] 65)) d) os).cell? ⟨w.heap.size, 2, none⟩ = some (.slice A L.length c) := fun d os => cell_regrown (cell_of_row _ w.heap.size 2 _ _ _ hblk) d os
  clear hblk
  go_enter Try.func35, Try.ntmps35
  go_wp2_with fail
  refine wp_region_quiet_below (by kernel_rfl) (by kernel_rfl) ?_
  repeat (go_big_quiet_step ((first | (go_at_call 16; exact CN.out _ _ _ (by assumption)) | (go_at_call 87; exact CS.out _ _))))
  refine wpQuiet_nil ?_
  intro _ hw'
  obtain ⟨⟨dq, osq⟩, hw''⟩ := hw'
  subst hw''
  have HBg := Lib.hid (below_regrown (w.alloc (.cells #[.int .i64 a, .int .i64 q, .slice A L.length c] 65)) dq osq)
  clear cG0 cG1 cG2 CN CS
  generalize Go.Sort.grow (redrawn (w.alloc (.cells #[.int .i64 a, .int .i64 q, .slice A L.length c] 65)) dq) osq = wg at *
  go_wp2_with fail
  go_ret
  refine ⟨by rw [← E0.out]; rfl, ?_⟩
  exact HA.out.trans (HBg.out.mono (by simp))

end Go.Proofs.Ytepcihfkkeahhaa
