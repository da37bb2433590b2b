/- The reference's Encode. -/
import Derived.Test.YtacgomhegjilgaaJf
import Derived.Deep.RegionHeld3
namespace Go.Proofs.Ytacgomhegjilgaa
open Go.ChangeShapes Go.WideShapes Go.ChangeAt Go.RowKit Ts En

theorem bytesOf_size (l : List UInt8) : (bytesOf l).size = l.length := by show l.toArray.size = _; simp
theorem bytesOf_append (a b : List UInt8) : bytesOf a ++ bytesOf b = bytesOf (a ++ b) := by
  apply ByteArray.ext; simp [bytesOf]
theorem num_le (n : Int) (h : In64 n) : (bytesOf (num n)).size ≤ 9 := by rw [bytesOf_size]; exact (num_bounds n h.1 h.2).2
/-- What the reference's Number returns in a region. -/
def NumC (W : World) : Prop := ∀ (n : Int) (d : Nat) (os : Array Obj), In64 n → Calls Try.prog 71 #[.int .i64 n] (Go.Sort.grow (redrawn W d) os) fun e w'' => e = .returned (.string (bytesOf (num n))) ∧ ∃ p : Regrown, w'' = Go.Sort.grow (redrawn W p.d) p.os
theorem num_c (W : World) : NumC W := fun n _ _ hn => Calls.regrown_of (ref_number n hn _)
theorem frm_size {R : List Iv} (h : Rc R) (hl : R.length ≤ 50000) (j : Nat) (hj : j ≤ R.length) : (bytesOf (whole (pf R j))).size ≤ 909009 := by
  rw [bytesOf_size, whole_len]
  have := pf_total h hl j
  omega
set_option maxRecDepth 100000 in
set_option maxHeartbeats 8000000 in
theorem ref_encode (A : Option Addr) (c : Nat) (R : List Iv) (hl : R.length ≤ 50000) (hb : Rc R) (w : World) (hR : Rs w w.heap.size A (ivCells R)) :
    Calls Try.prog 46 #[.slice A R.length c] w fun e w' => e = .returned (.string (bytesOf (frmB R))) ∧ Below w.heap.size w w' := by
  have HR := Lib.hid hR
  have HBd := Lib.hid hb
  have H0 := Lib.hid (ref_number (R.length : Int) ⟨by omega, by omega⟩ w)
  have HSz := Lib.hid (frm_size hb hl)
  have HE : Hid (bytesOf (frmB R) = bytesOf (whole (pf R R.length))) := Lib.hid rfl
  have hz0 : (⟨(num (R.length : Int)).toArray⟩ : ByteArray) = bytesOf (whole (pf R 0)) := by show _ = bytesOf (whole [num (R.length : Int)]); simp [whole, bytesOf]
  rw [hz0] at H0
  obtain ⟨F, hF⟩ : ∃ F, F = bytesOf (frmB R) := ⟨_, rfl⟩
  rw [← hF] at HE ⊢
  obtain ⟨Z, hZ⟩ : ∃ Z, Z = bytesOf (whole (pf R 0)) := ⟨_, rfl⟩
  rw [← hZ] at H0
  have HZ := Lib.hid hZ
  clear hR hb hz0 hF hZ
  go_enter Try.func46, Try.ntmps46
  go_wp2_with fail
  refine H0.out.mono ?_
  rintro e w1 ⟨rfl, hb1⟩
  have HB1 := Lib.hid hb1
  clear hb1
  go_wp2_with fail
  go_loopw [3, 4, 5] (fun ov nv iv wr => ∃ (j : Nat) (O : ByteArray), j ≤ R.length ∧ iv = .int .i64 (j : Int) ∧ ov = .string O ∧ Hid (O = bytesOf (whole (pf R j))) ∧ nv = .int .i64 (nx R j) ∧ Hid (Below w.heap.size w wr)) (fun _ _ iv _ => R.length - (intOf iv).toNat)
  case atStart => exact ⟨0, Z, Nat.zero_le _, rfl, rfl, HZ, rfl, HB1⟩
  case round =>
    obtain ⟨j, O, hj, rfl, rfl, HO, rfl, HB⟩ := hrel
    by_cases hlt : j < R.length
    · obtain ⟨b, off, rfl, hbl, h0, h1⟩ := iv_at (HR.out.below HB.out) j hlt
      have hbx := HBd.out _ (List.getElem_mem hlt)
      have hnb := nx_bd HBd.out j
      have hsz := HSz.out j hj
      rw [← HO.out] at hsz
      have HS : Hid (bytesOf (whole (pf R (j + 1))) = O ++ bytesOf (num (R[j].1 - nx R j)) ++ bytesOf (num (R[j].2 - R[j].1 + 1))) := Lib.hid (by
        rw [HO.out, bytesOf_append, bytesOf_append, ← whole_cons, ← whole_cons]
        show bytesOf (whole (num ((R.getD j (0, 0)).2 - (R.getD j (0, 0)).1 + 1) :: num ((R.getD j (0, 0)).1 - nx R j) :: pf R j)) = _
        rw [show R.getD j (0, 0) = R[j] by simp [List.getD, List.getElem?_eq_getElem hlt]])
      have HX : Hid (nx R (j + 1) = R[j].2 + 1) := Lib.hid (by
        show (R.getD j (0, 0)).2 + 1 = _
        rw [show R.getD j (0, 0) = R[j] by simp [List.getD, List.getElem?_eq_getElem hlt]])
      obtain ⟨x, hx⟩ : ∃ x, x = R[j] := ⟨_, rfl⟩
      rw [← hx] at h0 h1 hbx HS HX
      clear hx
      obtain ⟨x1, x2⟩ := x
      dsimp only at h0 h1 hbx HS HX
      obtain ⟨n, hn⟩ : ∃ n, n = nx R j := ⟨_, rfl⟩
      rw [← hn] at hnb HS ⊢
      clear hn
      have hjI : (j : Int) < (R.length : Int) := by omega
      have hj0 : (0 : Int) ≤ (j : Int) := by omega
      have hw1 : IntKind.i64.wrap ((j : Int) + 1) = (j : Int) + 1 := by simp only [IntKind.wrap_i64]; omega
      have hw2 : IntKind.i64.wrap (x1 - n) = x1 - n := by simp only [IntKind.wrap_i64]; omega
      have hw3 : IntKind.i64.wrap (x2 + 1) = x2 + 1 := by simp only [IntKind.wrap_i64]; omega
      have hw4 : IntKind.i64.wrap (x2 - x1) = x2 - x1 := by simp only [IntKind.wrap_i64]; omega
      have hw5 : IntKind.i64.wrap (x2 - x1 + 1) = x2 - x1 + 1 := by simp only [IntKind.wrap_i64]; omega
      have i1 : In64 (x1 - n) := ⟨by omega, by omega⟩
      have i2 : In64 (x2 - x1 + 1) := ⟨by omega, by omega⟩
      have l1 := num_le _ i1
      have l2 := num_le _ i2
      have cG0 : ∀ d os, (Go.Sort.grow (redrawn wr d) os).cell? ⟨b, off + j * 2, none⟩ = some (.int .i64 x1) := fun d os => cell_regrown h0 d os
      have cG1 : ∀ d os, (Go.Sort.grow (redrawn wr d) os).cell? ⟨b, off + j * 2 + 1, none⟩ = some (.int .i64 x2) := fun d os => cell_regrown h1 d os
      have C : Hid (NumC wr) := Lib.hid (num_c _)
      have HH1 := Lib.hid h1
      clear h0 h1
      go_wp2_with fail
      refine wp_region_quiet_below (by kernel_rfl) (by kernel_rfl) ?_
      repeat (go_big_quiet_step ((exact C.out _ _ _ (by assumption))))
      refine wpQuiet_nil ?_
      intro _ hw'
      obtain ⟨⟨dq, osq⟩, hw''⟩ := hw'
      subst hw''
      have HBq := Lib.hid (below_regrown wr dq osq)
      have d1 := cell_regrown HH1.out dq osq
      clear cG0 cG1
      generalize Go.Sort.grow (redrawn wr dq) osq = wg at *
      go_wp2_with fail
      go_roundw
      case rel => exact ⟨j + 1, _, by omega, by go_num, rfl, Lib.hid HS.out.symm, by rw [HX.out], Lib.hid (HB.out.trans (HBq.out.mono HB.out.size))⟩
      case measure => simp [intOf] <;> omega
    · obtain rfl : j = R.length := by omega
      go_wp2_with fail
      go_ret
      exact ⟨by rw [HE.out, HO.out]; rfl, HB.out⟩
end Go.Proofs.Ytacgomhegjilgaa
