/- Encode. -/
import Derived.Test.YtacgomhegjilgaaCb
import Derived.Test.YtacgomhegjilgaaWb
namespace Go.Proofs.Ytacgomhegjilgaa
open Go.ChangeShapes Go.WideShapes Go.ChangeAt Go.RowKit Ts En

/-- The row behind the first j runs. -/
def nx (R : List Iv) : Nat → Int
  | 0 => 0
  | j + 1 => (R.getD j (0, 0)).2 + 1
/-- The parts that are written for the first j runs, the last one first. -/
def pf (R : List Iv) : Nat → List (List UInt8)
  | 0 => [num (R.length : Int)]
  | j + 1 => num ((R.getD j (0, 0)).2 - (R.getD j (0, 0)).1 + 1) :: num ((R.getD j (0, 0)).1 - nx R j) :: pf R j
/-- The form of a set. -/
def frmB (R : List Iv) : List UInt8 := whole (pf R R.length)
theorem nx_bd {R : List Iv} (h : Rc R) (j : Nat) : 0 ≤ nx R j ∧ nx R j ≤ 1048576 := by
  cases j with
  | zero => exact ⟨by show (0 : Int) ≤ 0; omega, by show (0 : Int) ≤ _; omega⟩
  | succ j =>
    show 0 ≤ (R.getD j (0, 0)).2 + 1 ∧ (R.getD j (0, 0)).2 + 1 ≤ 1048576
    by_cases hj : j < R.length
    · have e : R.getD j (0, 0) = R[j] := by simp [List.getD, List.getElem?_eq_getElem hj]
      have := h R[j] (List.getElem_mem hj)
      rw [e]; omega
    · have e : R.getD j (0, 0) = (0, 0) := by simp [List.getD, List.getElem?_eq_none (Nat.le_of_not_lt hj)]
      rw [e]; decide
theorem gd_bd {R : List Iv} (h : Rc R) (j : Nat) : (0 ≤ (R.getD j (0, 0)).1 ∧ (R.getD j (0, 0)).1 < 1048576) ∧ (0 ≤ (R.getD j (0, 0)).2 ∧ (R.getD j (0, 0)).2 < 1048576) := by
  by_cases hj : j < R.length
  · have e : R.getD j (0, 0) = R[j] := by simp [List.getD, List.getElem?_eq_getElem hj]
    have := h R[j] (List.getElem_mem hj)
    rw [e]; omega
  · have e : R.getD j (0, 0) = (0, 0) := by simp [List.getD, List.getElem?_eq_none (Nat.le_of_not_lt hj)]
    rw [e]; decide
theorem pf_total {R : List Iv} (h : Rc R) (hl : R.length ≤ 50000) (j : Nat) : total (pf R j) ≤ 9 + 18 * j := by
  induction j with
  | zero =>
    show total [num (R.length : Int)] ≤ _
    rw [total_cons]
    have := (num_bounds (R.length : Int) (by omega) (by omega)).2
    show _ + 0 ≤ _
    omega
  | succ j ih =>
    show total (_ :: _ :: pf R j) ≤ _
    rw [total_cons, total_cons]
    have h1 := gd_bd h j
    have h2 := nx_bd h j
    have a := (num_bounds ((R.getD j (0, 0)).2 - (R.getD j (0, 0)).1 + 1) (by omega) (by omega)).2
    have b := (num_bounds ((R.getD j (0, 0)).1 - nx R j) (by omega) (by omega)).2
    omega
theorem pf_pos {R : List Iv} (h : Rc R) (hl : R.length ≤ 50000) (j : Nat) : ∀ f ∈ pf R j, 0 < f.length := by
  induction j with
  | zero =>
    intro f hf
    obtain rfl := List.mem_singleton.1 hf
    exact (num_bounds (R.length : Int) (by omega) (by omega)).1
  | succ j ih =>
    intro f hf
    have h1 := gd_bd h j
    have h2 := nx_bd h j
    rcases List.mem_cons.1 hf with rfl | hf
    · exact (num_bounds _ (by omega) (by omega)).1
    · rcases List.mem_cons.1 hf with rfl | hf
      · exact (num_bounds _ (by omega) (by omega)).1
      · exact ih f hf
set_option maxRecDepth 100000 in
set_option maxHeartbeats 4000000 in
theorem encode_any {v : Value} {L : List Iv} (hL : L.length ≤ 50000) (hb : Rc L) (w : World) (hv : Sl w v L) :
    Calls Try.prog 44 #[.agg #[v]] w fun e w' => e = .returned (.string ⟨(frmB L).toArray⟩) ∧ Below w.heap.size w w' := by
  obtain ⟨A, c, rfl, hc1, hc2, hA, hR⟩ := hv
  have HR := Lib.hid hR
  have hB2 : Below w.heap.size w ((w.alloc (.cells #[.slice A L.length c] 26)).alloc (.cells #[.pointer none, .int .i64 0] 88)) := ((Below.refl _ _).alloc (Nat.le_refl _) _).alloc (by simp) _
  have hW0 : WS ((w.alloc (.cells #[.slice A L.length c] 26)).alloc (.cells #[.pointer none, .int .i64 0] 88)) (w.heap.size + 1) [] := ⟨.pointer none, blk_over w _ _, rfl⟩
  have hk1 : ((w.alloc (.cells #[.slice A L.length c] 26)).alloc (.cells #[.pointer none, .int .i64 0] 88)).heap[w.heap.size]? = some (.cells #[.slice A L.length c] 26 (0, 0)) := blk_under w _ _
  have hz : ((w.alloc (.cells #[.slice A L.length c] 26)).alloc (.cells #[.pointer none, .int .i64 0] 88)).heap.size = w.heap.size + 1 + 1 := by simp
  have HB2 := Lib.hid hB2
  have HW0 := Lib.hid hW0
  have HK1 := Lib.hid hk1
  have HT := Lib.hid (pf_total hb hL)
  have HP := Lib.hid (pf_pos hb hL)
  have HBd := Lib.hid hb
  have HE : Hid (frmB L = whole (pf L L.length)) := Lib.hid rfl
  obtain ⟨F, hF⟩ : ∃ F, F = frmB L := ⟨_, rfl⟩
  rw [← hF] at HE ⊢
  clear hR hA hB2 hW0 hk1 hb hF
  go_enter Try.func44, Try.ntmps44
  go_wp2_with fail
  refine (w_number (w.heap.size + 1) [] (L.length : Int) (by omega) (by omega) (by decide) _ HW0.out).mono ?_
  rintro e w1 ⟨rfl, hws, hg⟩
  have HB1 := Lib.hid (HB2.out.grown hg (by rw [hz]; omega) (by intro k h; cases h; omega))
  have HW1 : Hid (WS w1 (w.heap.size + 1) (pf L 0)) := Lib.hid hws
  have HK := Lib.hid ((hg.block w.heap.size (by rw [hz]; omega) (by intro h; injection h with h; omega)).trans HK1.out)
  have hcl : w1.cell? ⟨w.heap.size, 0, none⟩ = some (.slice A L.length c) := by simp [World.cell?, HK.out]
  have hs1 : w.heap.size + 2 ≤ w1.heap.size := by have := hg.size; rw [hz] at this; exact this
  clear hws hg
  go_wp2_with fail
  go_loopw [4, 14] (fun nv iv wr => ∃ j : Nat, j ≤ L.length ∧ nv = .int .i64 (nx L j) ∧ iv = .int .i64 (j : Int) ∧ Hid (WS wr (w.heap.size + 1) (pf L j)) ∧ Hid (Below w.heap.size w wr)) (fun _ iv _ => L.length - (intOf iv).toNat)
  case atStart => exact ⟨0, Nat.zero_le _, rfl, rfl, HW1, HB1⟩
  case round =>
    obtain ⟨j, hj, rfl, rfl, HW, HB⟩ := hrel
    have hsr := HW.out.lt
    by_cases hlt : j < L.length
    · obtain ⟨b, off, rfl, hb, h0, h1⟩ := iv_at (HR.out.below HB.out) j hlt
      have hbx := HBd.out _ (List.getElem_mem hlt)
      have hnb := nx_bd HBd.out j
      have hT1 := HT.out j
      have HS : Hid (pf L (j + 1) = num (L[j].2 - L[j].1 + 1) :: num (L[j].1 - nx L j) :: pf L j) := Lib.hid (by
        show num ((L.getD j (0, 0)).2 - (L.getD j (0, 0)).1 + 1) :: num ((L.getD j (0, 0)).1 - nx L j) :: pf L j = _
        rw [show L.getD j (0, 0) = L[j] by simp [List.getD, List.getElem?_eq_getElem hlt]])
      have HX : Hid (nx L (j + 1) = L[j].2 + 1) := Lib.hid (by
        show (L.getD j (0, 0)).2 + 1 = _
        rw [show L.getD j (0, 0) = L[j] by simp [List.getD, List.getElem?_eq_getElem hlt]])
      obtain ⟨x, hx⟩ : ∃ x, x = L[j] := ⟨_, rfl⟩
      rw [← hx] at h0 h1 hbx HS HX
      clear hx
      obtain ⟨x1, x2⟩ := x
      dsimp only at h0 h1 hbx HS HX
      obtain ⟨n, hn⟩ : ∃ n, n = nx L j := ⟨_, rfl⟩
      rw [← hn] at hnb HS ⊢
      clear hn
      have hjI : (j : Int) < (L.length : Int) := by omega
      have hj0 : (0 : Int) ≤ (j : Int) := by omega
      have hw1 : IntKind.i64.wrap ((j : Int) + 1) = (j : Int) + 1 := by simp only [IntKind.wrap_i64]; omega
      have hw2 : IntKind.i64.wrap (x1 - n) = x1 - n := by simp only [IntKind.wrap_i64]; omega
      have hw3 : IntKind.i64.wrap (x2 + 1) = x2 + 1 := by simp only [IntKind.wrap_i64]; omega
      have hbr : b < wr.heap.size := by have := HB.out.size; omega
      have HA : Hid (Below wr.heap.size wr (wr.alloc (.cells #[.int .i64 x1, .int .i64 x2] 39))) := Lib.hid ((Below.refl _ _).alloc (Nat.le_refl _) _)
      have HKA : Hid ((wr.alloc (.cells #[.int .i64 x1, .int .i64 x2] 39)).heap[wr.heap.size]? = some (.cells #[.int .i64 x1, .int .i64 x2] 39 (0, 0))) := Lib.hid (Deep.blk_alloc_new wr _)
      have hzA : (wr.alloc (.cells #[.int .i64 x1, .int .i64 x2] 39)).heap.size = wr.heap.size + 1 := by simp
      go_wp2_with fail
      refine (w_number (w.heap.size + 1) (pf L j) (x1 - n) (by omega) (by omega) (by omega) _ (HW.out.below HA.out)).mono ?_
      rintro e w2 ⟨rfl, hws, hg⟩
      have HB3 := Lib.hid ((HB.out.trans (HA.out.mono HB.out.size)).grown hg (by rw [hzA]; omega) (by intro k h; cases h; omega))
      have HW3 := Lib.hid hws
      have HK3 := Lib.hid ((hg.block wr.heap.size (by rw [hzA]; omega) (by intro h; injection h with h; omega)).trans HKA.out)
      have hc0 : w2.cell? ⟨wr.heap.size, 0, none⟩ = some (.int .i64 x1) := by simp [World.cell?, HK3.out]
      have hc1' : w2.cell? ⟨wr.heap.size, 1, none⟩ = some (.int .i64 x2) := by simp [World.cell?, HK3.out]
      have hs2 : wr.heap.size < w2.heap.size := by have := hg.size; rw [hzA] at this; omega
      have htt : total (num (x1 - n) :: pf L j) ≤ 1000000 := by
        rw [total_cons]
        have := (num_bounds (x1 - n) (by omega) (by omega)).2
        omega
      clear hws hg
      go_wp2_with fail
      refine (size_any x1 x2 (by omega) (by omega) w2).mono ?_
      rintro e w3 ⟨rfl, hb3⟩
      have HB4 := Lib.hid (HB3.out.trans (hb3.mono HB3.out.size))
      have HW4 := Lib.hid (HW3.out.below hb3)
      have HK4 := Lib.hid ((hb3.block wr.heap.size hs2).trans HK3.out)
      have hs3 : wr.heap.size < w3.heap.size := by have := hb3.size; omega
      clear hb3 hc0 hc1'
      go_wp2_with fail
      refine (w_number (w.heap.size + 1) _ (x2 - x1 + 1) (by omega) (by omega) htt _ HW4.out).mono ?_
      rintro e w4 ⟨rfl, hws, hg⟩
      have HB5 := Lib.hid (HB4.out.grown hg (by omega) (by intro k h; cases h; omega))
      have HW5 := Lib.hid hws
      have HK5 := Lib.hid ((hg.block wr.heap.size hs3 (by intro h; injection h with h; omega)).trans HK4.out)
      have hc1'' : w4.cell? ⟨wr.heap.size, 1, none⟩ = some (.int .i64 x2) := by simp [World.cell?, HK5.out]
      clear hws hg
      go_wp2_with fail
      go_roundw
      case rel => exact ⟨j + 1, by omega, by rw [HX.out], by go_num, by rw [HS.out]; exact HW5, HB5⟩
      case measure => simp [intOf] <;> omega
    · obtain rfl : j = L.length := by omega
      have hT1 := HT.out L.length
      go_wp2_with fail
      refine (w_bytes (w.heap.size + 1) (pf L L.length) (HP.out L.length) (by omega) wr HW.out).mono ?_
      rintro e w2 ⟨rfl, hb2⟩
      have HB3 := Lib.hid (HB.out.trans (hb2.mono HB.out.size))
      clear hb2
      go_wp2_with fail
      go_ret
      exact ⟨by rw [HE.out]; rfl, HB3.out⟩
end Go.Proofs.Ytacgomhegjilgaa
