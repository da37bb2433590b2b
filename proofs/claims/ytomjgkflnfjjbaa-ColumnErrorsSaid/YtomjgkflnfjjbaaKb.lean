/- writePlain, writeDelta: the parts that they write. -/
import Derived.Test.YtomjgkflnfjjbaaKa
import Derived.Test.YtomjgkflnfjjbaaTx
namespace Go.Proofs.Ytomjgkflnfjjbaa
open Go.ChangeShapes Go.WideShapes Go.ChangeAt Go.RowKit En

/-- Values of a column. -/
def Vs (L : List Int) : Prop := ∀ x ∈ L, -1152921504606846976 ≤ x ∧ x ≤ 1152921504606846976
/-- The parts of the first j numbers of a list, the last one first, behind its length and others. -/
def prL (n : Nat) (L : List Int) (fs : List (List UInt8)) : Nat → List (List UInt8)
  | 0 => num (n : Int) :: fs
  | j + 1 => num (L.getD j 0) :: prL n L fs j
theorem prL_total (n : Nat) (hn : n ≤ 4096) (L : List Int) (hL : ∀ x ∈ L, -9223372036854775808 ≤ x ∧ x ≤ 9223372036854775807) (fs : List (List UInt8)) (j : Nat) : total (prL n L fs j) ≤ total fs + 9 + 9 * j := by
  induction j with
  | zero =>
    show total (num (n : Int) :: fs) ≤ _
    rw [total_cons]
    have := (num_bounds (n : Int) (by omega) (by omega)).2
    omega
  | succ j ih =>
    show total (num (L.getD j 0) :: prL n L fs j) ≤ _
    rw [total_cons]
    have hb : -9223372036854775808 ≤ L.getD j 0 ∧ L.getD j 0 ≤ 9223372036854775807 := by
      by_cases hj : j < L.length
      · have e : L.getD j 0 = L[j] := by simp [List.getD, List.getElem?_eq_getElem hj]
        rw [e]; exact hL _ (List.getElem_mem hj)
      · have e : L.getD j 0 = 0 := by simp [List.getD, List.getElem?_eq_none (Nat.le_of_not_lt hj)]
        rw [e]; decide
    have := (num_bounds (L.getD j 0) hb.1 hb.2).2
    omega
theorem int_at {w : World} {A : Option Addr} {L : List Int} (h : Rd (Value.int .i64) w A L) (j : Nat) (hj : j < L.length) : ∃ b off, A = some ⟨b, off, none⟩ ∧ b < w.heap.size ∧ w.cell? ⟨b, off + j, none⟩ = some (.int .i64 L[j]) := h j hj
set_option maxRecDepth 100000 in
set_option maxHeartbeats 2000000 in
theorem write_plain (w0 : World) (g : Nat) (hg : w0.heap.size ≤ g) (fs : List (List UInt8)) (A : Option Addr) (c : Nat) (L : List Int) (hl : L.length ≤ 4096) (hL : Vs L) (htot : total fs ≤ 1000) (w : World)
    (hB : Below w0.heap.size w0 w) (hW : WS w g fs) (hR : Rd (Value.int .i64) w0 A L) :
    Calls Try.prog 56 #[.pointer (some ⟨g, 0, none⟩), .slice A L.length c] w fun e w' => e = .returned (.tuple #[]) ∧ WS w' g (prL L.length L fs L.length) ∧ Below w0.heap.size w0 w' := by
  have HR := Lib.hid hR
  have HL := Lib.hid hL
  have HB0 := Lib.hid hB
  have HW0 := Lib.hid hW
  have HT := Lib.hid (prL_total L.length hl L (fun x hx => by have := hL x hx; omega) fs)
  clear hR hL hB hW
  go_enter Try.func56, Try.ntmps56
  go_wp2_with fail
  refine (w_number g fs (L.length : Int) (by omega) (by omega) (by omega) _ HW0.out).mono ?_
  rintro e w1 ⟨rfl, hws, hgr⟩
  have HB1 := Lib.hid (HB0.out.grown hgr HB0.out.size (by intro k h; cases h; exact hg))
  have HW1 : Hid (WS w1 g (prL L.length L fs 0)) := Lib.hid hws
  clear hws hgr
  go_wp2_with fail
  go_loopw [12] (fun iv wr => ∃ j : Nat, j ≤ L.length ∧ iv = .int .i64 (j : Int) ∧ Hid (WS wr g (prL L.length L fs j)) ∧ Hid (Below w0.heap.size w0 wr)) (fun iv _ => L.length - (intOf iv).toNat)
  case atStart => exact ⟨0, Nat.zero_le _, rfl, HW1, HB1⟩
  case round =>
    obtain ⟨j, hj, rfl, HW, HB⟩ := hrel
    by_cases hlt : j < L.length
    · obtain ⟨b, off, rfl, hb, h0⟩ := int_at (HR.out.below HB.out) j hlt
      have hbx := HL.out _ (List.getElem_mem hlt)
      have hT1 := HT.out j
      have HS : Hid (prL L.length L fs (j + 1) = num L[j] :: prL L.length L fs j) := Lib.hid (by
        show num (L.getD j 0) :: prL L.length L fs j = _
        rw [show L.getD j 0 = L[j] by simp [List.getD, List.getElem?_eq_getElem hlt]])
      obtain ⟨x, hx⟩ : ∃ x, x = L[j] := ⟨_, rfl⟩
      rw [← hx] at h0 hbx HS
      clear hx
      have hjI : (j : Int) < (L.length : Int) := by omega
      have hj0 : (0 : Int) ≤ (j : Int) := by omega
      have hw1 : IntKind.i64.wrap ((j : Int) + 1) = (j : Int) + 1 := by simp only [IntKind.wrap_i64]; omega
      go_wp2_with fail
      refine (w_number g (prL L.length L fs j) x (by omega) (by omega) (by omega) _ HW.out).mono ?_
      rintro e w2 ⟨rfl, hws, hgr⟩
      have HB2 := Lib.hid (HB.out.grown hgr HB.out.size (by intro k h; cases h; exact hg))
      have HW2 := Lib.hid hws
      clear hws hgr
      go_wp2_with fail
      go_roundw
      case rel => exact ⟨j + 1, by omega, by go_num, by rw [HS.out]; exact HW2, HB2⟩
      case measure => simp [intOf] <;> omega
    · obtain rfl : j = L.length := by omega
      go_wp2_with fail
      exact bodyPost_end (results_none rfl _ _ _) rfl ⟨rfl, HW.out, HB.out⟩
/-- Each value less the one before it. -/
def dlL (b : Int) : List Int → List Int
  | [] => []
  | x :: T => (x - b) :: dlL x T
theorem dlL_len (b : Int) (L : List Int) : (dlL b L).length = L.length := by
  induction L generalizing b with
  | nil => rfl
  | cons x T ih => show (dlL x T).length + 1 = T.length + 1; rw [ih]
/-- The value before number j. -/
def bfL (L : List Int) : Nat → Int
  | 0 => 0
  | j + 1 => L.getD j 0
theorem dlL_get (b : Int) (L : List Int) (j : Nat) (hj : j < L.length) : (dlL b L).getD j 0 = L[j] - (match j with | 0 => b | k + 1 => L.getD k 0) := by
  induction L generalizing b j with
  | nil => exact absurd hj (by simp)
  | cons x T ih =>
    cases j with
    | zero => rfl
    | succ j =>
      have hj2 : j < T.length := by simpa using hj
      have := ih x j hj2
      show (dlL x T).getD j 0 = T[j] - (x :: T).getD j 0
      rw [this]
      cases j with
      | zero => rfl
      | succ k => rfl
theorem bfL_bd {L : List Int} (h : Vs L) (j : Nat) : -1152921504606846976 ≤ bfL L j ∧ bfL L j ≤ 1152921504606846976 := by
  cases j with
  | zero => show -1152921504606846976 ≤ (0 : Int) ∧ (0 : Int) ≤ _; omega
  | succ j =>
    show -1152921504606846976 ≤ L.getD j 0 ∧ L.getD j 0 ≤ _
    by_cases hj : j < L.length
    · have e : L.getD j 0 = L[j] := by simp [List.getD, List.getElem?_eq_getElem hj]
      rw [e]; exact h _ (List.getElem_mem hj)
    · have e : L.getD j 0 = 0 := by simp [List.getD, List.getElem?_eq_none (Nat.le_of_not_lt hj)]
      rw [e]; omega
theorem dlL_bd {L : List Int} (h : Vs L) : ∀ x ∈ dlL 0 L, -9223372036854775808 ≤ x ∧ x ≤ 9223372036854775807 := by
  have gen : ∀ (L : List Int) (b : Int), Vs L → -1152921504606846976 ≤ b ∧ b ≤ 1152921504606846976 → ∀ x ∈ dlL b L, -9223372036854775808 ≤ x ∧ x ≤ 9223372036854775807 := by
    intro L
    induction L with
    | nil => intro b _ _ x hx; cases hx
    | cons y T ih =>
      intro b hv hb x hx
      have hy := hv y (List.mem_cons_self ..)
      rcases List.mem_cons.1 hx with rfl | hx
      · omega
      · exact ih y (fun z hz => hv z (List.mem_cons_of_mem _ hz)) hy x hx
  exact gen L 0 h (by omega)
set_option maxRecDepth 100000 in
set_option maxHeartbeats 2000000 in
theorem write_delta (w0 : World) (g : Nat) (hg : w0.heap.size ≤ g) (fs : List (List UInt8)) (A : Option Addr) (c : Nat) (L : List Int) (hl : L.length ≤ 4096) (hL : Vs L) (htot : total fs ≤ 1000) (w : World)
    (hB : Below w0.heap.size w0 w) (hW : WS w g fs) (hR : Rd (Value.int .i64) w0 A L) :
    Calls Try.prog 58 #[.pointer (some ⟨g, 0, none⟩), .slice A L.length c] w fun e w' => e = .returned (.tuple #[]) ∧ WS w' g (prL L.length (dlL 0 L) fs L.length) ∧ Below w0.heap.size w0 w' := by
  have HR := Lib.hid hR
  have HL := Lib.hid hL
  have HB0 := Lib.hid hB
  have HW0 := Lib.hid hW
  have HT := Lib.hid (prL_total L.length hl (dlL 0 L) (dlL_bd hL) fs)
  clear hR hL hB hW
  go_enter Try.func58, Try.ntmps58
  go_wp2_with fail
  refine (w_number g fs (L.length : Int) (by omega) (by omega) (by omega) _ HW0.out).mono ?_
  rintro e w1 ⟨rfl, hws, hgr⟩
  have HB1 := Lib.hid (HB0.out.grown hgr HB0.out.size (by intro k h; cases h; exact hg))
  have HW1 : Hid (WS w1 g (prL L.length (dlL 0 L) fs 0)) := Lib.hid hws
  clear hws hgr
  go_wp2_with fail
  go_loopw [4, 13] (fun bv iv wr => ∃ j : Nat, j ≤ L.length ∧ iv = .int .i64 (j : Int) ∧ bv = .int .i64 (bfL L j) ∧ Hid (WS wr g (prL L.length (dlL 0 L) fs j)) ∧ Hid (Below w0.heap.size w0 wr)) (fun _ iv _ => L.length - (intOf iv).toNat)
  case atStart => exact ⟨0, Nat.zero_le _, rfl, rfl, HW1, HB1⟩
  case round =>
    obtain ⟨j, hj, rfl, rfl, HW, HB⟩ := hrel
    by_cases hlt : j < L.length
    · obtain ⟨b, off, rfl, hb, h0⟩ := int_at (HR.out.below HB.out) j hlt
      have hbx := HL.out _ (List.getElem_mem hlt)
      have hT1 := HT.out j
      have hbb := bfL_bd HL.out j
      have HS : Hid (prL L.length (dlL 0 L) fs (j + 1) = num (L[j] - bfL L j) :: prL L.length (dlL 0 L) fs j) := Lib.hid (by
        show num ((dlL 0 L).getD j 0) :: prL L.length (dlL 0 L) fs j = _
        rw [dlL_get 0 L j hlt]
        cases j with
        | zero => rfl
        | succ k => rfl)
      have HX : Hid (bfL L (j + 1) = L[j]) := Lib.hid (by
        show L.getD j 0 = _
        simp [List.getD, List.getElem?_eq_getElem hlt])
      obtain ⟨x, hx⟩ : ∃ x, x = L[j] := ⟨_, rfl⟩
      rw [← hx] at h0 hbx HS HX
      clear hx
      obtain ⟨y, hy⟩ : ∃ y, y = bfL L j := ⟨_, rfl⟩
      rw [← hy] at hbb HS ⊢
      clear hy
      have hjI : (j : Int) < (L.length : Int) := by omega
      have hj0 : (0 : Int) ≤ (j : Int) := by omega
      have hw1 : IntKind.i64.wrap ((j : Int) + 1) = (j : Int) + 1 := by simp only [IntKind.wrap_i64]; omega
      have hw2 : IntKind.i64.wrap (x - y) = x - y := by simp only [IntKind.wrap_i64]; omega
      go_wp2_with fail
      refine (w_number g (prL L.length (dlL 0 L) fs j) (x - y) (by omega) (by omega) (by omega) _ HW.out).mono ?_
      rintro e w2 ⟨rfl, hws, hgr⟩
      have HB2 := Lib.hid (HB.out.grown hgr HB.out.size (by intro k h; cases h; exact hg))
      have HW2 := Lib.hid hws
      clear hws hgr
      go_wp2_with fail
      go_roundw
      case rel => exact ⟨j + 1, by omega, by go_num, by rw [HX.out], by rw [HS.out]; exact HW2, HB2⟩
      case measure => simp [intOf] <;> omega
    · obtain rfl : j = L.length := by omega
      go_wp2_with fail
      exact bodyPost_end (results_none rfl _ _ _) rfl ⟨rfl, HW.out, HB.out⟩
end Go.Proofs.Ytomjgkflnfjjbaa
