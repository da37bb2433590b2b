/- The reference's Check, Zone and Bits. -/
import Derived.Test.YtomjgkflnfjjbaaKr
namespace Go.Proofs.Ytomjgkflnfjjbaa
open Go.ChangeShapes Go.WideShapes Go.ChangeAt Go.RowKit En

theorem chk_step {L : List Int} (h : ∀ q, q < L.length → inV (L.getD q 0) = true) (hl : L.length ≤ 4096) : chkV L = 0 := by
  unfold chkV
  rw [if_neg (by omega), if_neg]
  intro h2
  obtain ⟨x, hx, hv⟩ := List.any_eq_true.1 h2
  obtain ⟨i, hi, rfl⟩ := List.getElem_of_mem hx
  have := h i hi
  rw [show L.getD i 0 = L[i] by simp [List.getD, List.getElem?_eq_getElem hi]] at this
  rw [this] at hv; simp at hv
theorem chk_bad {L : List Int} (q : Nat) (hq : q < L.length) (h : inV (L.getD q 0) = false) (hl : L.length ≤ 4096) : chkV L = 2 := by
  unfold chkV
  rw [if_neg (by omega), if_pos]
  refine List.any_eq_true.2 ⟨L[q], List.getElem_mem hq, ?_⟩
  rw [show L.getD q 0 = L[q] by simp [List.getD, List.getElem?_eq_getElem hq]] at h
  rw [h]; rfl
set_option maxRecDepth 100000 in
theorem rcheck_any (A : Option Addr) (c : Nat) (L : List Int) (hl : L.length ≤ 1000000) (w : World) (hR : Rd (Value.int .i64) w A L) :
    Calls Try.prog 8 #[.slice A L.length c] w fun e w' => e = .returned (.int .i64 (chkV L)) ∧ w = w' := by
  by_cases hbig : 4096 < L.length
  · have hd : decide ((4096 : Int) < (L.length : Int)) = true := by simp; omega
    have HC : Hid (chkV L = 6) := Lib.hid (by unfold chkV; rw [if_pos hbig])
    obtain ⟨n, hn⟩ : ∃ n, n = L.length := ⟨_, rfl⟩
    rw [← hn] at hd hbig hl ⊢
    clear hn hR
    go_enter Try.func8, Try.ntmps8
    go_wp2_with fail
    go_ret
    exact ⟨by rw [HC.out]; rfl, rfl⟩
  · have hl2 : L.length ≤ 4096 := by omega
    have HR := Lib.hid hR
    have HOk := Lib.hid (fun h => chk_step (L := L) h hl2)
    have HBad := Lib.hid (fun q hq h => chk_bad (L := L) q hq h hl2)
    clear hR
    go_enter Try.func8, Try.ntmps8
    go_wp2_with fail
    go_loop [3] (fun iv => ∃ j : Nat, j ≤ L.length ∧ iv = .int .i64 (j : Int) ∧ Hid (∀ q, q < j → inV (L.getD q 0) = true)) (fun iv => L.length - (intOf iv).toNat)
    case atStart => exact ⟨0, Nat.zero_le _, rfl, Lib.hid (fun q h => by omega)⟩
    case round =>
      obtain ⟨j, hj, rfl, HN⟩ := hrel
      by_cases hlt : j < L.length
      · obtain ⟨b, off, rfl, hb, h0⟩ := int_at HR.out j hlt
        have hx : L.getD j 0 = L[j] := by simp [List.getD, List.getElem?_eq_getElem hlt]
        have Hx := Lib.hid hx
        obtain ⟨x, hxe⟩ : ∃ x, x = L[j] := ⟨_, rfl⟩
        rw [← hxe] at h0 Hx
        have hjI : (j : Int) < (L.length : Int) := by omega
        have hj0 : (0 : Int) ≤ (j : Int) := by omega
        clear hx hxe
        by_cases h1 : x < -1152921504606846976
        · have HB : Hid (chkV L = 2) := Lib.hid (HBad.out j hlt (by rw [Hx.out]; unfold inV; simp; omega))
          have d1 : decide (x < -1152921504606846976) = true := by simpa using h1
          go_wp2_with fail
          go_ret
          exact ⟨by rw [HB.out]; rfl, rfl⟩
        · have d1 : decide (x < -1152921504606846976) = false := by simpa using h1
          by_cases h2 : 1152921504606846976 < x
          · have HB : Hid (chkV L = 2) := Lib.hid (HBad.out j hlt (by rw [Hx.out]; unfold inV; simp; omega))
            have d2 : decide (1152921504606846976 < x) = true := by simpa using h2
            go_wp2_with fail
            go_ret
            exact ⟨by rw [HB.out]; rfl, rfl⟩
          · have d2 : decide (1152921504606846976 < x) = false := by simpa using h2
            have hin : inV x = true := by unfold inV; simp; omega
            have HN2 : Hid (∀ q, q < j + 1 → inV (L.getD q 0) = true) := Lib.hid (fun q hq => by
              by_cases e : q = j
              · subst e; rw [Hx.out]; exact hin
              · exact HN.out q (by omega))
            clear hin
            go_wp2_with fail
            go_round
            case rel => exact ⟨j + 1, by omega, by go_num, HN2⟩
            case measure => simp [intOf] <;> omega
      · obtain rfl : j = L.length := by omega
        have HC := Lib.hid (HOk.out HN.out)
        go_wp2_with fail
        go_ret
        exact ⟨by rw [HC.out]; rfl, rfl⟩
/-- The least and the greatest of the first k values. -/
def mnT (L : List Int) (k : Nat) : Int := if k = 0 then 0 else Lib.minOf (L.take k)
def mxT (L : List Int) (k : Nat) : Int := if k = 0 then 0 else Lib.maxOf (L.take k)
theorem mnT_all (L : List Int) : mnT L L.length = lsF L := by unfold mnT lsF; rw [List.take_length]
theorem mxT_all (L : List Int) : mxT L L.length = gtF L := by unfold mxT gtF; rw [List.take_length]
theorem mnT_one (L : List Int) : mnT L 1 = L.getD 0 0 := by unfold mnT; rw [if_neg (by omega), Lib.minOf_one]
theorem mxT_one (L : List Int) : mxT L 1 = L.getD 0 0 := by unfold mxT; rw [if_neg (by omega), Lib.maxOf_one]
theorem mnT_step (L : List Int) (k : Nat) (h0 : 0 < k) (hk : k < L.length) : mnT L (k + 1) = min (mnT L k) (L.getD k 0) := by
  unfold mnT; rw [if_neg (by omega), if_neg (by omega), Lib.minOf_step L k h0 hk]
theorem mxT_step (L : List Int) (k : Nat) (h0 : 0 < k) (hk : k < L.length) : mxT L (k + 1) = max (mxT L k) (L.getD k 0) := by
  unfold mxT; rw [if_neg (by omega), if_neg (by omega), Lib.maxOf_step L k h0 hk]
set_option maxRecDepth 100000 in
set_option maxHeartbeats 2000000 in
theorem rzone_any (A : Option Addr) (c : Nat) (L : List Int) (hl : L.length ≤ 1000000) (w : World) (hR : Rd (Value.int .i64) w A L) :
    Calls Try.prog 31 #[.slice A L.length c] w fun e w' => e = .returned (.tuple #[.int .i64 (lsF L), .int .i64 (gtF L)]) ∧ Below w.heap.size w w' := by
  have HR := Lib.hid hR
  clear hR
  go_enter Try.func31, Try.ntmps31
  go_wp2_with fail
  go_loopw [2, 3, 4] (fun nv xv iv wr => ∃ j : Nat, j ≤ L.length ∧ iv = .int .i64 (j : Int) ∧ nv = .int .i64 (mnT L j) ∧ xv = .int .i64 (mxT L j) ∧ Hid (Below w.heap.size w wr)) (fun _ _ iv _ => L.length - (intOf iv).toNat)
  case atStart => exact ⟨0, Nat.zero_le _, rfl, rfl, rfl, Lib.hid (Below.refl _ _)⟩
  case round =>
    obtain ⟨j, hj, rfl, rfl, rfl, HB⟩ := hrel
    by_cases hlt : j < L.length
    · obtain ⟨b, off, rfl, hb, h0⟩ := int_at (HR.out.below HB.out) j hlt
      have hx : L.getD j 0 = L[j] := by simp [List.getD, List.getElem?_eq_getElem hlt]
      have hjI : (j : Int) < (L.length : Int) := by omega
      have hj0 : (0 : Int) ≤ (j : Int) := by omega
      by_cases hz : j = 0
      · subst hz
        have HX1 := Lib.hid ((mnT_one L).trans hx)
        have HX2 := Lib.hid ((mxT_one L).trans hx)
        obtain ⟨x, hxe⟩ : ∃ x, x = L[0] := ⟨_, rfl⟩
        rw [← hxe] at h0 HX1 HX2
        rw [Nat.add_zero] at h0
        obtain ⟨n, hn⟩ : ∃ n, n = L.length := ⟨_, rfl⟩
        have HLn := Lib.hid hn
        rw [← hn] at hlt hjI hj
        rw [show (((0 : Nat) : Int)) = 0 from rfl] at hjI ⊢
        have hn0 : 0 < n := hlt
        rw [← hn]
        clear hx hxe hj0 hn
        go_wp2_with fail
        go_quiet (fail)
        go_wp2_with fail
        go_quiet (fail)
        go_wp2_with fail
        go_roundw
        case rel => exact ⟨1, by omega, by go_num, by rw [HX1.out], by rw [HX2.out], Lib.hid (by (repeat (first | exact HB.out | refine below_drewN ?_ _)))⟩
        case measure => simp [intOf]; omega
      · have HX1 := Lib.hid (mnT_step L j (by omega) hlt)
        have HX2 := Lib.hid (mxT_step L j (by omega) hlt)
        have hje : ((j : Int) == 0) = false := by simp; omega
        rw [hx] at HX1 HX2
        obtain ⟨x, hxe⟩ : ∃ x, x = L[j] := ⟨_, rfl⟩
        obtain ⟨m1, hm1⟩ : ∃ m1, m1 = mnT L j := ⟨_, rfl⟩
        obtain ⟨m2, hm2⟩ : ∃ m2, m2 = mxT L j := ⟨_, rfl⟩
        rw [← hxe] at h0 HX1 HX2
        rw [← hm1] at HX1 ⊢
        rw [← hm2] at HX2 ⊢
        clear hx hxe hm1 hm2
        go_wp2_with fail
        go_quiet (fail)
        go_wp2_with fail
        go_roundw
        case rel => exact ⟨j + 1, by omega, by go_num, by rw [HX1.out], by rw [HX2.out], Lib.hid (below_drewN HB.out _)⟩
        case measure => simp [intOf] <;> omega
    · obtain rfl : j = L.length := by omega
      have HX1 := Lib.hid (mnT_all L)
      have HX2 := Lib.hid (mxT_all L)
      go_wp2_with fail
      exact bodyPost_ret (results_tmp2 rfl _ _ _) rfl ⟨by rw [← HX1.out, ← HX2.out]; rfl, HB.out⟩
end Go.Proofs.Ytomjgkflnfjjbaa
