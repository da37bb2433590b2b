/- The law's right. -/
import Derived.Test.YtfjgdldjghdjhaaHl
namespace Go.Proofs.Ytfjgdldjghdjhaa
open Go.ChangeShapes Go.WideShapes Go.ChangeAt Go.RowKit Go.Joins

set_option maxRecDepth 100000 in
set_option maxHeartbeats 2000000 in
theorem right_any (A : Option Addr) (c : Nat) (L : List Int) (hl : L.length ≤ 40) (B : Bool) (hB : B = decide (∀ x ∈ L, Vl x)) (w : World) (hR : Rd (Value.int .i64) w A L) :
    Calls Try.prog 21 #[.slice A L.length c] w fun e w' => e = .returned (.bool B) ∧ w = w' := by
  have HR := Lib.hid hR
  have HQ := Lib.hid hB
  have hl4 : (L.length : Int) ≤ 40 := by omega
  clear hR hB
  go_enter Try.func21, Try.ntmps21
  go_wp2_with fail
  go_loopw [3] (fun iv wr => ∃ j : Nat, j ≤ L.length ∧ iv = .int .i64 (j : Int) ∧ Hid (∀ x ∈ L.take j, Vl x) ∧ w = wr) (fun iv _ => L.length - (intOf iv).toNat)
  case atStart => exact ⟨0, Nat.zero_le _, rfl, Lib.hid (by simp), rfl⟩
  case round =>
    obtain ⟨j, hj, rfl, HV, rfl⟩ := hrel
    have hj0 : (0 : Int) ≤ (j : Int) := by omega
    by_cases hlt : j < L.length
    · obtain ⟨b, off, rfl, hb, h0⟩ := int_at HR.out j hlt
      have hm := List.getElem_mem hlt
      have hT : L.take (j + 1) = L.take j ++ [L[j]] := by rw [List.take_append_getElem hlt]
      obtain ⟨x, hx⟩ : ∃ x, x = L[j] := ⟨_, rfl⟩
      rw [← hx] at h0 hm hT
      have hjI : (j : Int) < (L.length : Int) := by omega
      have hw1 : IntKind.i64.wrap ((j : Int) + 1) = (j : Int) + 1 := by simp only [IntKind.wrap_i64]; omega
      clear hx
      by_cases h1 : x < 0
      · have HF : Hid (B = false) := Lib.hid (by rw [HQ.out]; simp only [decide_eq_false_iff_not]; exact fun h => absurd (h x hm).1 (by omega))
        clear hT hm
        go_wp2_with fail
        go_ret
        exact ⟨by rw [HF.out]; rfl, rfl⟩
      · by_cases h2 : 1099511627776 < x
        · have HF : Hid (B = false) := Lib.hid (by rw [HQ.out]; simp only [decide_eq_false_iff_not]; exact fun h => absurd (h x hm).2 (by omega))
          have h3 : 0 ≤ x := by omega
          clear hT hm h1
          go_wp2_with fail
          go_ret
          exact ⟨by rw [HF.out]; rfl, rfl⟩
        · have h3 : 0 ≤ x := by omega
          have h4 : x ≤ 1099511627776 := by omega
          have HV2 : Hid (∀ y ∈ L.take (j + 1), Vl y) := Lib.hid (by
            intro y hy
            rw [hT] at hy
            rcases List.mem_append.1 hy with hy | hy
            · exact HV.out y hy
            · rw [List.mem_singleton.1 hy]; exact ⟨h3, h4⟩)
          clear hT hm h1 h2
          go_wp2_with fail
          go_roundw
          case rel => exact ⟨j + 1, by omega, by go_num, HV2, trivial⟩
          case measure => simp [intOf] <;> omega
    · obtain rfl : j = L.length := by omega
      have HF : Hid (B = true) := Lib.hid (by rw [HQ.out]; have h := HV.out; rw [List.take_length] at h; simp only [decide_eq_true_eq]; exact h)
      go_wp2_with fail
      go_ret
      exact ⟨by rw [HF.out]; rfl, rfl⟩
end Go.Proofs.Ytfjgdldjghdjhaa
