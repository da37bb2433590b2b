/- The law's check of a key. -/
import Derived.Test.YtajainkaomkbjaaBw
namespace Go.Proofs.Ytajainkaomkbjaa
open Go.ChangeShapes Go.WideShapes Go.ChangeAt Go.RowKit Go.Joins Bt

set_option maxRecDepth 100000 in
set_option maxHeartbeats 1000000 in
theorem check_law (t : ByteArray) (ht : t.size ≤ 1000000) (w : World) :
    Calls Try.prog 20 #[.string t] w fun e w' => e = .returned (.int .i64 (chkK t)) ∧ w = w' := by
  by_cases h4 : 4096 < t.size
  · have hd : decide ((4096 : Int) < (t.size : Int)) = true := by simp; omega
    have HE : Hid (chkK t = 5) := Lib.hid (by unfold chkK; rw [if_pos h4])
    clear h4 ht
    go_enter Try.func20, Try.ntmps20
    go_wp2_with fail
    go_ret
    exact ⟨by rw [HE.out]; rfl, rfl⟩
  have hd : decide ((4096 : Int) < (t.size : Int)) = false := by simp; omega
  have HE : Hid (chkK t = if okK t = true then 0 else 3) := Lib.hid (by unfold chkK; rw [if_neg h4])
  have HN := Lib.hid (@okK_not t)
  have HA := Lib.hid (@okK_all t)
  obtain ⟨sz, hsz⟩ : ∃ sz, sz = t.size := ⟨_, rfl⟩
  have HSz := Lib.hid hsz
  clear h4
  go_enter Try.func20, Try.ntmps20
  go_wp2_with fail
  go_loop [3] (fun iv => ∃ k : Nat, k ≤ t.size ∧ iv = .int .i64 (k : Int) ∧ Hid (∀ j (hj : j < t.size), j < k → okC t[j] = true)) (fun iv => t.size - (intOf iv).toNat)
  case atStart => exact ⟨0, Nat.zero_le _, rfl, Lib.hid (fun j _ h => absurd h (by omega))⟩
  case round =>
    obtain ⟨k, hk, rfl, HO⟩ := hrel
    by_cases hl : k < t.size
    · have hkI : (k : Int) < (t.size : Int) := by omega
      have hk0 : (0 : Int) ≤ (k : Int) := by omega
      have hu := UInt8.toNat_lt t[k]
      have HK := Lib.hid (HN.out k hl)
      have HT : Hid (okC t[k] = true → ∀ j (hj : j < t.size), j < k + 1 → okC t[j] = true) := Lib.hid (fun hx j hj h1 => by
        by_cases e : j = k
        · subst e; exact hx
        · exact HO.out j hj (by omega))
      have HX : Hid (okC t[k] = (decide (32 ≤ t[k].toNat) && decide (t[k].toNat ≤ 126))) := Lib.hid rfl
      have hw1 : IntKind.i64.wrap ((k : Int) + 1) = (k : Int) + 1 := by simp only [IntKind.wrap_i64]; omega
      by_cases h1 : t[k].toNat < 32
      · have d1 : decide (((t[k].toNat : Nat) : Int) < 32) = true := by simp; omega
        have HR := Lib.hid (HK.out (by rw [HX.out]; simp; omega))
        clear h1 hu
        go_wp2_with fail
        go_ret
        exact ⟨by rw [HE.out, HR.out]; rfl, rfl⟩
      · by_cases h2 : 126 < t[k].toNat
        · have d1 : decide (((t[k].toNat : Nat) : Int) < 32) = false := by simp; omega
          have d2 : decide ((126 : Int) < ((t[k].toNat : Nat) : Int)) = true := by simp; omega
          have HR := Lib.hid (HK.out (by rw [HX.out]; simp; omega))
          clear h1 h2 hu
          go_wp2_with fail
          go_ret
          exact ⟨by rw [HE.out, HR.out]; rfl, rfl⟩
        · have d1 : decide (((t[k].toNat : Nat) : Int) < 32) = false := by simp; omega
          have d2 : decide ((126 : Int) < ((t[k].toNat : Nat) : Int)) = false := by simp; omega
          have HO2 := Lib.hid (HT.out (by rw [HX.out]; simp; omega))
          clear h1 h2 hu
          go_wp2_with fail
          go_round
          case rel => exact ⟨k + 1, by omega, by go_num, HO2⟩
          case measure => simp [intOf] <;> omega
    · obtain rfl : k = t.size := by omega
      have HR := Lib.hid (HA.out (fun j hj => HO.out j hj hj))
      go_wp2_with fail
      go_ret
      exact ⟨by rw [HE.out, HR.out]; rfl, rfl⟩
end Go.Proofs.Ytajainkaomkbjaa
