/- What the reference's reader of digits returns. -/
import Derived.Test.YtmhheepnojbgoaaQuot
namespace Go.Proofs.Ytmhheepnojbgoaa
open Go.ChangeShapes Go.WideShapes Go.ChangeAt Go.RowKit Pl

set_option maxRecDepth 100000 in
set_option maxHeartbeats 1000000 in
theorem rscan_at (s : ByteArray) (hs : s.size ≤ 17) (n0 : Int) (k0 : Nat) (h : Hid (scanL 0 0 s.data.toList = (n0, k0))) (w : World) :
    Calls Try.prog 56 #[.string s] w fun e w' => e = .returned (.tuple #[.int .i64 n0, .int .i64 k0]) ∧ w = w' := by
  go_enter Try.func56, Try.ntmps56
  go_wp2
  go_loop [2, 3] (fun v c => ∃ (k : Nat) (n : Int), k ≤ s.size ∧ 0 ≤ n ∧ n < 10 ^ k ∧ v = .int .i64 n ∧ c = .int .i64 k ∧ Hid (scanL n k (s.data.toList.drop k) = (n0, k0))) (fun _ c => s.size - (intOf c).toNat)
  case atStart => exact ⟨0, 0, by omega, by omega, by simp, rfl, rfl, Lib.hid (by simpa using h.out)⟩
  case round =>
    obtain ⟨k, n, hk, hn0, hn, rfl, rfl, hS⟩ := hrel
    by_cases hp : k < s.size
    · have hst := scan_step s k hp n
      have hb : n < 10000000000000000 := Int.lt_of_lt_of_le hn (pow_16 k (by omega))
      have h256 : s[k].toNat < 256 := s[k].toNat_lt
      have h256' : (s[k].toNat : Int) < 256 := by omega
      by_cases hd : 48 ≤ s[k].toNat ∧ s[k].toNat ≤ 57
      · rw [if_pos hd] at hst
        obtain ⟨hd1, hd2⟩ := hd
        have hS2 := Lib.hid (hst.symm.trans hS.out)
        have hn2 : 10 * n + ((s[k].toNat : Int) - 48) < 10 ^ (k + 1) := by rw [Int.pow_succ]; omega
        have HN2 := Lib.hid hn2
        clear hst hS hn hn2
        have e1 : 48 ≤ (s[k].toNat : Int) := by omega
        have e2 : (s[k].toNat : Int) ≤ 57 := by omega
        go_wp2
        go_round
        case rel => exact ⟨k + 1, 10 * n + ((s[k].toNat : Int) - 48), by omega, by omega, HN2.out, by go_num, by go_num, hS2⟩
        case measure => simp [intOf]; omega
      · rw [if_neg hd] at hst
        have hS2 := Lib.hid (hS.out.symm.trans hst)
        clear hst hS hn
        by_cases hlo : s[k].toNat < 48
        · have hlo2 : (s[k].toNat : Int) < 48 := by omega
          clear hd
          go_wp2
          go_ret2
          exact ⟨by rw [Prod.mk.inj hS2.out |>.1, Prod.mk.inj hS2.out |>.2]; rfl, rfl⟩
        · have hlo2 : 57 < (s[k].toNat : Int) := by omega
          have hlo3 : 48 ≤ (s[k].toNat : Int) := by omega
          clear hd
          go_wp2
          go_ret2
          exact ⟨by rw [Prod.mk.inj hS2.out |>.1, Prod.mk.inj hS2.out |>.2]; rfl, rfl⟩
    · have hS2 := Lib.hid (hS.out.symm.trans (scan_end s k hp n))
      clear hS hn
      go_wp2
      go_ret2
      exact ⟨by rw [Prod.mk.inj hS2.out |>.1, Prod.mk.inj hS2.out |>.2]; rfl, rfl⟩
end Go.Proofs.Ytmhheepnojbgoaa
