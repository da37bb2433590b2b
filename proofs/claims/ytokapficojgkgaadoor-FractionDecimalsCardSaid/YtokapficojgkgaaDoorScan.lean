
/- What the two functions that read digits return. -/
import Derived.Test.YtokapficojgkgaaDoorCheck
import Derived.Laws.RangeString
import Derived.Laws.RangeAny
import Derived.Lib.DecodeN
import Derived.WalkSpells
namespace Go.Proofs.YtokapficojgkgaaDoor
open Go.ChangeShapes Go.WideShapes Go.ChangeAt Go.RowKit Pl

/-- The number that the digits at the beginning denote, and how many they are. -/
def scanL : Int → Nat → List UInt8 → Int × Nat
  | n, k, [] => (n, k)
  | n, k, c :: r => if 48 ≤ c.toNat ∧ c.toNat ≤ 57 then scanL (10 * n + ((c.toNat : Int) - 48)) (k + 1) r else (n, k)

theorem decode_high (s : ByteArray) (i : Nat) (h : 128 ≤ (s.get! i).toNat) : 128 ≤ (Utf8.decode s i).1 := by
  rw [Lib.decode_at]
  unfold Lib.decodeN
  rw [if_neg (by omega)]
  repeat' split
  all_goals first | (simp only; omega) | omega

theorem get_get (s : ByteArray) (k : Nat) (h : k < s.size) : s.get! k = s[k] := by
  simp [ByteArray.get!, h]; rfl
theorem drop_at (s : ByteArray) (k : Nat) (h : k < s.size) : s.data.toList.drop k = s[k] :: s.data.toList.drop (k + 1) := by
  rw [List.drop_eq_getElem_cons (by simpa using h)]; rfl

theorem scan_step (s : ByteArray) (k : Nat) (h : k < s.size) (n : Int) : scanL n k (s.data.toList.drop k) = if 48 ≤ s[k].toNat ∧ s[k].toNat ≤ 57 then scanL (10 * n + ((s[k].toNat : Int) - 48)) (k + 1) (s.data.toList.drop (k + 1)) else (n, k) := by
  rw [drop_at s k h]; rfl
theorem scan_end (s : ByteArray) (k : Nat) (h : ¬ k < s.size) (n : Int) : scanL n k (s.data.toList.drop k) = (n, k) := by
  rw [List.drop_eq_nil_of_le (by simp; omega)]; rfl

theorem pow_16 (k : Nat) (h : k ≤ 16) : (10 : Int) ^ k ≤ 10000000000000000 := by
  have : (10 : Nat) ^ k ≤ 10 ^ 16 := Nat.pow_le_pow_right (by omega) h
  have e : ((10 ^ k : Nat) : Int) = (10 : Int) ^ k := by simp
  omega

set_option maxHeartbeats 1000000 in
theorem scanDigits_any (s : ByteArray) (hs : s.size ≤ 17) (w : World) :
    Calls Tryd.prog 33 #[.string s] w fun e w' => e = .returned (.tuple #[.int .i64 (scanL 0 0 s.data.toList).1, .int .i64 (scanL 0 0 s.data.toList).2]) ∧ Below w.heap.size w w' := by
  go_enter Tryd.func33, Tryd.ntmps33
  go_wp2
  go_loopw [2, 3] (fun v c wr => ∃ (k : Nat) (n : Int), k ≤ s.size ∧ 0 ≤ n ∧ n < 10 ^ k ∧ v = .int .i64 n ∧ c = .int .i64 k ∧ Hid (wr = w.iter s k) ∧ Hid (scanL n k (s.data.toList.drop k) = scanL 0 0 s.data.toList)) (fun _ c _ => s.size - (intOf c).toNat)
  case atStart => exact ⟨0, 0, by omega, by omega, by simp, rfl, rfl, Lib.hid rfl, Lib.hid (by simp)⟩
  case round =>
    obtain ⟨k, n, hk, hn0, hn, rfl, rfl, hw, hS⟩ := hrel
    obtain rfl := hw.out
    by_cases hp : k < s.size
    · have hst := scan_step s k hp n
      have hb : n < 10000000000000000 := Int.lt_of_lt_of_le hn (pow_16 k (by omega))
      by_cases ha : s[k].toNat < 128
      · have hnx : ∀ ty, (Instr.next (.pointer (some ⟨w.heap.size, 0, none⟩)) true ty).run Tryd.prog (w.iter s k) = _ := fun ty => run_next_ascii w s k ty hp ha
        by_cases hd : 48 ≤ s[k].toNat ∧ s[k].toNat ≤ 57
        · rw [if_pos hd] at hst
          obtain ⟨hd1, hd2⟩ := hd
          have hS2 := Lib.hid (hst.symm.trans hS.out)
          have hn2 : 10 * n + ((s[k].toNat : Int) - 48) < 10 ^ (k + 1) := by rw [Int.pow_succ]; omega
          have HN2 := Lib.hid hn2
          clear hst hS hw hn hn2
          generalize s[k].toNat = c at *
          go_wp2
          go_roundw
          case rel => exact ⟨k + 1, 10 * n + ((c : Int) - 48), by omega, by omega, HN2.out, by go_num, by go_num, Lib.hid rfl, hS2⟩
          case measure => simp [intOf]; omega
        · rw [if_neg hd] at hst
          have hS2 := Lib.hid (hS.out.symm.trans hst)
          clear hst hS hw hn
          generalize s[k].toNat = c at *
          by_cases hlo : c < 48
          · have hlo2 : (c : Int) < 48 := by omega
            clear hd hlo
            go_wp2
            go_ret2
            exact ⟨by rw [hS2.out]; rfl, (Below.refl _ _).alloc (Nat.le_refl _) _⟩
          · have hlo2 : 57 < (c : Int) := by omega
            have hlo3 : ¬ (c : Int) < 48 := by omega
            clear hd hlo
            go_wp2
            go_ret2
            exact ⟨by rw [hS2.out]; rfl, (Below.refl _ _).alloc (Nat.le_refl _) _⟩
      · have hnx : ∀ ty, (Instr.next (.pointer (some ⟨w.heap.size, 0, none⟩)) true ty).run Tryd.prog (w.iter s k) = _ := fun ty => run_next_any w s k ty hp
        rw [if_neg (by omega)] at hst
        have hS2 := Lib.hid (hS.out.symm.trans hst)
        have hdec := decode_high s k (by rw [get_get s k hp]; omega)
        clear hst hS hw hn ha
        generalize (Utf8.decode s k).1 = c at *
        generalize k + (Utf8.decode s k).2 = k2 at *
        have hlo2 : 57 < (c : Int) := by omega
        have hlo3 : ¬ (c : Int) < 48 := by omega
        go_wp2
        go_ret2
        exact ⟨by rw [hS2.out]; rfl, (Below.refl _ _).alloc (Nat.le_refl _) _⟩
    · have hnx : ∀ ty, (Instr.next (.pointer (some ⟨w.heap.size, 0, none⟩)) true ty).run Tryd.prog (w.iter s k) = _ := fun ty => run_next_end w s k ty hp
      have hS2 := Lib.hid (hS.out.symm.trans (scan_end s k hp n))
      clear hS hw hn
      go_wp2
      go_ret2
      exact ⟨by rw [hS2.out]; rfl, (Below.refl _ _).alloc (Nat.le_refl _) _⟩
end Go.Proofs.YtokapficojgkgaaDoor
