/- What the mixing functions return: Word, Inverse, Mix, Text, and the reference's. -/
import Derived.Test.YtediohaamblpbaaDoorRows
import Derived.Test.YtediohaamblpbaaDoorCk
import Derived.WalkKit
import Derived.ProofKit
import Derived.OpenShut
import Derived.Handy
import Derived.Lib.Hide
import Derived.IntWalk
import Derived.Outline
import Derived.Laws.BitsAllLaws
import Derived.Deep.QuietTactic
import Derived.BigQuiet
namespace Go.Proofs.YtediohaamblpbaaDoor
open Go.ChangeShapes Go.WideShapes Go.ChangeAt Go.RowKit Ck

theorem ret_int {k : IntKind} {a b : Int} (h : a = b) : Ending.returned (.int k a) = .returned (.int k b) := by rw [h]

/- Unsigned words of 64 bits as bit vectors. -/
theorem u64_lt (a : BitVec 64) : a.toNat < 18446744073709551616 := a.isLt
theorem wrap_nat64 (n : Nat) : IntKind.u64.wrap (n : Int) = ((BitVec.ofNat 64 n).toNat : Int) := by
  rw [IntKind.wrap_u64, BitVec.toNat_ofNat]; omega
theorem xor64 (a b : BitVec 64) : bits .xor .u64 (a.toNat : Int) (b.toNat : Int) = ((a ^^^ b).toNat : Int) := by
  rw [u64_xor_nat _ _ (u64_lt a) (u64_lt b), BitVec.toNat_xor]
theorem add64 (a b : BitVec 64) : IntKind.u64.wrap ((a.toNat : Int) + b.toNat) = ((a + b).toNat : Int) := by
  rw [← Int.natCast_add, wrap_nat64, BitVec.toNat_ofNat, BitVec.toNat_add]
theorem mul64 (a : BitVec 64) (c : Nat) : IntKind.u64.wrap ((a.toNat : Int) * (c : Int)) = ((a * BitVec.ofNat 64 c).toNat : Int) := by
  rw [← Int.natCast_mul, wrap_nat64, BitVec.toNat_ofNat, BitVec.toNat_mul, BitVec.toNat_ofNat, Nat.mul_mod, Nat.mul_mod a.toNat (c % 2 ^ 64), Nat.mod_mod]
theorem mulv64 (a b : BitVec 64) : IntKind.u64.wrap ((a.toNat : Int) * (b.toNat : Int)) = ((a * b).toNat : Int) := by
  rw [← Int.natCast_mul, wrap_nat64, BitVec.toNat_ofNat, BitVec.toNat_mul]
theorem sub64 (a b : BitVec 64) : IntKind.u64.wrap ((a.toNat : Int) - b.toNat) = ((a - b).toNat : Int) := by
  have := u64_lt a
  have := u64_lt b
  rw [IntKind.wrap_u64, BitVec.toNat_sub]; omega
theorem shr64 (a : BitVec 64) (k : Nat) : (a.toNat : Int) / (((2 ^ k : Nat) : Nat) : Int) = ((a >>> k).toNat : Int) := by
  rw [BitVec.toNat_ushiftRight, Nat.shiftRight_eq_div_pow, ← Int.natCast_ediv]
theorem shr30 (a : BitVec 64) : (a.toNat : Int) / (1073741824 : Int) = ((a >>> 30).toNat : Int) := shr64 a 30
theorem shr27 (a : BitVec 64) : (a.toNat : Int) / (134217728 : Int) = ((a >>> 27).toNat : Int) := shr64 a 27
theorem shr31 (a : BitVec 64) : (a.toNat : Int) / (2147483648 : Int) = ((a >>> 31).toNat : Int) := shr64 a 31
theorem shr60 (a : BitVec 64) : (a.toNat : Int) / (1152921504606846976 : Int) = ((a >>> 60).toNat : Int) := shr64 a 60
theorem shr54 (a : BitVec 64) : (a.toNat : Int) / (18014398509481984 : Int) = ((a >>> 54).toNat : Int) := shr64 a 54
theorem shr62 (a : BitVec 64) : (a.toNat : Int) / (4611686018427387904 : Int) = ((a >>> 62).toNat : Int) := shr64 a 62
theorem mk1 (a : BitVec 64) : IntKind.u64.wrap ((a.toNat : Int) * (11400714819323198485 : Int)) = ((a * 11400714819323198485#64).toNat : Int) := mul64 a 11400714819323198485
theorem mk2 (a : BitVec 64) : IntKind.u64.wrap ((a.toNat : Int) * (13787848793156543929 : Int)) = ((a * 13787848793156543929#64).toNat : Int) := mul64 a 13787848793156543929
theorem mk3 (a : BitVec 64) : IntKind.u64.wrap ((a.toNat : Int) * (10723151780598845931 : Int)) = ((a * 10723151780598845931#64).toNat : Int) := mul64 a 10723151780598845931

theorem word_any (s n : BitVec 64) (w : World) :
    Calls Tryd.prog 13 #[.int .u64 s.toNat, .int .u64 n.toNat] w fun e w' => e = .returned (.int .u64 (word s n).toNat) ∧ w = w' := by
  go_enter Tryd.func13, Tryd.ntmps13
  go_wp2
  go_ret
  refine ⟨ret_int ?_, rfl⟩
  simp only [mk1, mk2, mk3, add64, shr30, shr27, shr31, xor64]
  rfl
theorem rword_any (s n : BitVec 64) (w : World) :
    Calls Tryd.prog 15 #[.int .u64 s.toNat, .int .u64 n.toNat] w fun e w' => e = .returned (.int .u64 (word s n).toNat) ∧ w = w' := by
  go_enter Tryd.func15, Tryd.ntmps15
  go_wp2
  go_ret
  refine ⟨ret_int ?_, rfl⟩
  simp only [mk1, mk2, mk3, add64, shr30, shr27, shr31, xor64]
  rfl
theorem word_at (s n : BitVec 64) (a b : Int) (ha : a = s.toNat) (hb : b = n.toNat) (w : World) :
    Calls Tryd.prog 13 #[.int .u64 a, .int .u64 b] w fun e w' => e = .returned (.int .u64 (word s n).toNat) ∧ w = w' := by
  subst ha hb; exact word_any s n w
theorem rword_at (s n : BitVec 64) (a b : Int) (ha : a = s.toNat) (hb : b = n.toNat) (w : World) :
    Calls Tryd.prog 15 #[.int .u64 a, .int .u64 b] w fun e w' => e = .returned (.int .u64 (word s n).toNat) ∧ w = w' := by
  subst ha hb; exact rword_any s n w

def newton (f : BitVec 64) : Nat → BitVec 64
  | 0 => f
  | k + 1 => newton f k * (2#64 - f * newton f k)
theorem two_sub (b : BitVec 64) : IntKind.u64.wrap (2 - (b.toNat : Int)) = ((2#64 - b).toNat : Int) := sub64 2#64 b
theorem recip_any (f : BitVec 64) (w : World) :
    Calls Tryd.prog 33 #[.int .u64 f.toNat] w fun e w' => e = .returned (.int .u64 (newton f 5).toNat) ∧ w = w' := by
  go_enter Tryd.func33, Tryd.ntmps33
  go_wp2
  go_loop [3, 5] (fun x i => ∃ k : Nat, k ≤ 5 ∧ i = .int .i64 k ∧ x = .int .u64 (newton f k).toNat) (fun _ i => 5 - (intOf i).toNat)
  case atStart => exact ⟨0, Nat.zero_le _, rfl, rfl⟩
  case round =>
    obtain ⟨k, hk, rfl, rfl⟩ := hrel
    by_cases hlt : k < 5
    · go_wp2
      go_round
      case rel =>
        refine ⟨k + 1, by omega, by go_num, ?_⟩
        rw [mulv64, two_sub, mulv64]; rfl
      case measure => simp [intOf]; omega
    · obtain rfl : k = 5 := by omega
      go_wp2
      go_ret
      exact ⟨rfl, rfl⟩
theorem newton1 : newton 13787848793156543929#64 5 = inv1 := by decide +kernel
theorem newton2 : newton 10723151780598845931#64 5 = inv2 := by decide +kernel
theorem recip1 (w : World) :
    Calls Tryd.prog 33 #[.int .u64 13787848793156543929] w fun e w' => e = .returned (.int .u64 inv1.toNat) ∧ w = w' := by
  have h := recip_any 13787848793156543929#64 w
  rwa [newton1] at h
theorem recip2 (w : World) :
    Calls Tryd.prog 33 #[.int .u64 10723151780598845931] w fun e w' => e = .returned (.int .u64 inv2.toNat) ∧ w = w' := by
  have h := recip_any 10723151780598845931#64 w
  rwa [newton2] at h

theorem unshift31 (z : BitVec 64) (w : World) :
    Calls Tryd.prog 32 #[.int .u64 z.toNat, .int .i64 31] w fun e w' => e = .returned (.int .u64 (unsh z 31).toNat) ∧ ∃ n, w' = w.drewN n := by
  go_enter Tryd.func32, Tryd.ntmps32
  go_wp2
  go_quiet (fail)
  go_wp2
  go_ret
  refine ⟨ret_int ?_, _, rfl⟩
  rw [shr31, shr62, xor64, xor64]; rfl
theorem unshift27 (z : BitVec 64) (w : World) :
    Calls Tryd.prog 32 #[.int .u64 z.toNat, .int .i64 27] w fun e w' => e = .returned (.int .u64 (unsh z 27).toNat) ∧ ∃ n, w' = w.drewN n := by
  go_enter Tryd.func32, Tryd.ntmps32
  go_wp2
  go_quiet (fail)
  go_wp2
  go_ret
  refine ⟨ret_int ?_, _, rfl⟩
  rw [shr27, shr54, xor64, xor64]; rfl
theorem unshift30 (z : BitVec 64) (w : World) :
    Calls Tryd.prog 32 #[.int .u64 z.toNat, .int .i64 30] w fun e w' => e = .returned (.int .u64 (unsh z 30).toNat) ∧ ∃ n, w' = w.drewN n := by
  go_enter Tryd.func32, Tryd.ntmps32
  go_wp2
  go_quiet (fail)
  go_wp2
  go_ret
  refine ⟨ret_int ?_, _, rfl⟩
  rw [shr30, shr60, xor64, xor64]; rfl

theorem unshift27_at (z : BitVec 64) (v : Int) (h : v = z.toNat) (w : World) :
    Calls Tryd.prog 32 #[.int .u64 v, .int .i64 27] w fun e w' => e = .returned (.int .u64 (unsh z 27).toNat) ∧ ∃ n, w' = w.drewN n := by
  subst h; exact unshift27 z w
theorem unshift30_at (z : BitVec 64) (v : Int) (h : v = z.toNat) (w : World) :
    Calls Tryd.prog 32 #[.int .u64 v, .int .i64 30] w fun e w' => e = .returned (.int .u64 (unsh z 30).toNat) ∧ ∃ n, w' = w.drewN n := by
  subst h; exact unshift30 z w
theorem inverse_any (s z : BitVec 64) (w : World) :
    Calls Tryd.prog 16 #[.int .u64 s.toNat, .int .u64 z.toNat] w fun e w' => e = .returned (.int .u64 (Ck.inv s z).toNat) ∧ ∃ n, w' = w.drewN n := by
  go_enter Tryd.func16, Tryd.ntmps16
  go_wp2_with fail
  refine (unshift31 _ _).mono ?_
  rintro e w' ⟨rfl, n1, rfl⟩
  go_wp2_with fail
  refine (recip2 _).mono ?_
  rintro e w' ⟨rfl, rfl⟩
  go_wp2_with fail
  refine (unshift27_at _ _ (mulv64 _ _) _).mono ?_
  rintro e w' ⟨rfl, n2, rfl⟩
  go_wp2_with fail
  refine (recip1 _).mono ?_
  rintro e w' ⟨rfl, rfl⟩
  go_wp2_with fail
  refine (unshift30_at _ _ (mulv64 _ _) _).mono ?_
  rintro e w' ⟨rfl, n3, rfl⟩
  go_wp2_with fail
  go_ret
  refine ⟨ret_int ?_, ?_⟩
  · rw [mk1, sub64, Ck.inv]
  · exact ⟨_, rfl⟩

def mix (s n : BitVec 64) : Int := ((word s n).toNat / 4 : Nat)
theorem mix_bd (s n : BitVec 64) : 0 ≤ mix s n ∧ mix s n < 4611686018427387904 := by
  have := u64_lt (word s n)
  unfold mix; omega
theorem wrapn64 (n : Int) : IntKind.u64.wrap n = ((BitVec.ofInt 64 n).toNat : Int) := by
  rw [IntKind.wrap_u64, BitVec.toNat_ofInt]; omega
theorem shorten_any (z : BitVec 64) (w : World) :
    Calls Tryd.prog 34 #[.int .u64 z.toNat] w fun e w' => e = .returned (.int .i64 ((z.toNat / 4 : Nat) : Int)) ∧ w = w' := by
  have := u64_lt z
  go_enter Tryd.func34, Tryd.ntmps34
  go_wp2
  go_ret
  exact ⟨ret_int (by omega), rfl⟩
theorem mix_any (s n : Int) (w : World) :
    Calls Tryd.prog 17 #[.int .i64 s, .int .i64 n] w fun e w' => e = .returned (.int .i64 (mix (BitVec.ofInt 64 s) (BitVec.ofInt 64 n))) ∧ w = w' := by
  go_enter Tryd.func17, Tryd.ntmps17
  go_wp2_with fail
  refine (word_at (BitVec.ofInt 64 s) (BitVec.ofInt 64 n) _ _ (wrapn64 s) (wrapn64 n) _).mono ?_
  rintro e w' ⟨rfl, rfl⟩
  go_wp2_with fail
  refine (shorten_any _ _).mono ?_
  rintro e w' ⟨rfl, rfl⟩
  go_wp2_with fail
  go_ret
  exact ⟨rfl, rfl⟩

theorem take_snoc (s : ByteArray) (k : Nat) (h : k < s.size) : s.data.toList.take (k + 1) = s.data.toList.take k ++ [s[k]] := by
  rw [List.take_succ_eq_append_getElem (by simpa using h)]; rfl
def textOf (s : BitVec 64) (t : ByteArray) : BitVec 64 := Ck.text (word s (BitVec.ofNat 64 t.size)) t.data.toList
theorem len64 (n : Nat) (h : n ≤ 9223372036854775807) : (n : Int) = ((BitVec.ofNat 64 n).toNat : Int) := by
  rw [BitVec.toNat_ofNat]; omega
set_option maxHeartbeats 400000 in
theorem text_any (s : Int) (t : ByteArray) (ht : t.size ≤ maxLen) (w : World) :
    Calls Tryd.prog 18 #[.int .i64 s, .string t] w fun e w' => e = .returned (.int .i64 (((textOf (BitVec.ofInt 64 s) t).toNat / 4 : Nat) : Int)) ∧ w = w' := by
  unfold maxLen at ht
  go_enter Tryd.func18, Tryd.ntmps18
  go_wp2_with fail
  refine (word_at (BitVec.ofInt 64 s) (BitVec.ofNat 64 t.size) _ _ (wrapn64 s) (len64 _ ht) _).mono ?_
  rintro e w' ⟨rfl, rfl⟩
  go_wp2_with fail
  go_loop [5, 15] (fun h i => ∃ k : Nat, k ≤ t.size ∧ i = .int .i64 k ∧ h = .int .u64 (Ck.text (word (BitVec.ofInt 64 s) (BitVec.ofNat 64 t.size)) (t.data.toList.take k)).toNat) (fun _ i => t.size - (intOf i).toNat)
  case atStart => exact ⟨0, Nat.zero_le _, rfl, rfl⟩
  case round =>
    obtain ⟨k, hk, rfl, rfl⟩ := hrel
    by_cases hlt : k < t.size
    · go_wp2_with fail
      refine (word_at (Ck.text (word (BitVec.ofInt 64 s) (BitVec.ofNat 64 t.size)) (t.data.toList.take k)) (BitVec.ofNat 64 t[k].toNat) _ _ rfl (wrap_nat64 _) _).mono ?_
      rintro e w' ⟨rfl, rfl⟩
      go_wp2_with fail
      go_round
      case rel => exact ⟨k + 1, by omega, by go_num, by rw [take_snoc _ _ hlt, text_snoc]⟩
      case measure => simp [intOf]; omega
    · obtain rfl : k = t.size := by omega
      go_wp2_with fail
      refine (shorten_any _ _).mono ?_
      rintro e w' ⟨rfl, rfl⟩
      go_wp2_with fail
      go_ret
      refine ⟨ret_int ?_, rfl⟩
      rw [List.take_of_length_le (by simp)]; rfl
set_option maxHeartbeats 400000 in
theorem rtext_any (s : BitVec 64) (v : Int) (hv : v = s.toNat) (t : ByteArray) (ht : t.size ≤ maxLen) (w : World) :
    Calls Tryd.prog 19 #[.int .u64 v, .string t] w fun e w' => e = .returned (.int .u64 (textOf s t).toNat) ∧ w = w' := by
  subst hv
  unfold maxLen at ht
  go_enter Tryd.func19, Tryd.ntmps19
  go_wp2_with fail
  refine (rword_at s (BitVec.ofNat 64 t.size) _ _ rfl (len64 _ ht) _).mono ?_
  rintro e w' ⟨rfl, rfl⟩
  go_wp2_with fail
  go_loop [5, 6] (fun h i => ∃ k : Nat, k ≤ t.size ∧ i = .int .i64 k ∧ h = .int .u64 (Ck.text (word s (BitVec.ofNat 64 t.size)) (t.data.toList.take k)).toNat) (fun _ i => t.size - (intOf i).toNat)
  case atStart => exact ⟨0, Nat.zero_le _, rfl, rfl⟩
  case round =>
    obtain ⟨k, hk, rfl, rfl⟩ := hrel
    by_cases hlt : k < t.size
    · go_wp2_with fail
      refine (rword_at (Ck.text (word s (BitVec.ofNat 64 t.size)) (t.data.toList.take k)) (BitVec.ofNat 64 t[k].toNat) _ _ rfl (wrap_nat64 _) _).mono ?_
      rintro e w' ⟨rfl, rfl⟩
      go_wp2_with fail
      go_round
      case rel => exact ⟨k + 1, by omega, by go_num, by rw [take_snoc _ _ hlt, text_snoc]⟩
      case measure => simp [intOf]; omega
    · obtain rfl : k = t.size := by omega
      go_wp2_with fail
      go_ret
      refine ⟨ret_int ?_, rfl⟩
      rw [List.take_of_length_le (by simp)]; rfl
end Go.Proofs.YtediohaamblpbaaDoor
