/- checksum.Text (made by wip/bin/pick.py out of wip/ck) -/
import Derived.Test.YtajainkaomkbjaaBb
import Derived.BigQuiet
import Derived.Deep.QuietTactic
import Derived.Handy
import Derived.IntWalk
import Derived.KernelRfl
import Derived.Laws.BitsAllLaws
import Derived.Lib.Hide
import Derived.OpenShut
import Derived.Outline
import Derived.ProofKit
import Derived.WalkKit
namespace Go.Proofs.Ytajainkaomkbjaa.Ck
/-- The mixed word. -/
def word (s n : BitVec 64) : BitVec 64 :=
  let z := s * 11400714819323198485#64 + n
  let z := (z ^^^ z >>> 30) * 13787848793156543929#64
  let z := (z ^^^ z >>> 27) * 10723151780598845931#64
  z ^^^ z >>> 31
/-- The text's word: the length, then each byte. -/
def text (h : BitVec 64) : List UInt8 → BitVec 64
  | [] => h
  | b :: l => text (word h (BitVec.ofNat 64 b.toNat)) l
theorem text_snoc (h : BitVec 64) (l : List UInt8) (b : UInt8) : text h (l ++ [b]) = word (text h l) (BitVec.ofNat 64 b.toNat) := by
  induction l generalizing h with
  | nil => rfl
  | cons c l ih => simp [text, ih]
end Go.Proofs.Ytajainkaomkbjaa.Ck
namespace Go.Proofs.Ytajainkaomkbjaa
open Go.ChangeShapes Go.WideShapes Go.ChangeAt Go.RowKit Ck
theorem u64_lt (a : BitVec 64) : a.toNat < 18446744073709551616 := a.isLt
theorem wrap_nat64 (n : Nat) : IntKind.u64.wrap (n : Int) = ((BitVec.ofNat 64 n).toNat : Int) := by
  rw [IntKind.wrap_u64, BitVec.toNat_ofNat]; omega
theorem xor64 (a b : BitVec 64) : bits .xor .u64 (a.toNat : Int) (b.toNat : Int) = ((a ^^^ b).toNat : Int) := by
  rw [u64_xor_nat _ _ (u64_lt a) (u64_lt b), BitVec.toNat_xor]
theorem add64 (a b : BitVec 64) : IntKind.u64.wrap ((a.toNat : Int) + b.toNat) = ((a + b).toNat : Int) := by
  rw [← Int.natCast_add, wrap_nat64, BitVec.toNat_ofNat, BitVec.toNat_add]
theorem mul64 (a : BitVec 64) (c : Nat) : IntKind.u64.wrap ((a.toNat : Int) * (c : Int)) = ((a * BitVec.ofNat 64 c).toNat : Int) := by
  rw [← Int.natCast_mul, wrap_nat64, BitVec.toNat_ofNat, BitVec.toNat_mul, BitVec.toNat_ofNat, Nat.mul_mod, Nat.mul_mod a.toNat (c % 2 ^ 64), Nat.mod_mod]
theorem shr64 (a : BitVec 64) (k : Nat) : (a.toNat : Int) / (((2 ^ k : Nat) : Nat) : Int) = ((a >>> k).toNat : Int) := by
  rw [BitVec.toNat_ushiftRight, Nat.shiftRight_eq_div_pow, ← Int.natCast_ediv]
theorem shr30 (a : BitVec 64) : (a.toNat : Int) / (1073741824 : Int) = ((a >>> 30).toNat : Int) := shr64 a 30
theorem shr27 (a : BitVec 64) : (a.toNat : Int) / (134217728 : Int) = ((a >>> 27).toNat : Int) := shr64 a 27
theorem shr31 (a : BitVec 64) : (a.toNat : Int) / (2147483648 : Int) = ((a >>> 31).toNat : Int) := shr64 a 31
theorem mk1 (a : BitVec 64) : IntKind.u64.wrap ((a.toNat : Int) * (11400714819323198485 : Int)) = ((a * 11400714819323198485#64).toNat : Int) := mul64 a 11400714819323198485
theorem mk2 (a : BitVec 64) : IntKind.u64.wrap ((a.toNat : Int) * (13787848793156543929 : Int)) = ((a * 13787848793156543929#64).toNat : Int) := mul64 a 13787848793156543929
theorem mk3 (a : BitVec 64) : IntKind.u64.wrap ((a.toNat : Int) * (10723151780598845931 : Int)) = ((a * 10723151780598845931#64).toNat : Int) := mul64 a 10723151780598845931
theorem word_any (s n : BitVec 64) (w : World) :
    Calls Try.prog 89 #[.int .u64 s.toNat, .int .u64 n.toNat] w fun e w' => e = .returned (.int .u64 (word s n).toNat) ∧ w = w' := by
  go_enter Try.func89, Try.ntmps89
  go_wp2
  go_ret
  refine ⟨ret_int ?_, rfl⟩
  simp only [mk1, mk2, mk3, add64, shr30, shr27, shr31, xor64]
  rfl
theorem word_at (s n : BitVec 64) (a b : Int) (ha : a = s.toNat) (hb : b = n.toNat) (w : World) :
    Calls Try.prog 89 #[.int .u64 a, .int .u64 b] w fun e w' => e = .returned (.int .u64 (word s n).toNat) ∧ w = w' := by
  subst ha hb; exact word_any s n w
theorem wrapn64 (n : Int) : IntKind.u64.wrap n = ((BitVec.ofInt 64 n).toNat : Int) := by
  rw [IntKind.wrap_u64, BitVec.toNat_ofInt]; omega
theorem shorten_any (z : BitVec 64) (w : World) :
    Calls Try.prog 90 #[.int .u64 z.toNat] w fun e w' => e = .returned (.int .i64 ((z.toNat / 4 : Nat) : Int)) ∧ w = w' := by
  have := u64_lt z
  go_enter Try.func90, Try.ntmps90
  go_wp2
  go_ret
  exact ⟨ret_int (by omega), rfl⟩
theorem take_snoc (s : ByteArray) (k : Nat) (h : k < s.size) : s.data.toList.take (k + 1) = s.data.toList.take k ++ [s[k]] := by
  rw [List.take_succ_eq_append_getElem (by simpa using h)]; rfl
def textOf (s : BitVec 64) (t : ByteArray) : BitVec 64 := Ck.text (word s (BitVec.ofNat 64 t.size)) t.data.toList
theorem len64 (n : Nat) (h : n ≤ 9223372036854775807) : (n : Int) = ((BitVec.ofNat 64 n).toNat : Int) := by
  rw [BitVec.toNat_ofNat]; omega
set_option maxHeartbeats 400000 in
theorem text_any (s : Int) (t : ByteArray) (ht : t.size ≤ maxLen) (w : World) :
    Calls Try.prog 65 #[.int .i64 s, .string t] w fun e w' => e = .returned (.int .i64 (((textOf (BitVec.ofInt 64 s) t).toNat / 4 : Nat) : Int)) ∧ w = w' := by
  unfold maxLen at ht
  go_enter Try.func65, Try.ntmps65
  go_wp2_with fail
  refine (word_at (BitVec.ofInt 64 s) (BitVec.ofNat 64 t.size) _ _ (wrapn64 s) (len64 _ ht) _).mono ?_
  rintro e w' ⟨rfl, rfl⟩
  go_wp2_with fail
  go_loop [5, 15] (fun h i => ∃ k : Nat, k ≤ t.size ∧ i = .int .i64 k ∧ h = .int .u64 (Ck.text (word (BitVec.ofInt 64 s) (BitVec.ofNat 64 t.size)) (t.data.toList.take k)).toNat) (fun _ i => t.size - (intOf i).toNat)
  case atStart => exact ⟨0, Nat.zero_le _, rfl, rfl⟩
  case round =>
    obtain ⟨k, hk, rfl, rfl⟩ := hrel
    by_cases hlt : k < t.size
    · go_wp2_with fail
      refine (word_at (Ck.text (word (BitVec.ofInt 64 s) (BitVec.ofNat 64 t.size)) (t.data.toList.take k)) (BitVec.ofNat 64 t[k].toNat) _ _ rfl (wrap_nat64 _) _).mono ?_
      rintro e w' ⟨rfl, rfl⟩
      go_wp2_with fail
      go_round
      case rel => exact ⟨k + 1, by omega, by go_num, by rw [take_snoc _ _ hlt, text_snoc]⟩
      case measure => simp [intOf]; omega
    · obtain rfl : k = t.size := by omega
      go_wp2_with fail
      refine (shorten_any _ _).mono ?_
      rintro e w' ⟨rfl, rfl⟩
      go_wp2_with fail
      go_ret
      refine ⟨ret_int ?_, rfl⟩
      rw [List.take_of_length_le (by simp)]; rfl
end Go.Proofs.Ytajainkaomkbjaa
