
/- What the small functions of the package return: magnitude, divisor, floor. -/
import Derived.Test.YtokapficojgkgaaDoorRows
import Derived.Test.YtokapficojgkgaaDoorPl
import Derived.WalkKit
import Derived.ProofKit
import Derived.OpenShut
import Derived.Handy
import Derived.Lib.Hide
import Derived.IntWalk
import Derived.Deep.QuietTactic
import Derived.BigQuiet
namespace Go.Proofs.YtokapficojgkgaaDoor
open Go.ChangeShapes Go.WideShapes Go.ChangeAt Go.RowKit Pl

/-- A store and a new block pass a draw by: so that the walk writes stores into the new block itself. -/
@[go_sem] theorem setCell_drewN (w : World) (n : Nat) (a : Addr) (v : Value) : (w.drewN n).setCell a v = (w.setCell a v).drewN n := rfl
@[go_sem] theorem alloc_drewN (w : World) (n : Nat) (o : Obj) : (w.drewN n).alloc o = (w.alloc o).drewN n := rfl

theorem ret_int {k : IntKind} {a b : Int} (h : a = b) : Ending.returned (.int k a) = .returned (.int k b) := by rw [h]

theorem mag_wrap (n : Int) (h1 : -9223372036854775808 ≤ n) (hn : n < 0) : IntKind.u64.wrap (-IntKind.u64.wrap n) = ((n.natAbs : Nat) : Int) := by
  simp only [IntKind.wrap_u64]; omega

theorem magnitude_any (n : Int) (h1 : -9223372036854775808 ≤ n) (h2 : n ≤ 9223372036854775807) (w : World) :
    Calls Tryd.prog 25 #[.int .i64 n] w fun e w' => e = .returned (.int .u64 n.natAbs) ∧ w = w' := by
  by_cases hn : n < 0
  · go_enter Tryd.func25, Tryd.ntmps25
    go_wp2
    go_ret
    exact ⟨ret_int (mag_wrap n h1 hn), rfl⟩
  · go_enter Tryd.func25, Tryd.ntmps25
    go_wp2
    go_ret
    exact ⟨ret_int (by omega), rfl⟩

theorem rmagnitude_any (n : Int) (h1 : -9223372036854775808 ≤ n) (h2 : n ≤ 9223372036854775807) (w : World) :
    Calls Tryd.prog 17 #[.int .i64 n] w fun e w' => e = .returned (.int .u64 n.natAbs) ∧ w = w' := by
  have hw : IntKind.u64.wrap (0 - IntKind.u64.wrap n) = IntKind.u64.wrap (-IntKind.u64.wrap n) := by rw [Int.zero_sub]
  by_cases hn : n < 0
  · go_enter Tryd.func17, Tryd.ntmps17
    go_wp2
    go_ret
    exact ⟨ret_int (mag_wrap n h1 hn), rfl⟩
  · go_enter Tryd.func17, Tryd.ntmps17
    go_wp2
    go_ret
    exact ⟨ret_int (by omega), rfl⟩

theorem tdiv_bd (x d : Int) (hd : 1 ≤ d) (h1 : -1152921504606846976 ≤ x) (h2 : x ≤ 1152921504606846976) (h3 : d ≤ 1048576) :
    -1152921504606846976 ≤ x.tdiv d ∧ x.tdiv d ≤ 1152921504606846976 ∧ -1152921504607895552 ≤ x.tdiv d * d ∧ x.tdiv d * d ≤ 1152921504607895552 := by
  have e : (x.tdiv d).natAbs = x.natAbs / d.natAbs := Int.natAbs_tdiv ..
  have := Nat.div_le_self x.natAbs d.natAbs
  have hq := floor_q x d hd
  have g1 := Int.mul_ediv_add_emod x d
  have g2 := Int.emod_nonneg x (show d ≠ 0 by omega)
  have g3 := Int.emod_lt_of_pos x (show 0 < d by omega)
  have hm : d * (x / d) = x / d * d := Int.mul_comm _ _
  have : (x / d + 1) * d = x / d * d + d := by rw [Int.add_mul, Int.one_mul]
  refine ⟨by omega, by omega, ?_⟩
  by_cases hc : x.tdiv d * d > x
  · rw [if_pos hc] at hq
    have : x.tdiv d = x / d + 1 := by omega
    rw [this]; omega
  · rw [if_neg hc] at hq
    rw [hq]; omega

theorem prod_bd {a b A B : Int} (h1 : -A ≤ a) (h2 : a ≤ A) (h3 : -B ≤ b) (h4 : b ≤ B) : -(A * B) ≤ a * b ∧ a * b ≤ A * B := by
  have hA : 0 ≤ A := by omega
  have hB : 0 ≤ B := by omega
  have e : (a * b).natAbs ≤ A.natAbs * B.natAbs := by
    rw [Int.natAbs_mul]; exact Nat.mul_le_mul (by omega) (by omega)
  have e2 : ((A.natAbs * B.natAbs : Nat) : Int) = A * B := by
    rw [Int.natCast_mul, Int.natAbs_of_nonneg hA, Int.natAbs_of_nonneg hB]
  omega

theorem divisor_any (a b : Nat) (ha : (a : Int) ≤ 18446744073709551615) (hb : (b : Int) ≤ 18446744073709551615) (w : World) :
    Calls Tryd.prog 29 #[.int .u64 a, .int .u64 b] w fun e w' => e = .returned (.int .u64 (Nat.gcd a b : Nat)) ∧ w = w' := by
  go_enter Tryd.func29, Tryd.ntmps29
  go_wp2
  go_loop [0, 1] (fun x y => ∃ p q : Nat, (p : Int) ≤ 18446744073709551615 ∧ (q : Int) ≤ 18446744073709551615 ∧ x = .int .u64 p ∧ y = .int .u64 q ∧ Hid (Nat.gcd p q = Nat.gcd a b)) (fun x _ => (intOf x).toNat)
  case atStart => exact ⟨a, b, ha, hb, rfl, rfl, Lib.hid rfl⟩
  case round =>
    obtain ⟨p, q, hp, hq, rfl, rfl, hg⟩ := hrel
    by_cases h0 : p = 0
    · have h1 : ((p : Int) != 0) = false := by simp [h0]
      have h0 := Lib.hid h0
      go_wp2
      go_ret
      exact ⟨ret_int (by rw [← hg.out, h0.out, Nat.gcd_zero_left]), rfl⟩
    · have h1 : ((p : Int) != 0) = true := by simp [h0]
      have h2 : 0 < (p : Int) := by omega
      have hl : q % p < p := Nat.mod_lt _ (by omega)
      go_wp2
      exact ⟨⟨q % p, p, by omega, hp, by simp, rfl, Lib.hid (by rw [← hg.out]; exact gcd_step p q h0)⟩, by simp [intOf]; omega⟩
theorem rdivisor_any (a b : Nat) (ha : (a : Int) ≤ 18446744073709551615) (hb : (b : Int) ≤ 18446744073709551615) (w : World) :
    Calls Tryd.prog 16 #[.int .u64 a, .int .u64 b] w fun e w' => e = .returned (.int .u64 (Nat.gcd a b : Nat)) ∧ ∃ n, w' = w.drewN n := by
  go_enter Tryd.func16, Tryd.ntmps16
  go_wp2
  go_loopw [0, 1] (fun x y wr => ∃ p q n : Nat, (p : Int) ≤ 18446744073709551615 ∧ (q : Int) ≤ 18446744073709551615 ∧ x = .int .u64 p ∧ y = .int .u64 q ∧ Hid (Nat.gcd p q = Nat.gcd a b) ∧ wr = w.drewN n) (fun _ y _ => (intOf y).toNat)
  case atStart => exact ⟨a, b, 0, ha, hb, rfl, rfl, Lib.hid rfl, rfl⟩
  case round =>
    obtain ⟨p, q, n, hp, hq, rfl, rfl, hg, rfl⟩ := hrel
    by_cases h0 : q = 0
    · have h1 : ((q : Int) != 0) = false := by simp [h0]
      have h0 := Lib.hid h0
      go_wp2
      go_ret
      exact ⟨ret_int (by rw [← hg.out, h0.out, Nat.gcd_zero_right]), n, rfl⟩
    · have h1 : ((q : Int) != 0) = true := by simp [h0]
      have h2 : 0 < (q : Int) := by omega
      have hl : p % q < q := Nat.mod_lt _ (by omega)
      go_wp2
      go_quiet (fail)
      go_wp2
      exact ⟨⟨q, p % q, n + nq, hq, by omega, rfl, by simp, Lib.hid (by rw [← hg.out, Nat.gcd_comm, Nat.gcd_comm p q]; exact gcd_step q p h0), by rw [World.drewN_drewN]⟩, by simp [intOf]; omega⟩
theorem floorOf_any (n a d : Int) (h1 : -1099511627776 ≤ n) (h2 : n ≤ 1099511627776) (h3 : -1048576 ≤ a) (h4 : a ≤ 1048576) (h5 : 1 ≤ d) (h6 : d ≤ 1048576) (w : World) :
    Calls Tryd.prog 22 #[.int .i64 n, .agg #[.int .i64 a, .int .i64 d]] w fun e w' => e = .returned (.int .i64 (n * a / d)) ∧ Below w.heap.size w w' := by
  obtain ⟨p1, p2⟩ := prod_bd h1 h2 h3 h4
  obtain ⟨t1, t2, t3, t4⟩ := tdiv_bd (n * a) d h5 p1 p2 h6
  have hf := floor_q (n * a) d h5
  by_cases hc : n * a < (n * a).tdiv d * d
  · have hr := Lib.hid (if_pos hc ▸ hf)
    clear hf
    go_enter Tryd.func22, Tryd.ntmps22
    go_wp2
    go_ret
    exact ⟨ret_int hr.out, (Below.refl _ _).alloc (Nat.le_refl _) _⟩
  · have hr := Lib.hid (if_neg hc ▸ hf)
    clear hf
    go_enter Tryd.func22, Tryd.ntmps22
    go_wp2
    go_ret
    exact ⟨ret_int hr.out, (Below.refl _ _).alloc (Nat.le_refl _) _⟩
theorem rfloor_any (x d : Int) (h1 : -1152921504606846976 ≤ x) (h2 : x ≤ 1152921504606846976) (h5 : 1 ≤ d) (h6 : d ≤ 1048576) (w : World) :
    Calls Tryd.prog 41 #[.int .i64 x, .int .i64 d] w fun e w' => e = .returned (.int .i64 (x / d)) ∧ w = w' := by
  obtain ⟨t1, t2, t3, t4⟩ := tdiv_bd x d h5 h1 h2 h6
  have hf := floor_r x d h5
  by_cases hc : x.tmod d < 0
  · have hr := Lib.hid (if_pos hc ▸ hf)
    clear hf
    go_enter Tryd.func41, Tryd.ntmps41
    go_wp2
    go_ret
    exact ⟨ret_int hr.out, rfl⟩
  · have hr := Lib.hid (if_neg hc ▸ hf)
    clear hf
    go_enter Tryd.func41, Tryd.ntmps41
    go_wp2
    go_ret
    exact ⟨ret_int hr.out, rfl⟩
end Go.Proofs.YtokapficojgkgaaDoor
