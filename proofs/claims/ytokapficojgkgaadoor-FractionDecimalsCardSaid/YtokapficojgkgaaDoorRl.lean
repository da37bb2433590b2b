
/- The reference's digits with at least k places, and its Decimal. -/
import Derived.Test.YtokapficojgkgaaDoorPr
import Derived.Test.YtokapficojgkgaaDoorPd
import Derived.Test.YtokapficojgkgaaDoorDe
namespace Go.Proofs.YtokapficojgkgaaDoor
open Go.ChangeShapes Go.WideShapes Go.ChangeAt Go.RowKit Pl

theorem pd_front (i u : Nat) : pd (i + 1) u = UInt8.ofNat (48 + u / 10 ^ i % 10) :: pd i u := by
  induction i generalizing u with
  | zero =>
    rw [Nat.pow_zero, Nat.div_one]; rfl
  | succ i ih =>
    show pd (i + 1) (u / 10) ++ [UInt8.ofNat (48 + u % 10)] = _
    rw [ih, Nat.div_div_eq_div_mul, Nat.mul_comm 10, ← Nat.pow_succ]
    rfl
set_option maxRecDepth 100000 in
set_option maxHeartbeats 1000000 in
theorem digits_k (u k : Nat) (hk1 : 1 ≤ k) (hk : k ≤ 6) (hu : u < 10 ^ k) (w : World) :
    Calls Tryd.prog 21 #[.int .i64 (u : Int), .int .i64 (k : Int)] w fun e w' => e = .returned (.string ⟨(pd k u).toArray⟩) ∧ Below w.heap.size w w' := by
  have hu6 : u < 1000000 := Nat.lt_of_lt_of_le hu (by
    have h := Nat.pow_le_pow_right (show 0 < 10 by decide) hk
    exact h)
  have HZ := Lib.hid (show u / 10 ^ k = 0 from Nat.div_eq_of_lt hu)
  have HF := Lib.hid (fun i => pd_front i u)
  have HD := Lib.hid (fun i => show u / 10 ^ (i + 1) = u / 10 ^ i / 10 by rw [Nat.div_div_eq_div_mul, Nat.pow_succ])
  obtain ⟨D, hD⟩ : ∃ D, D = pd k u := ⟨_, rfl⟩
  rw [← hD]
  have HDk := Lib.hid hD
  clear hD hu
  go_enter Tryd.func21, Tryd.ntmps21
  go_wp2_with fail
  go_loopw [0, 5, 6] (fun cv sv iv wr => ∃ (c i : Nat) (T : ByteArray), cv = .int .i64 (c : Int) ∧ sv = .string T ∧ Hid (T = ⟨(pd i u).toArray⟩) ∧ iv = .int .i64 (i : Int) ∧ i ≤ k ∧ Hid (c = u / 10 ^ i) ∧ Hid (Below w.heap.size w wr)) (fun _ _ iv _ => k - (intOf iv).toNat)
  case atStart => exact ⟨u, 0, ⟨#[]⟩, rfl, rfl, Lib.hid rfl, rfl, Nat.zero_le _, Lib.hid (by rw [Nat.pow_zero, Nat.div_one]), Lib.hid (Below.refl _ _)⟩
  case round =>
    obtain ⟨c, i, T, rfl, rfl, HT, rfl, hi, HC, HB⟩ := hrel
    have hTs : T.size = i := by rw [HT.out]; exact List.size_toArray.trans (pd_len i u)
    by_cases hlt : i < k
    · have hcu : c ≤ u := by rw [HC.out]; exact Nat.div_le_self _ _
      have hc6 : c < 1000000 := by omega
      have hff := HF.out i
      have hdd := HD.out i
      rw [← HC.out] at hff hdd
      have hd10 : c % 10 < 10 := by omega
      obtain ⟨r, hr⟩ : ∃ r, r = c % 10 := ⟨_, rfl⟩
      obtain ⟨q, hq⟩ : ∃ q, q = c / 10 := ⟨_, rfl⟩
      rw [← hr] at hd10 hff
      rw [← hq] at hdd
      have e1 : (c : Int).tmod 10 = (r : Int) := by rw [Int.tmod_eq_emod_of_nonneg (by omega)]; omega
      have e1' : (c : Int) % 10 = (r : Int) := by omega
      have e2 : (c : Int).tdiv 10 = (q : Int) := by rw [Int.tdiv_eq_ediv_of_nonneg (by omega)]; omega
      have e2' : (c : Int) / 10 = (q : Int) := by omega
      have w1 : IntKind.i64.wrap (r : Int) = (r : Int) := by simp only [IntKind.wrap_i64]; omega
      have w2 : IntKind.i64.wrap (48 + (r : Int)) = 48 + (r : Int) := by simp only [IntKind.wrap_i64]; omega
      have w3 : IntKind.u8.wrap (48 + (r : Int)) = 48 + (r : Int) := by simp only [IntKind.wrap_u8]; omega
      have w4 : IntKind.i64.wrap (q : Int) = (q : Int) := by simp only [IntKind.wrap_i64]; omega
      have w5 : IntKind.i64.wrap ((i : Int) + 1) = (i : Int) + 1 := by simp only [IntKind.wrap_i64]; omega
      have hc0 : (0 : Int) ≤ (c : Int) := by omega
      have hik : (i : Int) < (k : Int) := by omega
      have HFF := Lib.hid hff
      have HDD := Lib.hid hdd
      have hcv := conv_digit hd10 wr
      obtain ⟨X, hX⟩ : ∃ X : ByteArray, X = ⟨#[UInt8.ofNat (48 + r)]⟩ := ⟨_, rfl⟩
      have hXs : X.size = 1 := by rw [hX]; rfl
      have n1 : ¬ 9223372036854775807 < X.size + T.size := by omega
      rw [← hX] at hcv
      have HX := Lib.hid hX
      clear hX hXs hTs hff hdd hr hq hcu hu6
      go_wp2_with fail
      go_roundw
      case rel => exact ⟨q, i + 1, X ++ T, rfl, rfl, Lib.hid (by rw [HX.out, HT.out, bytes_cons, HFF.out]), by go_num, by omega, Lib.hid HDD.out.symm, Lib.hid (HB.out.alloc HB.out.size _)⟩
      case measure => simp [intOf] <;> omega
    · obtain rfl : i = k := by omega
      have hc0 : c = 0 := by rw [HC.out]; exact HZ.out
      subst hc0
      have hT := HT.out
      rw [← HDk.out] at hT
      subst hT
      clear hTs
      go_wp2_with fail
      go_ret
      exact ⟨rfl, HB.out⟩
end Go.Proofs.YtokapficojgkgaaDoor
