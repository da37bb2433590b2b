/- math/bits.Div64. -/
import Derived.Test.YtajainkaomkbjaaShelf
import Derived.Test.YtajainkaomkbjaaDv
import Derived.Test.YtajainkaomkbjaaBb
import Derived.Laws.Bits64b
import Derived.Lib.BitFns
import Derived.Lib.ItoaNum
import Derived.Deep.DeepCutAuto
import Derived.Deep.CutBlock
namespace Go.Proofs.Ytajainkaomkbjaa
open Go.ChangeShapes Go.WideShapes Go.ChangeAt Go.RowKit Go.Joins

set_option maxRecDepth 100000 in
set_option maxHeartbeats 2000000 in
theorem div64_zero (lo y : Nat) (hy0 : 0 < y) (hlo : lo < 18446744073709551616) (hy : y < 18446744073709551616) (w : World) :
    Calls Try.prog 97 #[.int .u64 0, .int .u64 (lo : Int), .int .u64 (y : Int)] w fun e w' => (∃ r : Int, e = .returned (.tuple #[.int .u64 ((lo / y : Nat) : Int), .int .u64 r])) ∧ Below w.heap.size w w' := by
  have hne : ((y : Int) == 0) = false := by rw [beq_eq_false_iff_ne]; omega
  have hle : ¬ (y : Int) ≤ 0 := by omega
  have hld : decide ((y : Int) ≤ 0) = false := by simpa using hle
  obtain ⟨q, hq⟩ : ∃ q, q = lo / y := ⟨_, rfl⟩
  obtain ⟨r, hr⟩ : ∃ q, q = lo % y := ⟨_, rfl⟩
  have hq1 : q ≤ lo := by rw [hq]; exact Nat.div_le_self _ _
  have e1 : (lo : Int).tdiv (y : Int) = (q : Int) := by rw [Int.tdiv_eq_ediv_of_nonneg (by omega), hq]; rfl
  have e2 : (lo : Int).tmod (y : Int) = (r : Int) := by rw [Int.tmod_eq_emod_of_nonneg (by omega), hr]; rfl
  have e3 : (lo : Int) / (y : Int) = (q : Int) := by rw [hq]; rfl
  have e4 : (lo : Int) % (y : Int) = (r : Int) := by rw [hr]; rfl
  have w1 : IntKind.u64.wrap (q : Int) = (q : Int) := by rw [IntKind.wrap_u64]; omega
  rw [← hq]
  clear hq hr hq1
  go_enter Try.func97, Try.ntmps97
  go_wp2_with fail
  go_quiet (fail)
  go_wp2_with fail
  go_ret2
  exact ⟨⟨_, rfl⟩, below_drewN (Below.refl _ _) _⟩
set_option maxRecDepth 100000 in
set_option maxHeartbeats 2000000 in
theorem div64_pos (hi lo y s : Nat) (hh : 0 < hi) (hhi : hi < y) (hlo : lo < 18446744073709551616) (hy : y < 18446744073709551616) (hs : s = 64 - Lib.bitLen y) (w : World) :
    Calls Try.prog 97 #[.int .u64 (hi : Int), .int .u64 (lo : Int), .int .u64 (y : Int)] w fun e w' => (∃ r : Int, e = .returned (.tuple #[.int .u64 (((hi * 18446744073709551616 + lo) / y : Nat) : Int), .int .u64 r])) ∧ Below w.heap.size w w' := by
  have hne : ((y : Int) == 0) = false := by rw [beq_eq_false_iff_ne]; omega
  have hne2 : ((hi : Int) == 0) = false := by rw [beq_eq_false_iff_ne]; omega
  have hle : ¬ (y : Int) ≤ (hi : Int) := by omega
  have hld : decide ((y : Int) ≤ (hi : Int)) = false := by simpa using hle
  have hbl : Lib.bitLen y ≤ 64 := Lib.bitLen_le y 64 (Nat.le_refl _) hy
  have hLZ : Hid (∀ W, Calls Try.prog 100 #[.int .u64 (y : Int)] W fun e w' => e = .returned (.int .i64 (s : Int)) ∧ W = w') := Lib.hid (fun W => (Try.bits_LeadingZeros64 (y : Int) W (by omega) (by omega)).mono (by
    rintro e w' ⟨rfl, rfl⟩
    refine ⟨ret_int ?_, rfl⟩
    rw [Int.toNat_natCast, hs]; omega))
  have hs0 : (0 : Int) ≤ (s : Int) := by omega
  have hs64 : (s : Int) ≤ 64 := by omega
  have w1 : IntKind.u64.wrap (s : Int) = (s : Int) := by rw [IntKind.wrap_u64]; omega
  have w2 : IntKind.u64.wrap (64 - (s : Int)) = 64 - (s : Int) := by rw [IntKind.wrap_u64]; omega
  have hbits : 2 ^ (64 - s) ≤ 2 * y ∧ y < 2 ^ (64 - s) := by
    obtain ⟨h1, h2, h3⟩ := Lib.bitLenAux_bounds 64 y hy (by omega)
    have e : 64 - s = Lib.bitLenAux 64 y := by rw [hs]; show 64 - (64 - Lib.bitLenAux 64 y) = _; have : Lib.bitLenAux 64 y ≤ 64 := hbl; omega
    rw [e]
    refine ⟨?_, h3⟩
    obtain ⟨k, hk⟩ : ∃ k, Lib.bitLenAux 64 y = k + 1 := ⟨Lib.bitLenAux 64 y - 1, by omega⟩
    rw [hk] at h2 ⊢
    rw [Nat.add_sub_cancel] at h2
    rw [Nat.pow_succ]; omega
  have e64 : 2 ^ (64 - s) * 2 ^ s = 18446744073709551616 := by rw [← Nat.pow_add, show 64 - s + s = 64 by omega]
  have hp : 0 < 2 ^ s := Nat.two_pow_pos s
  have hY1 : y * 2 ^ s < 18446744073709551616 := by rw [← e64]; exact Nat.mul_lt_mul_of_pos_right hbits.2 hp
  have hY2 : 9223372036854775808 ≤ y * 2 ^ s := by
    have := Nat.mul_le_mul_right (2 ^ s) hbits.1
    rw [e64, Nat.mul_assoc] at this
    omega
  obtain ⟨hn1, hn2, hn3, hn4⟩ := Dv.norm hhi hlo (by omega : s ≤ 64) hY1
  have hQ := Dv.quo_norm (hi * 18446744073709551616 + lo) y s
  rw [← hn3] at hQ
  have hu : bits BinOp.or IntKind.u64 (IntKind.u64.wrap ((hi : Int) * 2 ^ s)) ((lo : Int) / 2 ^ (64 - s)) = ((hi * 2 ^ s + lo / 2 ^ (64 - s) : Nat) : Int) := by
    rw [show ((hi : Int) * 2 ^ s) = ((hi * 2 ^ s : Nat) : Int) by simp, show ((lo : Int) / 2 ^ (64 - s)) = ((lo / 2 ^ (64 - s) : Nat) : Int) by simp, Mul64.wrapN _ hn1, bits_or_u64_nat _ _ hn1 (Nat.lt_of_le_of_lt (Nat.div_le_self _ _) hlo), Nat.mul_comm hi, ← Nat.two_pow_add_eq_or_of_lt hn2]
  have hv : IntKind.u64.wrap ((lo : Int) * 2 ^ s) = ((lo * 2 ^ s % 18446744073709551616 : Nat) : Int) := by
    rw [IntKind.wrap_u64, show ((lo : Int) * 2 ^ s) = ((lo * 2 ^ s : Nat) : Int) by simp]; rfl
  have HY : IntKind.u64.wrap ((y : Int) * 2 ^ s) = ((y * 2 ^ s : Nat) : Int) := by
    rw [show ((y : Int) * 2 ^ s) = ((y * 2 ^ s : Nat) : Int) by simp, IntKind.wrap_u64]; omega
  obtain ⟨Y, hY⟩ : ∃ Y, Y = y * 2 ^ s := ⟨_, rfl⟩
  obtain ⟨u, hU⟩ : ∃ u, u = hi * 2 ^ s + lo / 2 ^ (64 - s) := ⟨_, rfl⟩
  obtain ⟨v, hV⟩ : ∃ v, v = lo * 2 ^ s % 18446744073709551616 := ⟨_, rfl⟩
  have hv1 : v < 18446744073709551616 := by rw [hV]; exact Nat.mod_lt _ (by decide)
  rw [← hY] at hY1 hY2 hn4 hQ HY
  rw [← hU] at hn4 hQ hu
  rw [← hV] at hQ hv
  replace HY := Lib.hid HY
  have HU := Lib.hid hu
  have HV := Lib.hid hv
  obtain ⟨y1, hy1⟩ : ∃ q, q = Y / 4294967296 := ⟨_, rfl⟩
  obtain ⟨y0, hy0⟩ : ∃ q, q = Y % 4294967296 := ⟨_, rfl⟩
  obtain ⟨d1, hd1⟩ : ∃ q, q = v / 4294967296 := ⟨_, rfl⟩
  obtain ⟨d0, hd0⟩ : ∃ q, q = v % 4294967296 := ⟨_, rfl⟩
  have HA1 : Hid ((Y : Int) / 4294967296 = (y1 : Int)) := Lib.hid (by omega)
  have HA0 : Hid (bits BinOp.and IntKind.u64 (Y : Int) 4294967295 = (y0 : Int)) := Lib.hid (by rw [Mul64.maskN Y hY1, hy0])
  have HB1 : Hid ((v : Int) / 4294967296 = (d1 : Int)) := Lib.hid (by omega)
  have HB0 : Hid (bits BinOp.and IntKind.u64 (v : Int) 4294967295 = (d0 : Int)) := Lib.hid (by rw [Mul64.maskN v hv1, hd0])
  have hYe : y1 * 4294967296 + y0 = Y := by rw [hy1, hy0, Nat.mul_comm]; exact Nat.div_add_mod _ _
  have HD1 : Dv.Di 4294967296 y1 y0 u d1 := ⟨by omega, by omega, by omega, by omega, by omega, by omega⟩
  have hve : v = d1 * 4294967296 + d0 := by omega
  have hQ2 : ((u * 4294967296 + d1) * 4294967296 + d0) / Y = (hi * 18446744073709551616 + lo) / y := by
    rw [← hQ, hve, Nat.add_mul, Nat.mul_assoc, ← Nat.add_assoc]
  have hdig := Dv.digits (y := Y) (u := u) (d1 := d1) (d0 := d0) (B := 4294967296) (by omega)
  rw [hQ2] at hdig
  rw [← hdig]
  obtain ⟨q1, hq1⟩ : ∃ q, q = (u * 4294967296 + d1) / Y := ⟨_, rfl⟩
  obtain ⟨r1, hr1⟩ : ∃ q, q = (u * 4294967296 + d1) % Y := ⟨_, rfl⟩
  have HD0 : Dv.Di 4294967296 y1 y0 r1 d0 := ⟨by omega, by omega, by omega, by rw [hYe, hr1]; exact Nat.mod_lt _ (by omega), by omega, by omega⟩
  obtain ⟨q0, hq0⟩ : ∃ q, q = (r1 * 4294967296 + d0) / Y := ⟨_, rfl⟩
  rw [← hq1, ← hr1, ← hq0]
  have hs1 : q1 < 4294967296 := by have := HD1.small; rw [hYe, ← hq1] at this; exact this
  have hs2 : q0 < 4294967296 := by have := HD0.small; rw [hYe, ← hq0] at this; exact this
  have hrest := Dv.rest_lt HD1 (q := q1) (by rw [hYe]; exact hq1)
  rw [hYe, ← hr1] at hrest
  obtain ⟨PP, hPP⟩ : ∃ q, q = q1 * Y := ⟨_, rfl⟩
  rw [← hPP] at hrest
  have HR1 : Hid (IntKind.u64.wrap (IntKind.u64.wrap (IntKind.u64.wrap ((u : Int) * 4294967296) + (d1 : Int)) - IntKind.u64.wrap ((q1 : Int) * (Y : Int))) = (r1 : Int)) := Lib.hid (by
    rw [show (q1 : Int) * (Y : Int) = (PP : Int) by rw [hPP, Int.natCast_mul]]
    simp only [IntKind.wrap_u64]
    omega)
  have HQ1 : Hid (IntKind.u64.wrap (IntKind.u64.wrap ((q1 : Int) * 4294967296) + (q0 : Int)) = ((q1 * 4294967296 + q0 : Nat) : Int)) := Lib.hid (by
    simp only [IntKind.wrap_u64]; omega)
  have HE1 := Lib.hid hq1
  have HE0 := Lib.hid hq0
  have HYe := Lib.hid hYe
  have hy10 := HD1.y1pos
  have hne1 : ((y1 : Int) == 0) = false := by rw [beq_eq_false_iff_ne]; omega
  have HD1 := Lib.hid HD1
  have HD0 := Lib.hid HD0
  have hult : u < 18446744073709551616 := by omega
  have hr1lt : r1 < 18446744073709551616 := by omega
  clear hs hbl hY hU hV hbits e64 hp hY2 hn1 hn2 hn3 hn4 hQ hQ2 hve hdig hu hv hd1 hd0 hy1 hy0 hq1 hr1 hq0 hrest hPP hhi hlo hh
  go_enter Try.func97, Try.ntmps97
  go_wp2_with fail
  with_reducible refine (hLZ.out _).mono ?_
  rintro e w1 ⟨rfl, rfl⟩
  go_upto_region 9 with fail
  simp only [HY.out]
  go_upto_region 15 with fail
  simp only [HU.out, HV.out, HA1.out, HA0.out, HB1.out, HB0.out]
  have k1 : (u : Int).tdiv (y1 : Int) = ((u / y1 : Nat) : Int) := by rw [Int.tdiv_eq_ediv_of_nonneg (by omega)]; rfl
  have k2 : (u : Int) / (y1 : Int) = ((u / y1 : Nat) : Int) := rfl
  have k3 : u / y1 ≤ u := Nat.div_le_self _ _
  have k4 : u / y1 * y1 ≤ u := Nat.div_mul_le_self _ _
  have k5 : u - u / y1 * y1 = u % y1 := by have := Nat.div_add_mod u y1; rw [Nat.mul_comm] at this; omega
  have HK1 : Hid (IntKind.u64.wrap ((u : Int) / (y1 : Int)) = ((u / y1 : Nat) : Int)) := Lib.hid (by rw [k2]; exact Mul64.wrapN _ (by omega))
  have HK2 : Hid (IntKind.u64.wrap (((u / y1 : Nat) : Int) * (y1 : Int)) = ((u / y1 * y1 : Nat) : Int)) := Lib.hid (by rw [← Int.natCast_mul]; exact Mul64.wrapN _ (by omega))
  have HK3 : Hid (IntKind.u64.wrap ((u : Int) - ((u / y1 * y1 : Nat) : Int)) = ((u % y1 : Nat) : Int)) := Lib.hid (by rw [← Int.natCast_sub k4, k5]; exact Mul64.wrapN _ (by omega))
  clear k1 k2 k3 k4 k5
  go_upto_block 0 with fail
  simp only [HK1.out, HK2.out, HK3.out]
  have HS1 := Lib.hid (Dv.Gu.start HD1.out)
  have HF1 := Lib.hid (Dv.Gu.first HD1.out)
  have hF1 := HF1.out
  have hrm := Nat.mod_lt u hy10
  obtain ⟨qa, hqa⟩ : ∃ q, q = u / y1 := ⟨_, rfl⟩
  obtain ⟨ra, hra⟩ : ∃ q, q = u % y1 := ⟨_, rfl⟩
  rw [← hqa] at HS1 hF1
  rw [← hra] at HS1 hrm
  simp only [← hqa, ← hra]
  clear hqa hra HK1 HK2 HK3 HF1
  go_cut [15] (fun qv wx => qv = .int .u64 (q1 : Int) ∧ wx = w)
  case first =>
    go_wp2_with fail
    go_loop [15, 16] (fun qv rv => ∃ q r : Nat, qv = .int .u64 (q : Int) ∧ rv = .int .u64 (r : Int) ∧ q ≤ 4294967297 ∧ r < 4294967296 ∧ Hid (Dv.Gu 4294967296 y1 y0 u d1 q r)) (fun qv _ => (intOf qv).toNat)
    case atStart => exact ⟨qa, ra, rfl, rfl, by omega, by omega, HS1⟩
    case round =>
      obtain ⟨q, r, rfl, rfl, hq, hr, HG⟩ := hrel
      have hfit := HG.out.fits HD1.out hq hr
      have HT := Lib.hid (fun h => HG.out.down HD1.out h)
      have HF := Lib.hid (fun h => HG.out.done HD1.out h)
      rw [HYe.out, ← HE1.out] at HF
      obtain ⟨m1, hm1⟩ : ∃ m, m = q * y0 := ⟨_, rfl⟩
      rw [← hm1] at hfit HT HF
      have x1 : IntKind.u64.wrap ((q : Int) * (y0 : Int)) = (m1 : Int) := by rw [← Int.natCast_mul, ← hm1]; exact Mul64.wrapN _ (by omega)
      have x2 : IntKind.u64.wrap (4294967296 * (r : Int)) = 4294967296 * (r : Int) := by rw [IntKind.wrap_u64]; omega
      have x3 : IntKind.u64.wrap (4294967296 * (r : Int) + (d1 : Int)) = 4294967296 * (r : Int) + (d1 : Int) := by rw [IntKind.wrap_u64]; omega
      clear hm1
      by_cases hbig : 4294967296 ≤ q
      · have p1 : (4294967296 : Int) ≤ (q : Int) := by omega
        have p2 : decide ((4294967296 : Int) ≤ (q : Int)) = true := by simpa using p1
        have HX := Lib.hid (HT.out (.inl hbig))
        have hq0 := HX.out.1
        have HG2 := Lib.hid HX.out.2
        have x4 : IntKind.u64.wrap ((q : Int) - 1) = ((q - 1 : Nat) : Int) := by rw [show ((q : Int) - 1) = ((q - 1 : Nat) : Int) by omega]; exact Mul64.wrapN _ (by omega)
        have x5 : IntKind.u64.wrap ((r : Int) + (y1 : Int)) = ((r + y1 : Nat) : Int) := by rw [← Int.natCast_add]; exact Mul64.wrapN _ (by omega)
        obtain ⟨qn, hqn⟩ : ∃ m, m = q - 1 := ⟨_, rfl⟩
        obtain ⟨rn, hrn⟩ : ∃ m, m = r + y1 := ⟨_, rfl⟩
        rw [← hqn] at x4 HG2
        rw [← hrn] at x5 HG2
        have hql : qn ≤ 4294967296 := by omega
        have hqm : qn < q := by omega
        clear hqn hrn
        by_cases hbr : 4294967296 ≤ rn
        · have p5 : (4294967296 : Int) ≤ (rn : Int) := by omega
          have p6 : decide ((4294967296 : Int) ≤ (rn : Int)) = true := by simpa using p5
          have HZ := Lib.hid (HG2.out.stop HD1.out hql hbr)
          rw [HYe.out, ← HE1.out] at HZ
          go_wp2_with fail
          go_meet
          exact ⟨by rw [HZ.out], rfl⟩
        · have p5 : ¬ (4294967296 : Int) ≤ (rn : Int) := by omega
          have p6 : decide ((4294967296 : Int) ≤ (rn : Int)) = false := by simpa using p5
          go_wp2_with fail
          go_round
          case rel => exact ⟨qn, rn, rfl, rfl, by omega, by omega, HG2⟩
          case measure => simp [intOf] <;> omega
      · have p1 : ¬ (4294967296 : Int) ≤ (q : Int) := by omega
        have p2 : decide ((4294967296 : Int) ≤ (q : Int)) = false := by simpa using p1
        by_cases hgt : 4294967296 * r + d1 < m1
        · have p3 : 4294967296 * (r : Int) + (d1 : Int) < (m1 : Int) := by omega
          have p4 : decide (4294967296 * (r : Int) + (d1 : Int) < (m1 : Int)) = true := by simpa using p3
          have HX := Lib.hid (HT.out (.inr hgt))
          have hq0 := HX.out.1
          have HG2 := Lib.hid HX.out.2
          have x4 : IntKind.u64.wrap ((q : Int) - 1) = ((q - 1 : Nat) : Int) := by rw [show ((q : Int) - 1) = ((q - 1 : Nat) : Int) by omega]; exact Mul64.wrapN _ (by omega)
          have x5 : IntKind.u64.wrap ((r : Int) + (y1 : Int)) = ((r + y1 : Nat) : Int) := by rw [← Int.natCast_add]; exact Mul64.wrapN _ (by omega)
          obtain ⟨qn, hqn⟩ : ∃ m, m = q - 1 := ⟨_, rfl⟩
          obtain ⟨rn, hrn⟩ : ∃ m, m = r + y1 := ⟨_, rfl⟩
          rw [← hqn] at x4 HG2
          rw [← hrn] at x5 HG2
          have hql : qn ≤ 4294967296 := by omega
          have hqm : qn < q := by omega
          clear hqn hrn
          by_cases hbr : 4294967296 ≤ rn
          · have p5 : (4294967296 : Int) ≤ (rn : Int) := by omega
            have p6 : decide ((4294967296 : Int) ≤ (rn : Int)) = true := by simpa using p5
            have HZ := Lib.hid (HG2.out.stop HD1.out hql hbr)
            rw [HYe.out, ← HE1.out] at HZ
            go_wp2_with fail
            go_meet
            exact ⟨by rw [HZ.out], rfl⟩
          · have p5 : ¬ (4294967296 : Int) ≤ (rn : Int) := by omega
            have p6 : decide ((4294967296 : Int) ≤ (rn : Int)) = false := by simpa using p5
            go_wp2_with fail
            go_round
            case rel => exact ⟨qn, rn, rfl, rfl, by omega, by omega, HG2⟩
            case measure => simp [intOf] <;> omega
        · have p3 : ¬ 4294967296 * (r : Int) + (d1 : Int) < (m1 : Int) := by omega
          have p4 : decide (4294967296 * (r : Int) + (d1 : Int) < (m1 : Int)) = false := by simpa using p3
          have HX := Lib.hid (HF.out (by rintro (h | h) <;> omega))
          go_wp2_with fail
          go_meet
          exact ⟨by rw [HX.out], rfl⟩
  case rest =>
    obtain ⟨rfl, rfl⟩ := hcut
    have hne1 := hne1
    have k2 : (r1 : Int) / (y1 : Int) = ((r1 / y1 : Nat) : Int) := rfl
    have k3 : r1 / y1 ≤ r1 := Nat.div_le_self _ _
    have k4 : r1 / y1 * y1 ≤ r1 := Nat.div_mul_le_self _ _
    have k5 : r1 - r1 / y1 * y1 = r1 % y1 := by have := Nat.div_add_mod r1 y1; rw [Nat.mul_comm] at this; omega
    have HK1 : Hid (IntKind.u64.wrap ((r1 : Int) / (y1 : Int)) = ((r1 / y1 : Nat) : Int)) := Lib.hid (by rw [k2]; exact Mul64.wrapN _ (by omega))
    have HK2 : Hid (IntKind.u64.wrap (((r1 / y1 : Nat) : Int) * (y1 : Int)) = ((r1 / y1 * y1 : Nat) : Int)) := Lib.hid (by rw [← Int.natCast_mul]; exact Mul64.wrapN _ (by omega))
    have HK3 : Hid (IntKind.u64.wrap ((r1 : Int) - ((r1 / y1 * y1 : Nat) : Int)) = ((r1 % y1 : Nat) : Int)) := Lib.hid (by rw [← Int.natCast_sub k4, k5]; exact Mul64.wrapN _ (by omega))
    clear k2 k3 k4 k5
    go_upto_region 22 with fail
    simp only [HR1.out]
    go_upto_block 2 with fail
    simp only [HK1.out, HK2.out, HK3.out]
    have HS0 := Lib.hid (Dv.Gu.start HD0.out)
    have HF1 := Lib.hid (Dv.Gu.first HD0.out)
    have hF1 := HF1.out
    have hrm := Nat.mod_lt r1 hy10
    obtain ⟨qb, hqb⟩ : ∃ q, q = r1 / y1 := ⟨_, rfl⟩
    obtain ⟨rb, hrb⟩ : ∃ q, q = r1 % y1 := ⟨_, rfl⟩
    rw [← hqb] at HS0 hF1
    rw [← hrb] at HS0 hrm
    simp only [← hqb, ← hrb]
    clear hqb hrb HK1 HK2 HK3 HF1
    go_cut [18] (fun qv wx => qv = .int .u64 (q0 : Int) ∧ wx = wc)
    case first =>
      go_wp2_with fail
      go_loop [18, 16] (fun qv rv => ∃ q r : Nat, qv = .int .u64 (q : Int) ∧ rv = .int .u64 (r : Int) ∧ q ≤ 4294967297 ∧ r < 4294967296 ∧ Hid (Dv.Gu 4294967296 y1 y0 r1 d0 q r)) (fun qv _ => (intOf qv).toNat)
      case atStart => exact ⟨qb, rb, rfl, rfl, by omega, by omega, HS0⟩
      case round =>
        obtain ⟨q, r, rfl, rfl, hq, hr, HG⟩ := hrel
        have hfit := HG.out.fits HD0.out hq hr
        have HT := Lib.hid (fun h => HG.out.down HD0.out h)
        have HF := Lib.hid (fun h => HG.out.done HD0.out h)
        rw [HYe.out, ← HE0.out] at HF
        obtain ⟨m1, hm1⟩ : ∃ m, m = q * y0 := ⟨_, rfl⟩
        rw [← hm1] at hfit HT HF
        have x1 : IntKind.u64.wrap ((q : Int) * (y0 : Int)) = (m1 : Int) := by rw [← Int.natCast_mul, ← hm1]; exact Mul64.wrapN _ (by omega)
        have x2 : IntKind.u64.wrap (4294967296 * (r : Int)) = 4294967296 * (r : Int) := by rw [IntKind.wrap_u64]; omega
        have x3 : IntKind.u64.wrap (4294967296 * (r : Int) + (d0 : Int)) = 4294967296 * (r : Int) + (d0 : Int) := by rw [IntKind.wrap_u64]; omega
        clear hm1
        by_cases hbig : 4294967296 ≤ q
        · have p1 : (4294967296 : Int) ≤ (q : Int) := by omega
          have p2 : decide ((4294967296 : Int) ≤ (q : Int)) = true := by simpa using p1
          have HX := Lib.hid (HT.out (.inl hbig))
          have hq0 := HX.out.1
          have HG2 := Lib.hid HX.out.2
          have x4 : IntKind.u64.wrap ((q : Int) - 1) = ((q - 1 : Nat) : Int) := by rw [show ((q : Int) - 1) = ((q - 1 : Nat) : Int) by omega]; exact Mul64.wrapN _ (by omega)
          have x5 : IntKind.u64.wrap ((r : Int) + (y1 : Int)) = ((r + y1 : Nat) : Int) := by rw [← Int.natCast_add]; exact Mul64.wrapN _ (by omega)
          obtain ⟨qn, hqn⟩ : ∃ m, m = q - 1 := ⟨_, rfl⟩
          obtain ⟨rn, hrn⟩ : ∃ m, m = r + y1 := ⟨_, rfl⟩
          rw [← hqn] at x4 HG2
          rw [← hrn] at x5 HG2
          have hql : qn ≤ 4294967296 := by omega
          have hqm : qn < q := by omega
          clear hqn hrn
          by_cases hbr : 4294967296 ≤ rn
          · have p5 : (4294967296 : Int) ≤ (rn : Int) := by omega
            have p6 : decide ((4294967296 : Int) ≤ (rn : Int)) = true := by simpa using p5
            have HZ := Lib.hid (HG2.out.stop HD0.out hql hbr)
            rw [HYe.out, ← HE0.out] at HZ
            go_wp2_with fail
            go_meet
            exact ⟨by rw [HZ.out], rfl⟩
          · have p5 : ¬ (4294967296 : Int) ≤ (rn : Int) := by omega
            have p6 : decide ((4294967296 : Int) ≤ (rn : Int)) = false := by simpa using p5
            go_wp2_with fail
            go_round
            case rel => exact ⟨qn, rn, rfl, rfl, by omega, by omega, HG2⟩
            case measure => simp [intOf] <;> omega
        · have p1 : ¬ (4294967296 : Int) ≤ (q : Int) := by omega
          have p2 : decide ((4294967296 : Int) ≤ (q : Int)) = false := by simpa using p1
          by_cases hgt : 4294967296 * r + d0 < m1
          · have p3 : 4294967296 * (r : Int) + (d0 : Int) < (m1 : Int) := by omega
            have p4 : decide (4294967296 * (r : Int) + (d0 : Int) < (m1 : Int)) = true := by simpa using p3
            have HX := Lib.hid (HT.out (.inr hgt))
            have hq0 := HX.out.1
            have HG2 := Lib.hid HX.out.2
            have x4 : IntKind.u64.wrap ((q : Int) - 1) = ((q - 1 : Nat) : Int) := by rw [show ((q : Int) - 1) = ((q - 1 : Nat) : Int) by omega]; exact Mul64.wrapN _ (by omega)
            have x5 : IntKind.u64.wrap ((r : Int) + (y1 : Int)) = ((r + y1 : Nat) : Int) := by rw [← Int.natCast_add]; exact Mul64.wrapN _ (by omega)
            obtain ⟨qn, hqn⟩ : ∃ m, m = q - 1 := ⟨_, rfl⟩
            obtain ⟨rn, hrn⟩ : ∃ m, m = r + y1 := ⟨_, rfl⟩
            rw [← hqn] at x4 HG2
            rw [← hrn] at x5 HG2
            have hql : qn ≤ 4294967296 := by omega
            have hqm : qn < q := by omega
            clear hqn hrn
            by_cases hbr : 4294967296 ≤ rn
            · have p5 : (4294967296 : Int) ≤ (rn : Int) := by omega
              have p6 : decide ((4294967296 : Int) ≤ (rn : Int)) = true := by simpa using p5
              have HZ := Lib.hid (HG2.out.stop HD0.out hql hbr)
              rw [HYe.out, ← HE0.out] at HZ
              go_wp2_with fail
              go_meet
              exact ⟨by rw [HZ.out], rfl⟩
            · have p5 : ¬ (4294967296 : Int) ≤ (rn : Int) := by omega
              have p6 : decide ((4294967296 : Int) ≤ (rn : Int)) = false := by simpa using p5
              go_wp2_with fail
              go_round
              case rel => exact ⟨qn, rn, rfl, rfl, by omega, by omega, HG2⟩
              case measure => simp [intOf] <;> omega
          · have p3 : ¬ 4294967296 * (r : Int) + (d0 : Int) < (m1 : Int) := by omega
            have p4 : decide (4294967296 * (r : Int) + (d0 : Int) < (m1 : Int)) = false := by simpa using p3
            have HX := Lib.hid (HF.out (by rintro (h | h) <;> omega))
            go_wp2_with fail
            go_meet
            exact ⟨by rw [HX.out], rfl⟩
    case rest =>
      obtain ⟨rfl, rfl⟩ := hcut
      go_wp2_with fail
      go_ret2
      exact ⟨⟨_, by rw [Int.natCast_add, Int.natCast_mul]; rfl⟩, Below.refl _ _⟩
theorem div64_any (hi lo y : Nat) (hhi : hi < y) (hlo : lo < 18446744073709551616) (hy : y < 18446744073709551616) (w : World) :
    Calls Try.prog 97 #[.int .u64 (hi : Int), .int .u64 (lo : Int), .int .u64 (y : Int)] w fun e w' => (∃ r : Int, e = .returned (.tuple #[.int .u64 (((hi * 18446744073709551616 + lo) / y : Nat) : Int), .int .u64 r])) ∧ Below w.heap.size w w' := by
  rcases Nat.eq_zero_or_pos hi with rfl | h
  · rw [Nat.zero_mul, Nat.zero_add]
    exact div64_zero lo y hhi hlo hy w
  · exact div64_pos hi lo y _ h hhi hlo hy rfl w
end Go.Proofs.Ytajainkaomkbjaa
