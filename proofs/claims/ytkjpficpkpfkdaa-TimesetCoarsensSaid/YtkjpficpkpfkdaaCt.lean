/- The program's search by halves: countWhile, countEndedBy. -/
import Derived.Test.YtkjpficpkpfkdaaRe
import Derived.Test.YtkjpficpkpfkdaaShelf
import Derived.Lib.BitFns
import Derived.Lib.ItoaNum
import Derived.Lib.QuietBelow
namespace Go.Proofs.Ytkjpficpkpfkdaa
open Go.ChangeShapes Go.WideShapes Go.ChangeAt Go.RowKit Ts

/-- A condition on intervals that a closure computes, with a captured number. -/
def ClC (fid : FuncId) (q : Iv → Bool) (cp : Addr) (n : Int) : Prop := ∀ (x : Iv) (W : World), W.cell? cp = some (.int .i64 n) → Calls Try.prog fid #[.agg #[.int .i64 x.1, .int .i64 x.2], .pointer (some cp)] W fun e w' => e = .returned (.bool (q x)) ∧ Below W.heap.size W w'
set_option maxRecDepth 100000 in
theorem ended_cl (b : Nat) (n : Int) : ClC 72 (fun x => decide (x.2 ≤ n)) ⟨b, 0, none⟩ n := fun x W hW => by
  obtain ⟨x1, x2⟩ := x
  have hb : b < W.heap.size := block_lt_of_cell hW
  dsimp only
  go_enter Try.func72, Try.ntmps72
  go_wp2_with fail
  go_ret
  exact ⟨rfl, (Below.refl _ _).alloc (Nat.le_refl _) _⟩
theorem bitLen_lt (m : Nat) (h : m ≤ 1000000) : m < 2 ^ Lib.bitLen m := by
  rcases Nat.eq_zero_or_pos m with rfl | h0
  · exact Nat.pow_pos (by decide)
  · obtain ⟨_, _, b⟩ := Lib.bitLenAux_bounds 64 m (by omega) (by omega)
    exact b
theorem bitLen_64 (m : Nat) (h : m ≤ 1000000) : Lib.bitLen m ≤ 64 := by
  rcases Nat.eq_zero_or_pos m with rfl | h0
  · decide
  · obtain ⟨_, a, _⟩ := Lib.bitLenAux_bounds 64 m (by omega) (by omega)
    have a' : 2 ^ (Lib.bitLen m - 1) ≤ m := a
    have : Lib.bitLen m - 1 < 20 := (Nat.pow_lt_pow_iff_right (show 1 < 2 by decide)).1 (Nat.lt_of_le_of_lt a' (by omega))
    omega
set_option maxRecDepth 100000 in
theorem begun_cl (b : Nat) (n : Int) : ClC 65 (fun x => decide (x.1 ≤ n)) ⟨b, 0, none⟩ n := fun x W hW => by
  obtain ⟨x1, x2⟩ := x
  have hb : b < W.heap.size := block_lt_of_cell hW
  dsimp only
  go_enter Try.func65, Try.ntmps65
  go_wp2_with fail
  go_ret
  exact ⟨rfl, (Below.refl _ _).alloc (Nat.le_refl _) _⟩
set_option maxRecDepth 100000 in
set_option maxHeartbeats 2000000 in
theorem count_ended (q : Iv → Bool) (cb : Nat) (n : Int) (hC : ClC 72 q ⟨cb, 0, none⟩ n) (A : Option Addr) (c : Nat) (L : List Iv) (hl : L.length ≤ 1000000) (C : Nat) (hCl : C ≤ L.length) (hq : ∀ i (hi : i < L.length), q L[i] = true ↔ i < C) (w : World) (hcp : w.cell? ⟨cb, 0, none⟩ = some (.int .i64 n)) (hR : Rs w w.heap.size A (ivCells L)) :
    Calls Try.prog 64 #[.slice A L.length c, .func (.func 72) #[] #[.pointer (some ⟨cb, 0, none⟩)]] w fun e w' => e = .returned (.int .i64 (C : Int)) ∧ Below w.heap.size w w' := by
  have HR := Lib.hid hR
  have HC := Lib.hid hC
  have Hq := Lib.hid hq
  have Hcp := Lib.hid hcp
  have hcb : cb < w.heap.size := block_lt_of_cell hcp
  have hbl := Lib.hid (Try.bits_Len (L.length : Int) w (by omega) (by omega))
  have hK := bitLen_lt L.length hl
  obtain ⟨K, hKe⟩ : ∃ K, K = Lib.bitLen L.length := ⟨_, rfl⟩
  rw [Int.toNat_natCast, ← hKe] at hbl
  rw [← hKe] at hK
  have HK := Lib.hid hK
  have hK64 : K ≤ 64 := by rw [hKe]; exact bitLen_64 L.length hl
  clear hR hC hq hcp hKe hK
  go_enter Try.func64, Try.ntmps64
  go_wp2_with fail
  refine hbl.out.mono ?_
  rintro e w1 ⟨rfl, rfl⟩
  go_wp2_with fail
  go_loopw [5, 6, 14] (fun u v iv wr => ∃ (lo hi k : Nat), u = .int .i64 (lo : Int) ∧ v = .int .i64 (hi : Int) ∧ iv = .int .i64 (k : Int) ∧ k ≤ K ∧ lo ≤ C ∧ C ≤ hi ∧ hi ≤ L.length ∧ Hid (hi - lo < 2 ^ (K - k)) ∧ Hid (Below w1.heap.size w1 wr)) (fun _ _ iv _ => K - (intOf iv).toNat)
  case atStart => exact ⟨0, L.length, 0, rfl, rfl, rfl, Nat.zero_le _, Nat.zero_le _, hCl, Nat.le_refl _, HK, Lib.hid (Below.refl _ _)⟩
  case round =>
    obtain ⟨lo, hi, k, rfl, rfl, rfl, hkK, hlo, hhi, hhl, hsz, HB⟩ := hrel
    have hbs := HB.out.size
    by_cases hk : k < K
    · by_cases hlh : lo = hi
      · obtain rfl : C = lo := by omega
        subst hlh
        go_wp2_with fail
        go_ret
        exact ⟨rfl, HB.out⟩
      · obtain ⟨k2, hk2⟩ : ∃ k2, K - k = k2 + 1 := ⟨K - k - 1, by omega⟩
        have hs2 := hsz.out
        rw [hk2] at hs2
        obtain ⟨m, hm⟩ : ∃ m, m = (lo + hi) / 2 := ⟨_, rfl⟩
        obtain ⟨g1, g2, g3, g4⟩ := half (show lo < hi by omega) hs2
        rw [← hm] at g1 g2 g3 g4
        have hml : m < L.length := by omega
        have hne : ((lo : Int) == (hi : Int)) = false := by simpa using (show ¬ (lo : Int) = (hi : Int) by omega)
        have hw1 : IntKind.i64.wrap ((lo : Int) + (hi : Int)) = (lo : Int) + (hi : Int) := by simp only [IntKind.wrap_i64]; omega
        have hm2 : ((lo : Int) + (hi : Int)) / 2 = (m : Int) := by omega
        have hw2 : IntKind.i64.wrap (m : Int) = (m : Int) := by simp only [IntKind.wrap_i64]; omega
        have hw3 : IntKind.i64.wrap ((m : Int) + 1) = (m : Int) + 1 := by simp only [IntKind.wrap_i64]; omega
        have hw4 : IntKind.i64.wrap ((k : Int) + 1) = (k : Int) + 1 := by simp only [IntKind.wrap_i64]; omega
        have G1 := Lib.hid g1
        have G2 := Lib.hid g2
        have HK2 := Lib.hid (show K - (k + 1) = k2 by omega)
        obtain ⟨b, off, rfl, hb, h0, h1⟩ := iv_at (HR.out.below HB.out) m hml
        have hqm := Hq.out m hml
        obtain ⟨x, hx⟩ : ∃ x, x = L[m] := ⟨_, rfl⟩
        rw [← hx] at h0 h1 hqm
        have hca := HC.out x wr (by rw [HB.out.cell hcb]; exact Hcp.out)
        obtain ⟨x1, x2⟩ := x
        obtain ⟨bl, hbl2⟩ : ∃ bl, bl = q (x1, x2) := ⟨_, rfl⟩
        rw [← hbl2] at hca hqm
        have Hqm := Lib.hid hqm
        have Hca := Lib.hid hca
        dsimp only at h0 h1 Hca
        clear hx hca hbl2 hqm hm hs2 g1 g2 hk2
        go_wp2_with fail
        refine Hca.out.mono ?_
        rintro e w2 ⟨rfl, hb2⟩
        have HB2 := Lib.hid (HB.out.trans (hb2.mono hbs))
        clear hb2
        cases bl with
        | true =>
          have hmC := Hqm.out.1 rfl
          go_wp2_with fail
          go_roundw
          case rel => exact ⟨m + 1, hi, k + 1, by go_num, rfl, by go_num, by omega, by omega, hhi, hhl, Lib.hid (by rw [HK2.out]; exact G1.out), HB2⟩
          case measure => simp [intOf]; omega
        | false =>
          have hmC : ¬ m < C := fun h => by have := Hqm.out.2 h; simp at this
          go_wp2_with fail
          go_roundw
          case rel => exact ⟨lo, m, k + 1, rfl, by go_num, by go_num, by omega, hlo, by omega, by omega, Lib.hid (by rw [HK2.out]; exact G2.out), HB2⟩
          case measure => simp [intOf]; omega
    · obtain rfl : k = K := by omega
      have he := half_end (show lo ≤ hi by omega) (by have := hsz.out; rw [Nat.sub_self] at this; exact this)
      obtain rfl : C = lo := by omega
      clear he
      go_wp2_with fail
      go_ret
      exact ⟨rfl, HB.out⟩
set_option maxRecDepth 100000 in
set_option maxHeartbeats 2000000 in
theorem count_begun (q : Iv → Bool) (cb : Nat) (n : Int) (hC : ClC 65 q ⟨cb, 0, none⟩ n) (A : Option Addr) (c : Nat) (L : List Iv) (hl : L.length ≤ 1000000) (C : Nat) (hCl : C ≤ L.length) (hq : ∀ i (hi : i < L.length), q L[i] = true ↔ i < C) (w : World) (hcp : w.cell? ⟨cb, 0, none⟩ = some (.int .i64 n)) (hR : Rs w w.heap.size A (ivCells L)) :
    Calls Try.prog 64 #[.slice A L.length c, .func (.func 65) #[] #[.pointer (some ⟨cb, 0, none⟩)]] w fun e w' => e = .returned (.int .i64 (C : Int)) ∧ Below w.heap.size w w' := by
  have HR := Lib.hid hR
  have HC := Lib.hid hC
  have Hq := Lib.hid hq
  have Hcp := Lib.hid hcp
  have hcb : cb < w.heap.size := block_lt_of_cell hcp
  have hbl := Lib.hid (Try.bits_Len (L.length : Int) w (by omega) (by omega))
  have hK := bitLen_lt L.length hl
  obtain ⟨K, hKe⟩ : ∃ K, K = Lib.bitLen L.length := ⟨_, rfl⟩
  rw [Int.toNat_natCast, ← hKe] at hbl
  rw [← hKe] at hK
  have HK := Lib.hid hK
  have hK64 : K ≤ 64 := by rw [hKe]; exact bitLen_64 L.length hl
  clear hR hC hq hcp hKe hK
  go_enter Try.func64, Try.ntmps64
  go_wp2_with fail
  refine hbl.out.mono ?_
  rintro e w1 ⟨rfl, rfl⟩
  go_wp2_with fail
  go_loopw [5, 6, 14] (fun u v iv wr => ∃ (lo hi k : Nat), u = .int .i64 (lo : Int) ∧ v = .int .i64 (hi : Int) ∧ iv = .int .i64 (k : Int) ∧ k ≤ K ∧ lo ≤ C ∧ C ≤ hi ∧ hi ≤ L.length ∧ Hid (hi - lo < 2 ^ (K - k)) ∧ Hid (Below w1.heap.size w1 wr)) (fun _ _ iv _ => K - (intOf iv).toNat)
  case atStart => exact ⟨0, L.length, 0, rfl, rfl, rfl, Nat.zero_le _, Nat.zero_le _, hCl, Nat.le_refl _, HK, Lib.hid (Below.refl _ _)⟩
  case round =>
    obtain ⟨lo, hi, k, rfl, rfl, rfl, hkK, hlo, hhi, hhl, hsz, HB⟩ := hrel
    have hbs := HB.out.size
    by_cases hk : k < K
    · by_cases hlh : lo = hi
      · obtain rfl : C = lo := by omega
        subst hlh
        go_wp2_with fail
        go_ret
        exact ⟨rfl, HB.out⟩
      · obtain ⟨k2, hk2⟩ : ∃ k2, K - k = k2 + 1 := ⟨K - k - 1, by omega⟩
        have hs2 := hsz.out
        rw [hk2] at hs2
        obtain ⟨m, hm⟩ : ∃ m, m = (lo + hi) / 2 := ⟨_, rfl⟩
        obtain ⟨g1, g2, g3, g4⟩ := half (show lo < hi by omega) hs2
        rw [← hm] at g1 g2 g3 g4
        have hml : m < L.length := by omega
        have hne : ((lo : Int) == (hi : Int)) = false := by simpa using (show ¬ (lo : Int) = (hi : Int) by omega)
        have hw1 : IntKind.i64.wrap ((lo : Int) + (hi : Int)) = (lo : Int) + (hi : Int) := by simp only [IntKind.wrap_i64]; omega
        have hm2 : ((lo : Int) + (hi : Int)) / 2 = (m : Int) := by omega
        have hw2 : IntKind.i64.wrap (m : Int) = (m : Int) := by simp only [IntKind.wrap_i64]; omega
        have hw3 : IntKind.i64.wrap ((m : Int) + 1) = (m : Int) + 1 := by simp only [IntKind.wrap_i64]; omega
        have hw4 : IntKind.i64.wrap ((k : Int) + 1) = (k : Int) + 1 := by simp only [IntKind.wrap_i64]; omega
        have G1 := Lib.hid g1
        have G2 := Lib.hid g2
        have HK2 := Lib.hid (show K - (k + 1) = k2 by omega)
        obtain ⟨b, off, rfl, hb, h0, h1⟩ := iv_at (HR.out.below HB.out) m hml
        have hqm := Hq.out m hml
        obtain ⟨x, hx⟩ : ∃ x, x = L[m] := ⟨_, rfl⟩
        rw [← hx] at h0 h1 hqm
        have hca := HC.out x wr (by rw [HB.out.cell hcb]; exact Hcp.out)
        obtain ⟨x1, x2⟩ := x
        obtain ⟨bl, hbl2⟩ : ∃ bl, bl = q (x1, x2) := ⟨_, rfl⟩
        rw [← hbl2] at hca hqm
        have Hqm := Lib.hid hqm
        have Hca := Lib.hid hca
        dsimp only at h0 h1 Hca
        clear hx hca hbl2 hqm hm hs2 g1 g2 hk2
        go_wp2_with fail
        refine Hca.out.mono ?_
        rintro e w2 ⟨rfl, hb2⟩
        have HB2 := Lib.hid (HB.out.trans (hb2.mono hbs))
        clear hb2
        cases bl with
        | true =>
          have hmC := Hqm.out.1 rfl
          go_wp2_with fail
          go_roundw
          case rel => exact ⟨m + 1, hi, k + 1, by go_num, rfl, by go_num, by omega, by omega, hhi, hhl, Lib.hid (by rw [HK2.out]; exact G1.out), HB2⟩
          case measure => simp [intOf]; omega
        | false =>
          have hmC : ¬ m < C := fun h => by have := Hqm.out.2 h; simp at this
          go_wp2_with fail
          go_roundw
          case rel => exact ⟨lo, m, k + 1, rfl, by go_num, by go_num, by omega, hlo, by omega, by omega, Lib.hid (by rw [HK2.out]; exact G2.out), HB2⟩
          case measure => simp [intOf]; omega
    · obtain rfl : k = K := by omega
      have he := half_end (show lo ≤ hi by omega) (by have := hsz.out; rw [Nat.sub_self] at this; exact this)
      obtain rfl : C = lo := by omega
      clear he
      go_wp2_with fail
      go_ret
      exact ⟨rfl, HB.out⟩
end Go.Proofs.Ytkjpficpkpfkdaa
