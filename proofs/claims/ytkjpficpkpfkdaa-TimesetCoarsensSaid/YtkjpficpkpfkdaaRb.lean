/- The program's Length and Nth; the reference's Length. -/
import Derived.Test.YtkjpficpkpfkdaaRa
namespace Go.Proofs.Ytkjpficpkpfkdaa
open Go.ChangeShapes Go.WideShapes Go.ChangeAt Go.RowKit Ts

theorem len_snoc (L : List Iv) (x : Iv) : len (L ++ [x]) = len L + (x.2 - x.1) := by
  unfold len
  rw [List.map_append, List.sum_append]
  simp
set_option maxRecDepth 100000 in
set_option maxHeartbeats 1000000 in
theorem length_any (A : Option Addr) (c : Nat) (L : List Iv) (hp : ∀ x ∈ L, x.1 < x.2) (hb : Bnd L) (hl : L.length ≤ 1000) (w : World) (hR : Rs w w.heap.size A (ivCells L)) :
    Calls Try.prog 24 #[.slice A L.length c] w fun e w' => e = .returned (.int .i64 (len L)) ∧ Below w.heap.size w w' := by
  have HR := Lib.hid hR
  have Hp := Lib.hid hp
  have Hb := Lib.hid hb
  clear hR hp hb
  go_enter Try.func24, Try.ntmps24
  go_wp2_with fail
  go_loopw [3, 8] (fun u iv wr => ∃ (j : Nat) (s : Int), j ≤ L.length ∧ u = .int .i64 s ∧ iv = .int .i64 (j : Int) ∧ Hid (s = len (L.take j)) ∧ 0 ≤ s ∧ s ≤ (j : Int) * 2000000000000 ∧ Hid (Below w.heap.size w wr)) (fun _ iv _ => L.length - (intOf iv).toNat)
  case atStart => exact ⟨0, 0, Nat.zero_le _, rfl, rfl, Lib.hid rfl, Int.le_refl _, by simp, Lib.hid (Below.refl _ _)⟩
  case round =>
    obtain ⟨j, s, hj, rfl, rfl, hs, hs0, hs1, HB⟩ := hrel
    have hbs := HB.out.size
    by_cases hlt : j < L.length
    · obtain ⟨b, off, rfl, hb', h0, h1⟩ := iv_at (HR.out.below HB.out) j hlt
      have hbx := Hb.out _ (List.getElem_mem hlt)
      have hpx := Hp.out _ (List.getElem_mem hlt)
      have Hts := Lib.hid (show len (L.take (j + 1)) = len (L.take j) + (L[j].2 - L[j].1) by rw [take_snoc L j hlt, len_snoc])
      obtain ⟨x, hx⟩ : ∃ x, x = L[j] := ⟨_, rfl⟩
      rw [← hx] at h0 h1 hbx hpx Hts
      clear hx
      obtain ⟨x1, x2⟩ := x
      dsimp only at h0 h1 hbx hpx Hts
      have hjl : (j : Int) < (L.length : Int) := by omega
      have hj0 : (0 : Int) ≤ (j : Int) := by omega
      have hw1 : IntKind.i64.wrap (x2 - x1) = x2 - x1 := by simp only [IntKind.wrap_i64]; omega
      have hw2 : IntKind.i64.wrap (s + (x2 - x1)) = s + (x2 - x1) := by simp only [IntKind.wrap_i64]; omega
      go_wp2_with fail
      go_roundw
      case rel => exact ⟨j + 1, s + (x2 - x1), by omega, rfl, by go_num, Lib.hid (by rw [Hts.out, ← hs.out]), by omega, by push_cast; omega, Lib.hid (HB.out.alloc (by omega) _)⟩
      case measure => simp [intOf]; omega
    · obtain rfl : j = L.length := by omega
      have HS : Hid (s = len L) := Lib.hid (by rw [hs.out, List.take_length])
      go_wp2_with fail
      go_ret
      rw [← HS.out]
      exact ⟨rfl, HB.out⟩
set_option maxRecDepth 100000 in
theorem ref_length (A : Option Addr) (c : Nat) (L : List Iv) (hp : ∀ x ∈ L, x.1 < x.2) (hb : Bnd L) (hl : L.length ≤ 1000) (w : World) (hR : Rs w w.heap.size A (ivCells L)) :
    Calls Try.prog 30 #[.slice A L.length c] w fun e w' => e = .returned (.int .i64 (len L)) ∧ Below w.heap.size w w' := by
  have hc := ref_rank A c L hp hb hl 1125899906842624 w hR
  rw [rk_full 1125899906842624 L (fun x hx => ⟨hp x hx, by have := (hb x hx).2; omega⟩)] at hc
  have Hc := Lib.hid hc
  clear hc hR hp hb
  go_enter Try.func30, Try.ntmps30
  go_wp2_with fail
  refine Hc.out.mono ?_
  rintro e w1 ⟨rfl, hb⟩
  have HB := Lib.hid hb
  clear hb
  go_wp2_with fail
  go_ret
  exact ⟨rfl, HB.out⟩
set_option maxRecDepth 100000 in
set_option maxHeartbeats 1000000 in
theorem nth_any (A : Option Addr) (c : Nat) (L : List Iv) (hp : ∀ x ∈ L, x.1 < x.2) (hb : Bnd L) (hl : L.length ≤ 1000) (k : Int) (hk : 0 ≤ k) (hk2 : k ≤ 9223372036854775807) (w : World) (hR : Rs w w.heap.size A (ivCells L)) :
    Calls Try.prog 33 #[.slice A L.length c, .int .i64 k] w fun e w' => e = .returned (.tuple #[.int .i64 (nth k L).1, .bool (nth k L).2]) ∧ Below w.heap.size w w' := by
  have HR := Lib.hid hR
  have Hp := Lib.hid hp
  have Hb := Lib.hid hb
  obtain ⟨F, hF⟩ : ∃ F, F = nth k L := ⟨_, rfl⟩
  rw [← hF]
  have HF := Lib.hid hF
  have hk0 : ¬ k < 0 := by omega
  clear hR hp hb hF
  go_enter Try.func33, Try.ntmps33
  go_wp2_with fail
  go_loopw [1, 13] (fun u iv wr => ∃ (j : Nat) (s : Int), j ≤ L.length ∧ u = .int .i64 s ∧ iv = .int .i64 (j : Int) ∧ Hid (F = nth s (L.drop j)) ∧ 0 ≤ s ∧ s ≤ k ∧ Hid (Below w.heap.size w wr)) (fun _ iv _ => L.length - (intOf iv).toNat)
  case atStart => exact ⟨0, k, Nat.zero_le _, rfl, rfl, HF, hk, Int.le_refl _, Lib.hid (Below.refl _ _)⟩
  case round =>
    obtain ⟨j, s, hj, rfl, rfl, hs, hs0, hs1, HB⟩ := hrel
    have hbs := HB.out.size
    by_cases hlt : j < L.length
    · obtain ⟨b, off, rfl, hb', h0, h1⟩ := iv_at (HR.out.below HB.out) j hlt
      have hbx := Hb.out _ (List.getElem_mem hlt)
      have hpx := Hp.out _ (List.getElem_mem hlt)
      have Hts := Lib.hid (show F = nth s (L[j] :: L.drop (j + 1)) by rw [hs.out, List.drop_eq_getElem_cons hlt])
      obtain ⟨x, hx⟩ : ∃ x, x = L[j] := ⟨_, rfl⟩
      rw [← hx] at h0 h1 hbx hpx Hts
      clear hx
      obtain ⟨x1, x2⟩ := x
      dsimp only at h0 h1 hbx hpx
      have hjl : (j : Int) < (L.length : Int) := by omega
      have hj0 : (0 : Int) ≤ (j : Int) := by omega
      have hw1 : IntKind.i64.wrap (x2 - x1) = x2 - x1 := by simp only [IntKind.wrap_i64]; omega
      by_cases hsx : s < x2 - x1
      · have HT : Hid (F = (x1 + s, true)) := Lib.hid (by
          rw [Hts.out]; show (if s < x2 - x1 then _ else _) = _; rw [if_pos hsx])
        have hw2 : IntKind.i64.wrap (x1 + s) = x1 + s := by simp only [IntKind.wrap_i64]; omega
        go_wp2_with fail
        go_ret2
        rw [HT.out]
        exact ⟨rfl, HB.out.alloc (by omega) _⟩
      · have HT : Hid (F = nth (s - (x2 - x1)) (L.drop (j + 1))) := Lib.hid (by
          rw [Hts.out]; show (if s < x2 - x1 then _ else _) = _; rw [if_neg hsx])
        have hw2 : IntKind.i64.wrap (s - (x2 - x1)) = s - (x2 - x1) := by simp only [IntKind.wrap_i64]; omega
        go_wp2_with fail
        go_roundw
        case rel => exact ⟨j + 1, s - (x2 - x1), by omega, rfl, by go_num, HT, by omega, by omega, Lib.hid (HB.out.alloc (by omega) _)⟩
        case measure => simp [intOf]; omega
    · obtain rfl : j = L.length := by omega
      have HS : Hid (F = (0, false)) := Lib.hid (by rw [hs.out, List.drop_length]; rfl)
      go_wp2_with fail
      go_ret2
      rw [HS.out]
      exact ⟨rfl, HB.out⟩
end Go.Proofs.Ytkjpficpkpfkdaa
