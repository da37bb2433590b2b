/- The reference's Rank and Length; the program's Length. -/
import Derived.Test.YtkjpficpkpfkdaaCv
namespace Go.Proofs.Ytkjpficpkpfkdaa
open Go.ChangeShapes Go.WideShapes Go.ChangeAt Go.RowKit Ts

/-- Bounds that no sum of some thousand of them overflows. -/
def Bnd (L : List Iv) : Prop := ∀ x ∈ L, (-1000000000000 ≤ x.1 ∧ x.1 ≤ 1000000000000) ∧ (-1000000000000 ≤ x.2 ∧ x.2 ≤ 1000000000000)
theorem rk_snoc (n : Int) (L : List Iv) (x : Iv) : rk n (L ++ [x]) = rk n L + (if x.1 < n then min n x.2 - x.1 else 0) := by
  unfold rk
  rw [List.map_append, List.sum_append]
  simp
theorem rk_bound {n : Int} {L : List Iv} (hp : ∀ x ∈ L, x.1 < x.2) (h : Bnd L) : 0 ≤ rk n L ∧ rk n L ≤ (L.length : Int) * 2000000000000 := by
  induction L with
  | nil => exact ⟨Int.le_refl _, by simp [rk]⟩
  | cons x L ih =>
    obtain ⟨a, b⟩ := ih (fun y hy => hp y (List.mem_cons_of_mem _ hy)) (fun y hy => h y (List.mem_cons_of_mem _ hy))
    have hx := h x (List.mem_cons_self ..)
    have hpx := hp x (List.mem_cons_self ..)
    rw [rk_cons, List.length_cons]
    push_cast
    rw [Int.add_mul]
    split <;> omega
set_option maxRecDepth 100000 in
set_option maxHeartbeats 1000000 in
theorem ref_rank (A : Option Addr) (c : Nat) (L : List Iv) (hp : ∀ x ∈ L, x.1 < x.2) (hb : Bnd L) (hl : L.length ≤ 1000) (n : Int) (w : World) (hR : Rs w w.heap.size A (ivCells L)) :
    Calls Try.prog 32 #[.slice A L.length c, .int .i64 n] w fun e w' => e = .returned (.int .i64 (rk n L)) ∧ Below w.heap.size w w' := by
  have HR := Lib.hid hR
  have Hp := Lib.hid hp
  have Hb := Lib.hid hb
  clear hR hp hb
  go_enter Try.func32, Try.ntmps32
  go_wp2_with fail
  go_loopw [5, 6] (fun u iv wr => ∃ (j : Nat) (s : Int), j ≤ L.length ∧ u = .int .i64 s ∧ iv = .int .i64 (j : Int) ∧ Hid (s = rk n (L.take j)) ∧ 0 ≤ s ∧ s ≤ (j : Int) * 2000000000000 ∧ Hid (Below w.heap.size w wr)) (fun _ iv _ => L.length - (intOf iv).toNat)
  case atStart => exact ⟨0, 0, Nat.zero_le _, rfl, rfl, Lib.hid rfl, Int.le_refl _, by simp, Lib.hid (Below.refl _ _)⟩
  case round =>
    obtain ⟨j, s, hj, rfl, rfl, hs, hs0, hs1, HB⟩ := hrel
    by_cases hlt : j < L.length
    · obtain ⟨b, off, rfl, hb', h0, h1⟩ := iv_at (HR.out.below HB.out) j hlt
      have hbx := Hb.out _ (List.getElem_mem hlt)
      have hpx := Hp.out _ (List.getElem_mem hlt)
      have Hts := Lib.hid (show rk n (L.take (j + 1)) = rk n (L.take j) + (if L[j].1 < n then min n L[j].2 - L[j].1 else 0) by rw [take_snoc L j hlt, rk_snoc])
      obtain ⟨x, hx⟩ : ∃ x, x = L[j] := ⟨_, rfl⟩
      rw [← hx] at h0 h1 hbx hpx Hts
      clear hx
      obtain ⟨x1, x2⟩ := x
      dsimp only at h0 h1 hbx hpx Hts
      have hjl : (j : Int) < (L.length : Int) := by omega
      have hj0 : (0 : Int) ≤ (j : Int) := by omega
      by_cases hn : x1 < n
      · by_cases hm : n ≤ x2
        · have hm2 : ¬ x2 < n := by omega
          have hw1 : IntKind.i64.wrap (s + n) = s + n := by simp only [IntKind.wrap_i64]; omega
          have hw2 : IntKind.i64.wrap (s + n - x1) = s + n - x1 := by simp only [IntKind.wrap_i64]; omega
          go_wp2_with fail
          go_region
          all_goals
            go_wp2_with fail
            go_roundw
            case rel => exact ⟨j + 1, s + min n x2 - x1, by omega, rfl, by go_num, Lib.hid (by rw [Hts.out, ← hs.out, if_pos hn]; omega), by omega, by push_cast; omega, Lib.hid (Below.drew HB.out)⟩
            case measure => simp [intOf]; omega
        · have hm2 : x2 < n := by omega
          have hw1 : IntKind.i64.wrap (s + x2) = s + x2 := by simp only [IntKind.wrap_i64]; omega
          have hw2 : IntKind.i64.wrap (s + x2 - x1) = s + x2 - x1 := by simp only [IntKind.wrap_i64]; omega
          go_wp2_with fail
          go_region
          all_goals
            go_wp2_with fail
            go_roundw
            case rel => exact ⟨j + 1, s + min n x2 - x1, by omega, rfl, by go_num, Lib.hid (by rw [Hts.out, ← hs.out, if_pos hn]; omega), by omega, by push_cast; omega, Lib.hid (Below.drew HB.out)⟩
            case measure => simp [intOf]; omega
      · go_wp2_with fail
        go_roundw
        case rel => exact ⟨j + 1, s, by omega, rfl, by go_num, Lib.hid (by rw [Hts.out, ← hs.out, if_neg hn]; omega), hs0, by push_cast; omega, HB⟩
        case measure => simp [intOf]; omega
    · obtain rfl : j = L.length := by omega
      have HS : Hid (s = rk n L) := Lib.hid (by rw [hs.out, List.take_length])
      go_wp2_with fail
      go_ret
      rw [← HS.out]
      exact ⟨rfl, HB.out⟩
end Go.Proofs.Ytkjpficpkpfkdaa
