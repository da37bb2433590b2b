/- The reference's Has, Next, Previous. -/
import Derived.Test.YtkjpficpkpfkdaaGn
namespace Go.Proofs.Ytkjpficpkpfkdaa
open Go.ChangeShapes Go.WideShapes Go.ChangeAt Go.RowKit Ts

theorem iv_at {w : World} {B : Nat} {A : Option Addr} {L : List Iv} (h : Rs w B A (ivCells L)) (j : Nat) (hj : j < L.length) : ∃ b off, A = some ⟨b, off, none⟩ ∧ b < B ∧ w.cell? ⟨b, off + j * 2, none⟩ = some (.int .i64 L[j].1) ∧ w.cell? ⟨b, off + j * 2 + 1, none⟩ = some (.int .i64 L[j].2) := by
  obtain ⟨b, off, e, hb, hc⟩ := rows_at (C := ivC) (k := 2) (by decide) (fun _ => rfl) h j hj
  exact ⟨b, off, e, hb, hc 0 (by decide), hc 1 (by decide)⟩
set_option maxRecDepth 100000 in
set_option maxHeartbeats 1000000 in
theorem ref_has (A : Option Addr) (c : Nat) (L : List Iv) (hl : L.length ≤ 1000000) (n : Int) (w : World) (hR : Rs w w.heap.size A (ivCells L)) :
    Calls Try.prog 26 #[.slice A L.length c, .int .i64 n] w fun e w' => e = .returned (.bool (has n L)) ∧ w' = w := by
  have HR := Lib.hid hR
  obtain ⟨F, hF⟩ : ∃ F, F = has n L := ⟨_, rfl⟩
  rw [← hF]
  have HF := Lib.hid hF
  clear hR hF
  go_enter Try.func26, Try.ntmps26
  go_wp2_with fail
  go_loop [5] (fun iv => ∃ j : Nat, j ≤ L.length ∧ iv = .int .i64 (j : Int) ∧ Hid (∀ q (h : q < L.length), q < j → ¬ (L[q].1 ≤ n ∧ n < L[q].2))) (fun iv => L.length - (intOf iv).toNat)
  case atStart => exact ⟨0, Nat.zero_le _, rfl, Lib.hid (fun q _ hq => absurd hq (by omega))⟩
  case round =>
    obtain ⟨j, hj, rfl, hall⟩ := hrel
    by_cases hlt : j < L.length
    · obtain ⟨b, off, rfl, hb, h0, h1⟩ := iv_at HR.out j hlt
      have Hx := Lib.hid (List.getElem_mem hlt)
      obtain ⟨x, hx⟩ : ∃ x, x = L[j] := ⟨_, rfl⟩
      rw [← hx] at h0 h1 Hx
      have HX := Lib.hid hx
      clear hx
      obtain ⟨x1, x2⟩ := x
      dsimp only at h0 h1
      by_cases ha : x1 ≤ n
      · by_cases hc : n < x2
        · have HT : Hid (F = true) := Lib.hid (by rw [HF.out, has_in]; exact ⟨_, Hx.out, ha, hc⟩)
          go_wp2_with fail
          go_ret
          rw [HT.out]
          exact ⟨rfl, rfl⟩
        · go_wp2_with fail
          go_round
          case rel =>
            refine ⟨j + 1, by omega, by go_num, Lib.hid (fun q hq hqj => ?_)⟩
            by_cases e : q = j
            · subst e; rw [← HX.out]; exact fun h => hc h.2
            · exact hall.out q hq (by omega)
          case measure => simp [intOf]; omega
      · go_wp2_with fail
        go_round
        case rel =>
          refine ⟨j + 1, by omega, by go_num, Lib.hid (fun q hq hqj => ?_)⟩
          by_cases e : q = j
          · subst e; rw [← HX.out]; exact fun h => ha h.1
          · exact hall.out q hq (by omega)
        case measure => simp [intOf]; omega
    · have HT : Hid (F = false) := Lib.hid (by
        rw [HF.out, Bool.eq_false_iff]
        intro h
        obtain ⟨x, hx, hn⟩ := (has_in n L).1 h
        obtain ⟨q, hq, rfl⟩ := List.getElem_of_mem hx
        exact hall.out q hq (by omega) hn)
      go_wp2_with fail
      go_ret
      rw [HT.out]
      exact ⟨rfl, rfl⟩
set_option maxRecDepth 100000 in
set_option maxHeartbeats 1000000 in
theorem ref_next (A : Option Addr) (c : Nat) (L : List Iv) (hl : L.length ≤ 1000000) (n : Int) (w : World) (hR : Rs w w.heap.size A (ivCells L)) :
    Calls Try.prog 36 #[.slice A L.length c, .int .i64 n] w fun e w' => e = .returned (.tuple #[.int .i64 (nxt n L).1, .bool (nxt n L).2]) ∧ w' = w := by
  have HR := Lib.hid hR
  obtain ⟨F, hF⟩ : ∃ F, F = nxt n L := ⟨_, rfl⟩
  rw [← hF]
  have HF := Lib.hid hF
  clear hR hF
  go_enter Try.func36, Try.ntmps36
  go_wp2_with fail
  go_loop [6] (fun iv => ∃ j : Nat, j ≤ L.length ∧ iv = .int .i64 (j : Int) ∧ Hid (∀ q (h : q < L.length), q < j → ¬ n < L[q].2)) (fun iv => L.length - (intOf iv).toNat)
  case atStart => exact ⟨0, Nat.zero_le _, rfl, Lib.hid (fun q _ hq => absurd hq (by omega))⟩
  case round =>
    obtain ⟨j, hj, rfl, hall⟩ := hrel
    by_cases hlt : j < L.length
    · obtain ⟨b, off, rfl, hb, h0, h1⟩ := iv_at HR.out j hlt
      have HN := Lib.hid (fun h2 => nxt_at (n := n) hlt (fun q hq hqj => hall.out q hq hqj) h2)
      obtain ⟨x, hx⟩ : ∃ x, x = L[j] := ⟨_, rfl⟩
      rw [← hx] at h0 h1 HN
      have HX := Lib.hid hx
      clear hx
      obtain ⟨x1, x2⟩ := x
      dsimp only at h0 h1 HN
      by_cases hc : n < x2
      · have HT : Hid (F = (max n x1, true)) := Lib.hid (by rw [HF.out]; exact HN.out hc)
        go_wp2_with fail
        all_goals
          go_ret2
          rw [HT.out]
          first
            | exact ⟨by rw [show max n x1 = x1 by omega]; rfl, rfl⟩
            | exact ⟨by rw [show max n x1 = n by omega]; rfl, rfl⟩
      · go_wp2_with fail
        go_round
        case rel =>
          refine ⟨j + 1, by omega, by go_num, Lib.hid (fun q hq hqj => ?_)⟩
          by_cases e : q = j
          · subst e; rw [← HX.out]; exact hc
          · exact hall.out q hq (by omega)
        case measure => simp [intOf]; omega
    · have HT : Hid (F = (0, false)) := Lib.hid (by
        rw [HF.out]
        exact nxt_none (fun q hq => hall.out q hq (by omega)))
      go_wp2_with fail
      go_ret2
      rw [HT.out]
      exact ⟨rfl, rfl⟩
set_option maxRecDepth 100000 in
set_option maxHeartbeats 1000000 in
theorem ref_prev (A : Option Addr) (c : Nat) (L : List Iv) (hL : Nrm L) (hl : L.length ≤ 1000000) (hb : ∀ x ∈ L, -9000000000000000000 ≤ x.2 ∧ x.2 ≤ 9000000000000000000) (n : Int) (w : World) (hR : Rs w w.heap.size A (ivCells L)) :
    Calls Try.prog 37 #[.slice A L.length c, .int .i64 n] w fun e w' => e = .returned (.tuple #[.int .i64 (prv n L).1, .bool (prv n L).2]) ∧ w' = w := by
  have HR := Lib.hid hR
  have Hb := Lib.hid hb
  obtain ⟨F, hF⟩ : ∃ F, F = prv n L := ⟨_, rfl⟩
  rw [← hF]
  have HF := Lib.hid hF
  have HL := Lib.hid hL
  clear hR hF hL hb
  go_enter Try.func37, Try.ntmps37
  go_wp2_with fail
  go_loop [6] (fun iv => ∃ j : Nat, j ≤ L.length ∧ iv = .int .i64 ((j : Int) - 1) ∧ Hid (∀ q (h : q < L.length), j ≤ q → ¬ L[q].1 ≤ n)) (fun iv => (intOf iv + 1).toNat)
  case atStart => exact ⟨L.length, Nat.le_refl _, by go_num, Lib.hid (fun q h hq => absurd hq (by omega))⟩
  case round =>
    obtain ⟨j, hj, rfl, hall⟩ := hrel
    by_cases hlt : 0 < j
    · obtain ⟨i, rfl⟩ : ∃ i, j = i + 1 := ⟨j - 1, by omega⟩
      have e1 : ((i + 1 : Nat) : Int) - 1 = (i : Int) := by omega
      rw [e1]
      have hi : i < L.length := by omega
      obtain ⟨b, off, rfl, hb, h0, h1⟩ := iv_at HR.out i hi
      have hbx := Hb.out _ (List.getElem_mem hi)
      have HN := Lib.hid (fun h2 => prv_at HL.out (n := n) hi (fun q hq hqj => hall.out q hq (by omega)) h2)
      obtain ⟨x, hx⟩ : ∃ x, x = L[i] := ⟨_, rfl⟩
      rw [← hx] at h0 h1 HN hbx
      have HX := Lib.hid hx
      clear hx
      obtain ⟨x1, x2⟩ := x
      dsimp only at h0 h1 HN hbx
      have hw : IntKind.i64.wrap (x2 - 1) = x2 - 1 := by simp only [IntKind.wrap_i64]; omega
      have hi0 : (0 : Int) ≤ (i : Int) := by omega
      have hw2 : IntKind.i64.wrap ((i : Int) - 1) = (i : Int) - 1 := by simp only [IntKind.wrap_i64]; omega
      by_cases hc : x1 ≤ n
      · have HT : Hid (F = (min n (x2 - 1), true)) := Lib.hid (by rw [HF.out]; exact HN.out hc)
        go_wp2_with fail
        all_goals
          go_ret2
          rw [HT.out]
          first
            | exact ⟨by rw [show min n (x2 - 1) = n by omega]; rfl, rfl⟩
            | exact ⟨by rw [show min n (x2 - 1) = x2 - 1 by omega]; rfl, rfl⟩
      · go_wp2_with fail
        go_round
        case rel =>
          refine ⟨i, by omega, rfl, Lib.hid (fun q hq hqj => ?_)⟩
          by_cases e : q = i
          · subst e; rw [← HX.out]; exact hc
          · exact hall.out q hq (by omega)
        case measure => simp [intOf]
    · obtain rfl : j = 0 := by omega
      have HT : Hid (F = (0, false)) := Lib.hid (by
        rw [HF.out]
        exact prv_none (fun q hq => hall.out q hq (Nat.zero_le _)))
      have e1 : ((0 : Nat) : Int) - 1 = -1 := by omega
      rw [e1]
      go_wp2_with fail
      go_ret2
      rw [HT.out]
      exact ⟨rfl, rfl⟩
end Go.Proofs.Ytkjpficpkpfkdaa
