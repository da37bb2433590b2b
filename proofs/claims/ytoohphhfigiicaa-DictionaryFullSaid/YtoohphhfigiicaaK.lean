/- The reference's Build, Merge and From; the law's dictionaryOf; the program's Merge. -/
import Derived.Test.YtoohphhfigiicaaJ
namespace Go.Proofs.Ytoohphhfigiicaa
open Go.ChangeShapes Go.WideShapes Go.ChangeAt Go.RowKit Dp

theorem bld_take_succ (L : List ByteArray) (k : Nat) (hk : k < L.length) : bld (L.take (k + 1)) = ins (bld (L.take k)) L[k] := by
  rw [List.take_succ_eq_append_getElem hk, bld_snoc]
theorem bdE_long {L : List ByteArray} (h : ∃ k, ∃ hk : k < L.length, 255 < L[k].size) : bdE L = 5 := by
  obtain ⟨k, hk, h⟩ := h
  unfold bdE
  rw [if_pos]
  rw [List.any_eq_true]
  exact ⟨L[k], List.getElem_mem hk, by unfold long; exact decide_eq_true h⟩
theorem bdE_short {L : List ByteArray} (h : ∀ j, j < L.length → ∀ hj : j < L.length, L[j].size ≤ 255) : bdE L = if 4096 < (bld L).length then 6 else 0 := by
  unfold bdE
  rw [if_neg]
  rw [List.any_eq_true]
  rintro ⟨x, hx, hl⟩
  obtain ⟨j, hj, rfl⟩ := List.mem_iff_getElem.1 hx
  have := h j hj hj
  unfold long at hl
  have := of_decide_eq_true hl
  omega
set_option maxRecDepth 100000 in
set_option maxHeartbeats 1000000 in
theorem rbuild_any (A : Option Addr) (c : Nat) (L : List ByteArray) (hL : L.length ≤ 400000) (hsz : ∀ x ∈ L, x.size ≤ 9223372036854775807) (w : World) (hR : Rd Value.string w A L) :
    Calls Try.prog 16 #[.slice A L.length c] w fun e w' => OutD w' e (bdV L) (bdE L) ∧ Below w.heap.size w w' := by
  have HR := Lib.hid hR
  have Hs := Lib.hid hsz
  clear hR hsz
  go_enter Try.func16, Try.ntmps16
  go_wp2_with fail
  go_loop [5] (fun i => ∃ k : Nat, k ≤ L.length ∧ i = .int .i64 k ∧ Hid (∀ j, j < k → ∀ hj : j < L.length, L[j].size ≤ 255)) (fun i => L.length - (intOf i).toNat)
  case atStart => exact ⟨0, Nat.zero_le _, rfl, Lib.hid (fun j hj => absurd hj (by omega))⟩
  case round =>
    obtain ⟨k, hk, rfl, hall⟩ := hrel
    by_cases hlt : k < L.length
    · obtain ⟨b, off, rfl, hb, hc⟩ := HR.out k hlt
      have hx := Hs.out _ (List.getElem_mem hlt)
      obtain ⟨x, hxe⟩ : ∃ x, x = L[k] := ⟨_, rfl⟩
      rw [← hxe] at hc hx
      have Hx := Lib.hid hxe
      clear hxe
      by_cases h3 : x.size ≤ 255
      · go_wp2_with fail
        go_round
        case rel =>
          refine ⟨k + 1, by omega, by go_num, Lib.hid (fun j hj hj2 => ?_)⟩
          by_cases e : j = k
          · subst e; rw [← Hx.out]; exact h3
          · exact hall.out j (by omega) hj2
        case measure => simp [intOf]; omega
      · have hE : Hid (bdE L = 5) := Lib.hid (bdE_long ⟨k, hlt, by rw [← Hx.out]; omega⟩)
        have hV : Hid (bdV L = []) := Lib.hid (by unfold bdV; rw [hE.out]; rfl)
        go_wp2_with fail
        go_ret2
        refine ⟨?_, Below.refl _ _⟩
        rw [hE.out, hV.out]
        exact ⟨none, 0, rfl, Nat.le_refl _, .inl ⟨rfl, rfl⟩, Rd.nil⟩
    · obtain rfl : k = L.length := by omega
      have hE : Hid (bdE L = if 4096 < (bld L).length then 6 else 0) := Lib.hid (bdE_short hall.out)
      have hbl := bld_len L
      clear hall hk hlt
      go_wp2_with fail
      go_loopw [4, 6] (fun v i wr => ∃ k : Nat, k ≤ L.length ∧ i = .int .i64 k ∧ (∃ A' c', v = .slice A' (bld (L.take k)).length c' ∧ (bld (L.take k)).length ≤ c' ∧ Hid (Addressed A' c') ∧ Hid (Rd Value.string wr A' (bld (L.take k)))) ∧ Hid (Below w.heap.size w wr)) (fun _ i _ => L.length - (intOf i).toNat)
      case atStart => exact ⟨0, Nat.zero_le _, rfl, ⟨none, 0, rfl, Nat.le_refl _, Lib.hid (.inl ⟨rfl, rfl⟩), Lib.hid Rd.nil⟩, Lib.hid (Below.refl _ _)⟩
      case round =>
        obtain ⟨k, hk, rfl, ⟨A', c', rfl, hc', hA', hr'⟩, hB⟩ := hrel
        by_cases hlt : k < L.length
        · obtain ⟨b, off, rfl, hb, hc⟩ := (HR.out.below hB.out) k hlt
          have HT := Lib.hid (bld_take_succ L k hlt)
          obtain ⟨x, hxe⟩ : ∃ x, x = L[k] := ⟨_, rfl⟩
          rw [← hxe] at hc HT
          clear hxe
          have hl2 := bld_len (L.take k)
          rw [List.length_take] at hl2
          obtain ⟨D, hD⟩ : ∃ D, D = bld (L.take k) := ⟨_, rfl⟩
          rw [← hD] at hc' hr' HT hl2 ⊢
          clear hD
          go_wp2_with fail
          refine (insert_any A' c' D x (by omega) hc' hA'.out wr hr'.out).mono ?_
          rintro e w1 ⟨⟨A2, c2, rfl, hc2, hA2, hr2⟩, hB2⟩
          rw [← HT.out] at hc2 hr2 ⊢
          have HB2 := Lib.hid (below_to hB.out hB2)
          have HA2 := Lib.hid hA2
          have HR2 := Lib.hid hr2
          clear hB2 hA2 hr2 hc
          go_wp2_with fail
          go_roundw
          case rel => exact ⟨k + 1, by omega, by go_num, ⟨A2, c2, rfl, hc2, HA2, HR2⟩, HB2⟩
          case measure => simp [intOf]; omega
        · obtain rfl : k = L.length := by omega
          rw [List.take_length] at hc' hr' ⊢
          by_cases h4 : 4096 < (bld L).length
          · have hE2 : Hid (bdE L = 6) := Lib.hid (by rw [hE.out, if_pos h4])
            have hV2 : Hid (bdV L = []) := Lib.hid (by unfold bdV; rw [hE2.out]; rfl)
            go_wp2_with fail
            go_ret2
            refine ⟨?_, hB.out⟩
            rw [hE2.out, hV2.out]
            exact ⟨none, 0, rfl, Nat.le_refl _, .inl ⟨rfl, rfl⟩, Rd.nil⟩
          · have hE2 : Hid (bdE L = 0) := Lib.hid (by rw [hE.out, if_neg h4])
            have hV2 : Hid (bdV L = bld L) := Lib.hid (by unfold bdV; rw [hE2.out]; rfl)
            go_wp2_with fail
            go_ret2
            refine ⟨?_, hB.out⟩
            rw [hE2.out, hV2.out]
            exact ⟨A', c', rfl, hc', hA'.out, hr'.out⟩
end Go.Proofs.Ytoohphhfigiicaa
