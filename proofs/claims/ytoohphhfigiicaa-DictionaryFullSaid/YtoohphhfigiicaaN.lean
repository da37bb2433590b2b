/- common, beginsGroup, sharedWithBefore, Size. -/
import Derived.Test.YtoohphhfigiicaaM
import Derived.Test.YtoohphhfigiicaaEp
namespace Go.Proofs.Ytoohphhfigiicaa
open Go.ChangeShapes Go.WideShapes Go.ChangeAt Go.RowKit Dp

theorem get_bytes (a : ByteArray) (n : Nat) (h : n < a.size) : a.data.toList[n]? = some a[n] := by
  rw [List.getElem?_eq_getElem (by simpa using h)]; rfl
theorem u8_ne {x y : UInt8} (h : x ≠ y) : ((x.toNat : Int) == (y.toNat : Int)) = false := by
  rw [beq_eq_false_iff_ne]
  intro e
  exact h (UInt8.toNat_inj.1 (by omega))
set_option maxRecDepth 100000 in
set_option maxHeartbeats 1000000 in
theorem common_any (a b : ByteArray) (ha : a.size ≤ 9223372036854775807) (_hb : b.size ≤ 9223372036854775807) (w : World) :
    Calls Try.prog 67 #[.string a, .string b] w fun e w' => e = .returned (.int .i64 (cm a b : Nat)) ∧ ∃ q, w' = w.drewN q := by
  go_enter Try.func67, Try.ntmps67
  go_wp2_with fail
  go_loopw [5] (fun i wr => ∃ k q : Nat, k ≤ a.size ∧ k ≤ b.size ∧ i = .int .i64 k ∧ wr = w.drewN q ∧ Hid (∀ j, j < k → a.data.toList[j]? = b.data.toList[j]?)) (fun i _ => a.size - (intOf i).toNat)
  case atStart => exact ⟨0, 0, Nat.zero_le _, Nat.zero_le _, rfl, rfl, Lib.hid (fun j hj => absurd hj (by omega))⟩
  case round =>
    obtain ⟨k, q, hk1, hk2, rfl, rfl, hI⟩ := hrel
    have hla : a.data.toList.length = a.size := by simp
    have hlb : b.data.toList.length = b.size := by simp
    by_cases h1 : k < a.size
    · by_cases h2 : k < b.size
      · by_cases h3 : a[k] = b[k]
        · have hI2 : Hid (∀ j, j < k + 1 → a.data.toList[j]? = b.data.toList[j]?) := Lib.hid (fun j hj => by
            by_cases e : j = k
            · subst e; rw [get_bytes a _ h1, get_bytes b _ h2, h3]
            · exact hI.out j (by omega))
          have hbeq : ((a[k].toNat : Int) == (b[k].toNat : Int)) = true := by rw [h3]; exact beq_self_eq_true _
          clear h3 hI hla hlb
          go_wp2_with fail
          go_quiet (fail)
          (refine (by assumption : ∀ _ _, _ → _) _ _ ?_)
          go_wp2_with fail
          go_roundw
          case rel => exact ⟨k + 1, _, by omega, by omega, by go_num, rfl, hI2⟩
          case measure => simp [intOf]; omega
        · have hC : Hid (cm a b = k) := Lib.hid (cmn_eq _ _ k (by omega) (by omega) hI.out (fun _ _ => by rw [get_bytes a _ h1, get_bytes b _ h2]; intro e; injection e with e; exact h3 e))
          have hbeq := u8_ne h3
          clear h3 hla hlb
          go_wp2_with fail
          go_quiet (fail)
          (refine (by assumption : ∀ _ _, _ → _) _ _ ?_)
          go_wp2_with fail
          go_ret
          exact ⟨by rw [hC.out]; rfl, q + nq, World.drewN_drewN _ _ _⟩
      · have hC : Hid (cm a b = k) := Lib.hid (cmn_eq _ _ k (by omega) (by omega) hI.out (fun _ h => by omega))
        have hd2 : decide ((k : Int) < (b.size : Int)) = false := by simp; omega
        clear hla hlb
        go_wp2_with fail
        go_quiet (fail)
        (refine (by assumption : ∀ _ _, _ → _) _ _ ?_)
        go_wp2_with fail
        go_ret
        exact ⟨by rw [hC.out]; rfl, q + nq, World.drewN_drewN _ _ _⟩
    · have hC : Hid (cm a b = k) := Lib.hid (cmn_eq _ _ k (by omega) (by omega) hI.out (fun h _ => by omega))
      have hd1 : decide ((k : Int) < (a.size : Int)) = false := by simp; omega
      clear hla hlb
      go_wp2_with fail
      go_quiet (fail)
      (refine (by assumption : ∀ _ _, _ → _) _ _ ?_)
      go_wp2_with fail
      go_ret
      exact ⟨by rw [hC.out]; rfl, q + nq, World.drewN_drewN _ _ _⟩
set_option maxRecDepth 100000 in
set_option maxHeartbeats 1000000 in
theorem rcommon_any (a b : ByteArray) (ha : a.size ≤ 9223372036854775807) (_hb : b.size ≤ 9223372036854775807) (w : World) :
    Calls Try.prog 58 #[.string a, .string b] w fun e w' => e = .returned (.int .i64 (cm a b : Nat)) ∧ ∃ q, w' = w.drewN q := by
  go_enter Try.func58, Try.ntmps58
  go_wp2_with fail
  go_loopw [5] (fun i wr => ∃ k q : Nat, k ≤ a.size ∧ k ≤ b.size ∧ i = .int .i64 k ∧ wr = w.drewN q ∧ Hid (∀ j, j < k → a.data.toList[j]? = b.data.toList[j]?)) (fun i _ => a.size - (intOf i).toNat)
  case atStart => exact ⟨0, 0, Nat.zero_le _, Nat.zero_le _, rfl, rfl, Lib.hid (fun j hj => absurd hj (by omega))⟩
  case round =>
    obtain ⟨k, q, hk1, hk2, rfl, rfl, hI⟩ := hrel
    have hla : a.data.toList.length = a.size := by simp
    have hlb : b.data.toList.length = b.size := by simp
    by_cases h1 : k < a.size
    · by_cases h2 : k < b.size
      · by_cases h3 : a[k] = b[k]
        · have hI2 : Hid (∀ j, j < k + 1 → a.data.toList[j]? = b.data.toList[j]?) := Lib.hid (fun j hj => by
            by_cases e : j = k
            · subst e; rw [get_bytes a _ h1, get_bytes b _ h2, h3]
            · exact hI.out j (by omega))
          have hbeq : ((a[k].toNat : Int) == (b[k].toNat : Int)) = true := by rw [h3]; exact beq_self_eq_true _
          clear h3 hI hla hlb
          go_wp2_with fail
          go_quiet (fail)
          (refine (by assumption : ∀ _ _, _ → _) _ _ ?_)
          go_wp2_with fail
          go_roundw
          case rel => exact ⟨k + 1, _, by omega, by omega, by go_num, rfl, hI2⟩
          case measure => simp [intOf]; omega
        · have hC : Hid (cm a b = k) := Lib.hid (cmn_eq _ _ k (by omega) (by omega) hI.out (fun _ _ => by rw [get_bytes a _ h1, get_bytes b _ h2]; intro e; injection e with e; exact h3 e))
          have hbeq := u8_ne h3
          clear h3 hla hlb
          go_wp2_with fail
          go_quiet (fail)
          (refine (by assumption : ∀ _ _, _ → _) _ _ ?_)
          go_wp2_with fail
          go_ret
          exact ⟨by rw [hC.out]; rfl, q + nq, World.drewN_drewN _ _ _⟩
      · have hC : Hid (cm a b = k) := Lib.hid (cmn_eq _ _ k (by omega) (by omega) hI.out (fun _ h => by omega))
        have hd2 : decide ((k : Int) < (b.size : Int)) = false := by simp; omega
        clear hla hlb
        go_wp2_with fail
        go_quiet (fail)
        (refine (by assumption : ∀ _ _, _ → _) _ _ ?_)
        go_wp2_with fail
        go_ret
        exact ⟨by rw [hC.out]; rfl, q + nq, World.drewN_drewN _ _ _⟩
    · have hC : Hid (cm a b = k) := Lib.hid (cmn_eq _ _ k (by omega) (by omega) hI.out (fun h _ => by omega))
      have hd1 : decide ((k : Int) < (a.size : Int)) = false := by simp; omega
      clear hla hlb
      go_wp2_with fail
      go_quiet (fail)
      (refine (by assumption : ∀ _ _, _ → _) _ _ ?_)
      go_wp2_with fail
      go_ret
      exact ⟨by rw [hC.out]; rfl, q + nq, World.drewN_drewN _ _ _⟩

theorem mod16 (k : Nat) : ((k : Int).tmod 16 == 0) = decide (k % 16 = 0) := by
  have e : (k : Int).tmod 16 = ((k % 16 : Nat) : Int) := by rw [Int.tmod_eq_emod_of_nonneg (by omega)]; omega
  rw [e, Bool.eq_iff_iff]; simp; omega
theorem begins_any (k : Nat) (hk : k ≤ 1000000) (w : World) : Calls Try.prog 57 #[.int .i64 (k : Int)] w fun e w' => e = .returned (.bool (decide (k % 16 = 0))) ∧ w' = w := by
  go_enter Try.func57, Try.ntmps57
  go_wp2
  go_ret
  refine ⟨?_, rfl⟩
  have hm : (((k : Int) % 16) == 0) = decide (k % 16 = 0) := by rw [Bool.eq_iff_iff]; simp; omega
  show Ending.returned (.bool (((k : Int) % 16) == 0)) = _
  rw [hm]
theorem drewN_below (w : World) (q : Nat) : Below w.heap.size w (w.drewN q) := below_drewN (Below.refl _ _) q
set_option maxHeartbeats 1000000 in
theorem shared_any (A : Option Addr) (c : Nat) (L : List ByteArray) (k : Nat) (hk : k < L.length) (hL : L.length ≤ 1000000) (hsz : ∀ x ∈ L, x.size ≤ 9223372036854775807) (w : World) (hR : Rd Value.string w A L) :
    Calls Try.prog 56 #[.slice A L.length c, .int .i64 (k : Int)] w fun e w' => e = .returned (.int .i64 (sw L k : Nat)) ∧ ∃ q, w' = w.drewN q := by
  have hbg := begins_any k (by omega) w
  by_cases h16 : k % 16 = 0
  · have hs : sw L k = 0 := by unfold sw; rw [if_pos h16]
    rw [decide_eq_true h16] at hbg
    rw [hs]
    clear hs h16
    go_enter Try.func56, Try.ntmps56
    go_wp2_with fail
    refine hbg.mono ?_
    rintro e w1 ⟨rfl, rfl⟩
    go_wp2_with fail
    go_ret
    exact ⟨rfl, 0, rfl⟩
  · have hs : sw L k = cm (L.getD (k - 1) ByteArray.empty) (L.getD k ByteArray.empty) := by unfold sw; rw [if_neg h16]
    rw [decide_eq_false h16] at hbg
    have h0 : 0 < k := by
      rcases Nat.eq_zero_or_pos k with h | h
      · subst h; exact absurd rfl h16
      · exact h
    have h1 : 1 ≤ k := h0
    obtain ⟨b, off, rfl, hb, hc⟩ := hR k hk
    obtain ⟨b', off', e2, hb2, hc2⟩ := hR (k - 1) (by omega)
    injection e2 with e2
    injection e2 with e3 e4
    subst e3 e4
    have hx := hsz _ (List.getElem_mem hk)
    have hy := hsz _ (List.getElem_mem (show k - 1 < L.length by omega))
    have hs2 : sw L k = cm L[k - 1] L[k] := by
      rw [hs]
      simp [List.getD, List.getElem?_eq_getElem hk, List.getElem?_eq_getElem (show k - 1 < L.length by omega)]
    obtain ⟨x, hxe⟩ : ∃ x, x = L[k] := ⟨_, rfl⟩
    obtain ⟨y, hye⟩ : ∃ y, y = L[k - 1] := ⟨_, rfl⟩
    rw [← hxe] at hc hx hs2
    rw [← hye] at hc2 hy hs2
    rw [hs2]
    have hcm := common_any y x hy hx
    obtain ⟨m, hm⟩ : ∃ m, m = cm y x := ⟨_, rfl⟩
    rw [← hm] at hcm ⊢
    have hlt : (k : Int) - 1 < (L.length : Int) := by omega
    have hlt2 : k - 1 < L.length := by omega
    have w1 : IntKind.i64.wrap ((k : Int) - 1) = (k : Int) - 1 := by rw [IntWalk.i64_in _ (by omega)]
    have w4 : (1 : Int) ≤ (k : Int) := by omega
    have w5 : (k : Int) ≤ (L.length : Int) := by omega
    have w6 : k ≤ L.length := by omega
    clear hs hs2 hxe hye hm h16 hR hsz
    go_enter Try.func56, Try.ntmps56
    go_wp2_with fail
    refine hbg.mono ?_
    rintro e w1 ⟨rfl, rfl⟩
    go_wp2_with fail
    go_quiet ((go_at_call 67; exact Calls.quiet_of (hcm _)))
    (refine (by assumption : ∀ _ _, _ → _) _ _ ?_)
    go_wp2_with fail
    go_ret
    exact ⟨rfl, _, rfl⟩
end Go.Proofs.Ytoohphhfigiicaa
