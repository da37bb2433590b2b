/- isIncreasing; Decode. -/
import Derived.Test.YtajainkaomkbjaaFa
import Derived.Lib.QuietBelow
namespace Go.Proofs.Ytajainkaomkbjaa
open Go.ChangeShapes Go.WideShapes Go.ChangeAt Go.RowKit Go.Joins Bt

theorem str_at {w : World} {A : Option Addr} {L : List ByteArray} (h : Rd Value.string w A L) (j : Nat) (hj : j < L.length) : ∃ b off, A = some ⟨b, off, none⟩ ∧ b < w.heap.size ∧ w.cell? ⟨b, off + j, none⟩ = some (.string L[j]) := h j hj
theorem kys_at (sd : Int) (K : List ByteArray) (j : Nat) (hj : j < K.length) : (kys sd K)[j]'(by simpa [kys] using hj) = kyO sd K[j] := by simp [kys]
theorem kys_length (sd : Int) (K : List ByteArray) : (kys sd K).length = K.length := by simp [kys]
set_option maxRecDepth 100000 in
set_option maxHeartbeats 4000000 in
theorem inc_any (sd : Int) (A : Option Addr) (c : Nat) (K : List ByteArray) (hl : K.length ≤ 100000) (hs : ∀ t ∈ K, t.size ≤ 1000000) (w : World) (hR : Rd Value.string w A K) :
    Calls Try.prog 63 #[.int .i64 sd, .slice A K.length c] w fun e w' => e = .returned (.bool (incB (kys sd K))) ∧ Below w.heap.size w w' := by
  have HR := Lib.hid hR
  have HS := Lib.hid hs
  have HI := Lib.hid (@incB_get (kys sd K))
  obtain ⟨r, hr⟩ : ∃ r, r = incB (kys sd K) := ⟨_, rfl⟩
  rw [← hr] at HI ⊢
  obtain ⟨ln, hln⟩ : ∃ q, q = K.length := ⟨_, rfl⟩
  have HLn := Lib.hid hln
  rw [← hln] at hl ⊢
  clear hR hs hr hln
  go_enter Try.func63, Try.ntmps63
  go_wp2_with fail
  go_loopw [5] (fun iv wr => ∃ i : Nat, 1 ≤ i ∧ (i ≤ ln ∨ i = 1) ∧ iv = .int .i64 (i : Int) ∧ Hid (∀ j (h : j + 1 < (kys sd K).length), j + 1 < i → kl (kys sd K)[j] (kys sd K)[j + 1] = true) ∧ Hid (Below w.heap.size w wr)) (fun iv _ => ln - (intOf iv).toNat)
  case atStart => exact ⟨1, Nat.le_refl _, .inr rfl, rfl, Lib.hid (fun j h hj => by omega), Lib.hid (Below.refl _ _)⟩
  case round =>
    obtain ⟨i, hi1, hi, rfl, HQ, HB⟩ := hrel
    by_cases hlt : i < ln
    · obtain ⟨k, rfl⟩ : ∃ k, i = k + 1 := ⟨i - 1, by omega⟩
      have hk2 : k + 1 < K.length := by rw [← HLn.out]; exact hlt
      obtain ⟨b, off, rfl, hbl, h0⟩ := str_at (HR.out.below HB.out) k (by omega)
      obtain ⟨b', off', e, _, h1⟩ := str_at (HR.out.below HB.out) (k + 1) hk2
      simp only [Option.some.injEq, Addr.mk.injEq, and_true] at e
      obtain ⟨rfl, rfl⟩ := e
      have hz0 := HS.out _ (List.getElem_mem (show k < K.length by omega))
      have hz1 := HS.out _ (List.getElem_mem hk2)
      have HKl : Hid (kl ((kys sd K)[k]'(by rw [kys_length]; omega)) ((kys sd K)[k + 1]'(by rw [kys_length]; exact hk2)) = kl (kyO sd K[k]) (kyO sd K[k + 1])) := Lib.hid (by rw [kys_at, kys_at])
      obtain ⟨s, hs⟩ : ∃ s, s = K[k] := ⟨_, rfl⟩
      obtain ⟨t, ht⟩ : ∃ s, s = K[k + 1] := ⟨_, rfl⟩
      rw [← hs] at h0 hz0 HKl
      rw [← ht] at h1 hz1 HKl
      have cG0 : ∀ d os, (Go.Sort.grow (redrawn wr d) os).cell? ⟨b, off + k, none⟩ = some (.string s) := fun d os => cell_regrown h0 d os
      have cG1 : ∀ d os, (Go.Sort.grow (redrawn wr d) os).cell? ⟨b, off + (k + 1), none⟩ = some (.string t) := fun d os => cell_regrown h1 d os
      have C1 : Hid (∀ d os, Calls Try.prog 42 #[.int .i64 sd, .string s] (Go.Sort.grow (redrawn wr d) os) fun e w'' => e = .returned (.agg #[.int .i64 (hsh sd s), .string s]) ∧ ∃ p : Regrown, w'' = Go.Sort.grow (redrawn wr p.d) p.os) := Lib.hid (fun d os => Calls.regrown_of (hashed_any sd s hz0 _))
      have C2 : Hid (∀ d os, Calls Try.prog 42 #[.int .i64 sd, .string t] (Go.Sort.grow (redrawn wr d) os) fun e w'' => e = .returned (.agg #[.int .i64 (hsh sd t), .string t]) ∧ ∃ p : Regrown, w'' = Go.Sort.grow (redrawn wr p.d) p.os) := Lib.hid (fun d os => Calls.regrown_of (hashed_any sd t hz1 _))
      have C3 : Hid (∀ d os, Calls Try.prog 47 #[.agg #[.int .i64 (hsh sd s), .string s], .agg #[.int .i64 (hsh sd t), .string t]] (Go.Sort.grow (redrawn wr d) os) fun e w'' => e = .returned (.int .i64 (ckI (kyO sd s) (kyO sd t))) ∧ ∃ p : Regrown, w'' = Go.Sort.grow (redrawn wr p.d) p.os) := Lib.hid (fun d os => Calls.regrown_of (compare_any _ _ _ _ _))
      have hcl := @ck_lt (kyO sd s) (kyO sd t)
      have hcb := ck_bd (kyO sd s) (kyO sd t)
      obtain ⟨q, hq⟩ : ∃ q, q = ckI (kyO sd s) (kyO sd t) := ⟨_, rfl⟩
      rw [← hq] at C3 hcl hcb
      have hkI : (k : Int) + 1 < (ln : Int) := by omega
      have hkI0 : (k : Int) < (ln : Int) := by omega
      have hk0 : (0 : Int) ≤ (k : Int) := by omega
      have hk1 : (0 : Int) ≤ (k : Int) + 1 := by omega
      have w1 : IntKind.i64.wrap ((k : Int) + 1 - 1) = (k : Int) := by simp only [IntKind.wrap_i64]; omega
      have w2 : IntKind.i64.wrap ((k : Int) + 1 + 1) = (k : Int) + 1 + 1 := by simp only [IntKind.wrap_i64]; omega
      have hci : (((k + 1 : Nat)) : Int) = (k : Int) + 1 := by omega
      have hcn : ((k : Int) + 1).toNat = k + 1 := by omega
      rw [hci]
      clear hs ht hq hz0 hz1 h0 h1 hi hi1
      go_wp2_with fail
      refine wp_region_quiet_below (by kernel_rfl) (by kernel_rfl) ?_
      repeat (go_big_quiet_step ((first | exact C1.out _ _ | exact C2.out _ _ | exact C3.out _ _)))
      refine wpQuiet_nil ?_
      intro _ hw'
      obtain ⟨⟨dq, osq⟩, hw''⟩ := hw'
      subst hw''
      have HX := Lib.hid (bz_call HB.out (below_regrown wr dq osq))
      clear cG0 cG1 C1 C2 C3
      generalize Go.Sort.grow (redrawn wr dq) osq = wg at *
      by_cases hk : kl (kyO sd s) (kyO sd t) = true
      · have p1 : ¬ 0 ≤ q := by have := hcl.2 hk; omega
        have p2 : decide (0 ≤ q) = false := by simpa using p1
        have HQ2 : Hid (∀ j (h : j + 1 < (kys sd K).length), j + 1 < k + 1 + 1 → kl (kys sd K)[j] (kys sd K)[j + 1] = true) := Lib.hid (fun j h hj => by
          by_cases e : j = k
          · subst e; rw [HKl.out]; exact hk
          · exact HQ.out j h (by omega))
        clear hcl hk hcn
        go_wp2_with fail
        go_roundw
        case rel => exact ⟨k + 1 + 1, by omega, .inl (by omega), by go_num, HQ2, HX⟩
        case measure => simp [intOf] <;> omega
      · have p1 : 0 ≤ q := by have := mt hcl.1 hk; omega
        have p2 : decide (0 ≤ q) = true := by simpa using p1
        have HR2 : Hid (r = false) := Lib.hid (by
          cases hr : r with
          | false => rfl
          | true =>
            have := (HI.out.1 hr) k (by rw [kys_length]; exact hk2)
            rw [HKl.out] at this
            exact absurd this hk)
        clear hcl hk hcn
        go_wp2_with fail
        go_ret
        exact ⟨by rw [HR2.out]; rfl, HX.out⟩
    · have HR2 : Hid (r = true) := Lib.hid (HI.out.2 (fun j hj => HQ.out j hj (by rw [kys_length, ← HLn.out] at hj; omega)))
      have hnl : ¬ (i : Int) < (ln : Int) := by omega
      clear hi hi1 hlt
      go_wp2_with fail
      go_ret
      exact ⟨by rw [HR2.out]; rfl, HB.out⟩
end Go.Proofs.Ytajainkaomkbjaa
