/- The reference's number at an offset (written by wip/bin/gen_nm.py). -/
import Derived.Test.YtepcihfkkeahhaaRi
namespace Go.Proofs.Ytepcihfkkeahhaa
open Go.ChangeShapes Go.WideShapes Go.ChangeAt Go.RowKit En

theorem drop_at (s : ByteArray) (p : Nat) (h : p < s.size) : s.data.toList.drop p = s[p] :: s.data.toList.drop (p + 1) := by
  have := List.drop_eq_getElem_cons (l := s.data.toList) (i := p) (by simpa using h)
  exact this
theorem drop_len (s : ByteArray) (p : Nat) : (s.data.toList.drop p).length = s.size - p := by simp
theorem drop_nil (s : ByteArray) (p : Nat) (h : s.size ≤ p) : s.data.toList.drop p = [] := List.drop_eq_nil_of_le (by simpa using h)
/-- What the reference's number returns. -/
def numAt (s : ByteArray) (p : Nat) : Int × Int × Int :=
  if (scan (s.data.toList.drop p)).2.2 = 0 then ((scan (s.data.toList.drop p)).1, (p : Int) + (scan (s.data.toList.drop p)).2.1, 0) else (0, 0, (scan (s.data.toList.drop p)).2.2)
theorem numAt_err (s : ByteArray) (p : Nat) (e : Int) (h0 : e ≠ 0) (h : scan (s.data.toList.drop p) = (0, 0, e)) : numAt s p = (0, 0, e) := by
  unfold numAt; rw [h, if_neg h0]
theorem at_big (s : ByteArray) (p : Nat) (h : p < s.size) (h1 : 8 < szB s[p]) : numAt s p = (0, 0, 3) :=
  numAt_err s p 3 (by decide) (by rw [drop_at s p h, scan_cons, if_pos h1])
theorem at_short (s : ByteArray) (p : Nat) (h : p < s.size) (h1 : ¬ 8 < szB s[p]) (h2 : s.size - p - 1 < szB s[p]) : numAt s p = (0, 0, 4) :=
  numAt_err s p 4 (by decide) (by rw [drop_at s p h, scan_cons, if_neg h1, if_pos (by rw [drop_len]; omega)])
theorem at_mask (s : ByteArray) (p : Nat) (h : p + 1 < s.size) (h1 : ¬ 8 < szB s[p]) (h2 : ¬ s.size - p - 1 < szB s[p]) (h3 : 0 < szB s[p]) (h4 : s[p + 1] = maskB s[p]) : numAt s p = (0, 0, 3) :=
  numAt_err s p 3 (by decide) (by rw [drop_at s p (by omega), scan_cons, if_neg h1, if_neg (by rw [drop_len]; omega), if_pos ⟨h3, by rw [drop_at s (p + 1) h, List.head?_cons, h4]⟩])
theorem at_rest (s : ByteArray) (p : Nat) (h : p < s.size) (h1 : ¬ 8 < szB s[p]) (h2 : ¬ s.size - p - 1 < szB s[p]) (h3 : ¬ (0 < szB s[p] ∧ ∃ h : p + 1 < s.size, s[p + 1] = maskB s[p])) (r : Int × Int) (hr : sg (magL (maskB s[p]) ((s.data.toList.drop (p + 1)).take (szB s[p]))) (decide (s[p].toNat < 128)) = r) :
    numAt s p = if r.2 = 0 then (r.1, (p : Int) + (1 + (szB s[p] : Int)), 0) else (0, 0, r.2) := by
  have hh : ¬ (0 < szB s[p] ∧ (s.data.toList.drop (p + 1)).head? = some (maskB s[p])) := by
    rintro ⟨h4, h5⟩
    have h6 : p + 1 < s.size := by omega
    rw [drop_at s (p + 1) h6, List.head?_cons] at h5
    exact h3 ⟨h4, h6, by simpa using h5⟩
  have e : scan (s.data.toList.drop p) = if r.2 = 0 then (r.1, (1 : Int) + (szB s[p] : Int), 0) else (0, 0, r.2) := by
    rw [drop_at s p h, scan_cons, if_neg h1, if_neg (by rw [drop_len]; omega), if_neg hh, hr]
  unfold numAt
  rw [e]
  by_cases h0 : r.2 = 0
  · simp [h0]
  · simp [h0]
theorem comp_byte (b : UInt8) : (255 : Int) - (b.toNat : Int) = ((b ^^^ 255).toNat : Int) := by
  have e : (b ^^^ 255).toNat = 255 - b.toNat := by
    have h : ∀ n : Fin 256, n.val ^^^ 255 = 255 - n.val := by decide +kernel
    rw [UInt8.toNat_xor]
    exact h ⟨b.toNat, b.toNat_lt⟩
  have := b.toNat_lt
  omega
theorem zero_byte (b : UInt8) : (b ^^^ 0).toNat = b.toNat := by simp
theorem ret3 {n m e : Int} {n' m' e' : Int} (h : (n, m, e) = (n', m', e')) : Ending.returned (.tuple #[.int .i64 n, .int .i64 m, .int .i64 e]) = .returned (.tuple #[.int .i64 n', .int .i64 m', .int .i64 e']) := by
  simp only [Prod.mk.injEq] at h
  obtain ⟨rfl, rfl, rfl⟩ := h
  rfl

set_option maxRecDepth 100000 in
theorem num_out (s : ByteArray) (p : Nat) (er : Int) (_hs : s.size ≤ 1000000) (hp : p ≤ s.size) (h0 : ¬ p < s.size) (w : World) :
    Calls Try.prog 109 #[.agg #[.string s, .int .i64 (p : Int), .int .i64 er]] w fun e w' => e = .returned (.tuple #[.int .i64 (numAt s p).1, .int .i64 (numAt s p).2.1, .int .i64 (numAt s p).2.2]) ∧ Below w.heap.size w w' := by
  have e := numAt_err s p 4 (by decide) (by rw [drop_nil s p (by omega)]; rfl)
  rw [e]
  have hd : (s.size : Int) ≤ (p : Int) := by omega
  go_enter Try.func109, Try.ntmps109
  go_wp2_with fail
  go_ret3
  exact ⟨rfl, (Below.refl _ _).alloc (Nat.le_refl _) _⟩

set_option maxRecDepth 100000 in
set_option maxHeartbeats 2000000 in
theorem num_neg (s : ByteArray) (p : Nat) (er : Int) (hs : s.size ≤ 1000000) (hp : p < s.size) (hn : s[p].toNat < 128) (w : World) :
    Calls Try.prog 109 #[.agg #[.string s, .int .i64 (p : Int), .int .i64 er]] w fun e w' => e = .returned (.tuple #[.int .i64 (numAt s p).1, .int .i64 (numAt s p).2.1, .int .i64 (numAt s p).2.2]) ∧ Below w.heap.size w w' := by
  have hd : ¬ (s.size : Int) ≤ (p : Int) := by omega
  have ek : szB s[p] = 128 - s[p].toNat := by unfold szB; rw [if_pos hn]
  have em : maskB s[p] = 255 := by unfold maskB; rw [if_pos hn]
  have hc256 := s[p].toNat_lt
  by_cases h1 : 8 < szB s[p]
  · have e := at_big s p hp h1
    rw [e]
    have ht : (s[p].toNat : Int) < 120 := by omega
    skip
    go_enter Try.func109, Try.ntmps109
    go_wp2_with fail
    go_ret3
    exact ⟨rfl, (Below.refl _ _).alloc (Nat.le_refl _) _⟩
  · have ht : ¬ (s[p].toNat : Int) < 120 := by omega
    have ht2 : ¬ (136 : Int) < (s[p].toNat : Int) := by omega
    have ht3 : (s[p].toNat : Int) - 128 < 0 := by omega
    obtain ⟨k, hk⟩ : ∃ k, szB s[p] = k := ⟨_, rfl⟩
    have hk1 : (0 : Int) - ((s[p].toNat : Int) - 128) = (k : Int) := by omega
    have hk2 : wrap64 (0 - ((s[p].toNat : Int) - 128)) = (k : Int) := by unfold wrap64; omega
    have hk3 : -((s[p].toNat : Int) - 128) = (k : Int) := by omega
    have hk4 : wrap64 (-((s[p].toNat : Int) - 128)) = (k : Int) := by unfold wrap64; omega
    have hk5 : (128 : Int) - (s[p].toNat : Int) = (k : Int) := by omega
    have hk8 : k ≤ 8 := by omega
    have hq : wrap64 ((s.size : Int) - (p : Int)) = (s.size : Int) - (p : Int) := by unfold wrap64; omega
    have hq2 : wrap64 ((s.size : Int) - (p : Int) - 1) = (s.size : Int) - (p : Int) - 1 := by unfold wrap64; omega
    by_cases h2 : s.size - p - 1 < szB s[p]
    · have e := at_short s p hp h1 h2
      rw [e]
      have ht4 : (s.size : Int) - (p : Int) - 1 < (k : Int) := by omega
      clear hk
      go_enter Try.func109, Try.ntmps109
      go_wp2_with fail
      go_ret3
      exact ⟨rfl, (Below.refl _ _).alloc (Nat.le_refl _) _⟩
    · have ht4 : ¬ (s.size : Int) - (p : Int) - 1 < (k : Int) := by omega
      have hps : p + 1 + k ≤ s.size := by omega
      by_cases hE : 0 < k ∧ ∃ h : p + 1 < s.size, s[p + 1] = maskB s[p]
      · obtain ⟨hk0, hp1, h4⟩ := hE
        have e := at_mask s p hp1 h1 h2 (by omega) h4
        rw [e]
        rw [em] at h4
        have h5 : s[p + 1].toNat = 255 := by rw [h4]; rfl
        have hk0' : (0 : Int) < (k : Int) := by omega
        clear hk h4
        go_enter Try.func109, Try.ntmps109
        go_wp2_with fail
        try simp only [hk4]
        go_loopw [8, 9] (fun mg iv wr => Hid (Below w.heap.size w wr) ∧ wr.cell? ⟨w.heap.size, 0, none⟩ = some (.string s) ∧ wr.cell? ⟨w.heap.size, 1, none⟩ = some (.int .i64 (p : Int)) ∧ iv = .int .i64 0 ∧ mg = .int .u64 0) (fun _ iv _ => 0)
        case atStart => exact ⟨Lib.hid ((Below.refl _ _).alloc (Nat.le_refl _) _), cell_of_row _ w.heap.size 0 _ _ _ (Deep.blk_alloc_new w _), cell_of_row _ w.heap.size 1 _ _ _ (Deep.blk_alloc_new w _), rfl, rfl⟩
        case round =>
          obtain ⟨hB, c0, c1, rfl, rfl⟩ := hrel
          go_wp2_with fail
          go_ret3
          exact ⟨rfl, hB.out⟩
      · have e := at_rest s p hp h1 h2 (fun h => hE ⟨by omega, h.2⟩) _ rfl
        have hd2 : decide (s[p].toNat < 128) = true := by simpa using hn
        obtain ⟨L, hL⟩ : ∃ L, L = s.data.toList.drop (p + 1) := ⟨_, rfl⟩
        rw [hk, em, hd2, ← hL] at e
        obtain ⟨v, hv⟩ : ∃ v, v = sg (magL 255 (L.take k)) true := ⟨_, rfl⟩
        rw [← hv] at e
        obtain ⟨R, hR⟩ : ∃ R, R = numAt s p := ⟨_, rfl⟩
        rw [← hR] at e ⊢
        have HR := Lib.hid e
        have Hv := Lib.hid hv
        have hlen : L.length = s.size - (p + 1) := by rw [hL]; simp
        have hget : ∀ t, (h : p + 1 + t < s.size) → L.take (t + 1) = L.take t ++ [s[p + 1 + t]] := fun t h => by
          rw [List.take_add_one, hL, List.getElem?_drop, List.getElem?_eq_getElem (by simpa using h)]; rfl
        have Hget := Lib.hid hget
        have Hlen := Lib.hid hlen
        have hfirst : 0 < k → ∀ h : p + 1 + 0 < s.size, ¬ s[p + 1 + 0].toNat = 255 := fun hk0 h hh => hE ⟨hk0, by omega, by rw [em]; exact UInt8.toNat_inj.1 hh⟩
        have Hfirst := Lib.hid hfirst
        clear hk e hget hL hv hR hlen hfirst hE
        go_enter Try.func109, Try.ntmps109
        go_wp2_with fail
        try simp only [hk4]
        go_loopw [8, 9] (fun mg iv wr => Hid (Below w.heap.size w wr) ∧ Hid (wr.cell? ⟨w.heap.size, 0, none⟩ = some (.string s)) ∧ Hid (wr.cell? ⟨w.heap.size, 1, none⟩ = some (.int .i64 (p : Int))) ∧ ∃ t : Nat, t ≤ k ∧ iv = .int .i64 (t : Int) ∧ mg = .int .u64 (magL 255 (L.take t) : Int)) (fun _ iv _ => k - (intOf iv).toNat)
        case atStart => exact ⟨Lib.hid ((Below.refl _ _).alloc (Nat.le_refl _) _), Lib.hid (cell_of_row _ w.heap.size 0 _ _ _ (Deep.blk_alloc_new w _)), Lib.hid (cell_of_row _ w.heap.size 1 _ _ _ (Deep.blk_alloc_new w _)), 0, by omega, rfl, rfl⟩
        case round =>
          obtain ⟨hB, hc0, hc1, t, ht', rfl, rfl⟩ := hrel
          have c0 := hc0.out
          have c1 := hc1.out
          by_cases htk : t < k
          · have hti : (t : Int) < (k : Int) := by omega
            have hb : p + 1 + t < s.size := by omega
            have hM : magL 255 (L.take t) < 72057594037927936 := by
              have h := magL_lt 255 (L.take t)
              have h2 : 256 ^ (L.take t).length ≤ 256 ^ 7 := Nat.pow_le_pow_right (by omega) (by rw [List.length_take]; omega)
              omega
            have hcx := comp_byte s[p + 1 + t]
            have hcl := (s[p + 1 + t] ^^^ 255).toNat_lt
            have Hcx := Lib.hid hcx
            have Hs : Hid (((magL 255 (L.take t) * 256 + (s[p + 1 + t] ^^^ 255).toNat : Nat) : Int) = (magL 255 (L.take (t + 1)) : Int)) := Lib.hid (by rw [Hget.out t hb, magL_snoc])
            obtain ⟨M, hMM⟩ : ∃ M, M = magL 255 (L.take t) := ⟨_, rfl⟩
            rw [← hMM] at hM Hs
            obtain ⟨B, hBB⟩ : ∃ B, B = (s[p + 1 + t] ^^^ 255).toNat := ⟨_, rfl⟩
            rw [← hBB] at hcx hcl Hs
            have Hb := Lib.hid hBB
            have hcw : IntKind.u8.wrap ((255 : Int) - (s[p + 1 + t].toNat : Int)) = (B : Int) := by rw [hcx]; simp only [IntKind.wrap_u8]; omega
            have Hm := Lib.hid hMM
            clear hMM hBB hcx
            by_cases ht0 : t = 0
            · have hb0 : ((B : Int) == 0) = false := by
                have h := Hfirst.out (by omega) (by omega)
                subst ht0
                have h2 := Hb.out
                have h3 := Hcx.out
                have h4 := s[p + 1 + 0].toNat_lt
                simp only [beq_eq_false_iff_ne]
                omega
              have ht00 : ((t : Int) == 0) = true := by rw [ht0]; rfl
              have hs1 := Hs.out
              have hb1 := Hb.out
              have hcx1 := Hcx.out
              simp only [ht0, Nat.add_zero, Nat.zero_add] at hs1 hb1 hcx1
              have hcw1 : IntKind.u8.wrap ((255 : Int) - (s[p + 1].toNat : Int)) = (B : Int) := by rw [IntKind.wrap_u8]; have := s[p + 1].toNat_lt; omega
              have hcw2 : ((255 : Int) - (s[p + 1].toNat : Int)) % 256 = (B : Int) := by have := s[p + 1].toNat_lt; omega
              have Hs1 := Lib.hid hs1
              have Hb1 := Lib.hid hb1
              have Hcx1 := Lib.hid hcx1
              have Hcl := Lib.hid hcl
              have HM := Lib.hid hM
              clear hs1 hb1 hcx1
              rw [← Hm.out]
              go_wp2_with fail
              refine ⟨⟨hB, hc0, hc1, 1, by omega, rfl, ?_⟩, by simp [intOf]; omega⟩
              rw [← Hs1.out]
              have h1 := Hb1.out
              have h2 := Hcx1.out
              have h3 := s[p + 1].toNat_lt
              have h4 := Hcl.out
              have h5 := HM.out
              congr 1 <;> first | omega | (simp only [IntKind.wrap_u64]; omega)
            · have ht00 : ((t : Int) == 0) = false := by simp; omega
              rw [← Hm.out]
              go_wp2_with fail
              go_roundw
              case rel =>
                refine ⟨hB, hc0, hc1, t + 1, by omega, by go_num, ?_⟩
                rw [← Hs.out]
                have e1 : ((M * 256 + B : Nat) : Int) = (M : Int) * 256 + (B : Int) := by omega
                first | (rw [e1]; done) | (rw [e1]; congr 1 <;> first | omega | (simp only [IntKind.wrap_u64]; omega))
              case measure => simp [intOf]; omega
          · obtain rfl : t = k := by omega
            have hM : magL 255 (L.take t) < 18446744073709551616 := by
              have h := magL_lt 255 (L.take t)
              have h2 : 256 ^ (L.take t).length ≤ 256 ^ 8 := Nat.pow_le_pow_right (by omega) (by rw [List.length_take]; omega)
              omega
            have Hv2 := Hv
            obtain ⟨M, hMM⟩ : ∃ M, M = magL 255 (L.take t) := ⟨_, rfl⟩
            rw [← hMM] at hM Hv2
            rw [← hMM]
            have hkw : (p : Int) + 1 + (t : Int) = (p : Int) + (1 + (t : Int)) := by omega
            clear hMM Hv

            by_cases hm : M ≤ 9223372036854775808
            · have ev : v = (-(M : Int), 0) := by rw [Hv2.out]; unfold sg; rw [if_pos ⟨rfl, hm⟩]
              have HR1 : Hid (R = (-(M : Int), (p : Int) + (1 + (t : Int)), 0)) := Lib.hid (by rw [HR.out, ev]; simp)
              have hm' : ¬ (9223372036854775808 : Int) < (M : Int) := by omega
              clear ev
              go_wp2_with fail
              go_ret3
              refine ⟨ret3 ?_, hB.out⟩
              first | (rw [HR1.out]; done) | (rw [HR1.out]; simp only [Prod.mk.injEq, and_true]; all_goals (try refine ⟨?_, ?_⟩); all_goals first | rfl | omega | (simp only [IntKind.wrap_u64, wrap64]; omega))
            · have ev : v = (0, 3) := by rw [Hv2.out]; unfold sg; rw [if_neg (fun h => hm h.2), if_neg (fun h => nomatch h.1)]
              have HR1 : Hid (R = (0, 0, 3)) := Lib.hid (by rw [HR.out, ev]; simp)
              have hm' : (9223372036854775808 : Int) < (M : Int) := by omega
              clear ev
              go_wp2_with fail
              go_ret3
              exact ⟨by rw [HR1.out]; rfl, hB.out⟩

set_option maxRecDepth 100000 in
set_option maxHeartbeats 2000000 in
theorem num_pos (s : ByteArray) (p : Nat) (er : Int) (hs : s.size ≤ 1000000) (hp : p < s.size) (hn : ¬ s[p].toNat < 128) (w : World) :
    Calls Try.prog 109 #[.agg #[.string s, .int .i64 (p : Int), .int .i64 er]] w fun e w' => e = .returned (.tuple #[.int .i64 (numAt s p).1, .int .i64 (numAt s p).2.1, .int .i64 (numAt s p).2.2]) ∧ Below w.heap.size w w' := by
  have hd : ¬ (s.size : Int) ≤ (p : Int) := by omega
  have ek : szB s[p] = s[p].toNat - 128 := by unfold szB; rw [if_neg hn]
  have em : maskB s[p] = 0 := by unfold maskB; rw [if_neg hn]
  have hc256 := s[p].toNat_lt
  by_cases h1 : 8 < szB s[p]
  · have e := at_big s p hp h1
    rw [e]
    have ht : ¬ (s[p].toNat : Int) < 120 := by omega
    have ht2 : (136 : Int) < (s[p].toNat : Int) := by omega
    go_enter Try.func109, Try.ntmps109
    go_wp2_with fail
    go_ret3
    exact ⟨rfl, (Below.refl _ _).alloc (Nat.le_refl _) _⟩
  · have ht : ¬ (s[p].toNat : Int) < 120 := by omega
    have ht2 : ¬ (136 : Int) < (s[p].toNat : Int) := by omega
    have ht3 : ¬ (s[p].toNat : Int) - 128 < 0 := by omega
    obtain ⟨k, hk⟩ : ∃ k, szB s[p] = k := ⟨_, rfl⟩
    have hk1 : (s[p].toNat : Int) - 128 = (k : Int) := by omega
    skip
    skip
    skip
    skip
    have hk8 : k ≤ 8 := by omega
    have hq : wrap64 ((s.size : Int) - (p : Int)) = (s.size : Int) - (p : Int) := by unfold wrap64; omega
    have hq2 : wrap64 ((s.size : Int) - (p : Int) - 1) = (s.size : Int) - (p : Int) - 1 := by unfold wrap64; omega
    by_cases h2 : s.size - p - 1 < szB s[p]
    · have e := at_short s p hp h1 h2
      rw [e]
      have ht4 : (s.size : Int) - (p : Int) - 1 < (k : Int) := by omega
      clear hk
      go_enter Try.func109, Try.ntmps109
      go_wp2_with fail
      go_ret3
      exact ⟨rfl, (Below.refl _ _).alloc (Nat.le_refl _) _⟩
    · have ht4 : ¬ (s.size : Int) - (p : Int) - 1 < (k : Int) := by omega
      have hps : p + 1 + k ≤ s.size := by omega
      by_cases hE : 0 < k ∧ ∃ h : p + 1 < s.size, s[p + 1] = maskB s[p]
      · obtain ⟨hk0, hp1, h4⟩ := hE
        have e := at_mask s p hp1 h1 h2 (by omega) h4
        rw [e]
        rw [em] at h4
        have h5 : s[p + 1].toNat = 0 := by rw [h4]; rfl
        have hk0' : (0 : Int) < (k : Int) := by omega
        clear hk h4
        go_enter Try.func109, Try.ntmps109
        go_wp2_with fail
        try simp only [hk1]
        go_loopw [8, 9] (fun mg iv wr => Hid (Below w.heap.size w wr) ∧ wr.cell? ⟨w.heap.size, 0, none⟩ = some (.string s) ∧ wr.cell? ⟨w.heap.size, 1, none⟩ = some (.int .i64 (p : Int)) ∧ iv = .int .i64 0 ∧ mg = .int .u64 0) (fun _ iv _ => 0)
        case atStart => exact ⟨Lib.hid ((Below.refl _ _).alloc (Nat.le_refl _) _), cell_of_row _ w.heap.size 0 _ _ _ (Deep.blk_alloc_new w _), cell_of_row _ w.heap.size 1 _ _ _ (Deep.blk_alloc_new w _), rfl, rfl⟩
        case round =>
          obtain ⟨hB, c0, c1, rfl, rfl⟩ := hrel
          go_wp2_with fail
          go_ret3
          exact ⟨rfl, hB.out⟩
      · have e := at_rest s p hp h1 h2 (fun h => hE ⟨by omega, h.2⟩) _ rfl
        have hd2 : decide (s[p].toNat < 128) = false := by simpa using hn
        obtain ⟨L, hL⟩ : ∃ L, L = s.data.toList.drop (p + 1) := ⟨_, rfl⟩
        rw [hk, em, hd2, ← hL] at e
        obtain ⟨v, hv⟩ : ∃ v, v = sg (magL 0 (L.take k)) false := ⟨_, rfl⟩
        rw [← hv] at e
        obtain ⟨R, hR⟩ : ∃ R, R = numAt s p := ⟨_, rfl⟩
        rw [← hR] at e ⊢
        have HR := Lib.hid e
        have Hv := Lib.hid hv
        have hlen : L.length = s.size - (p + 1) := by rw [hL]; simp
        have hget : ∀ t, (h : p + 1 + t < s.size) → L.take (t + 1) = L.take t ++ [s[p + 1 + t]] := fun t h => by
          rw [List.take_add_one, hL, List.getElem?_drop, List.getElem?_eq_getElem (by simpa using h)]; rfl
        have Hget := Lib.hid hget
        have Hlen := Lib.hid hlen
        have hfirst : 0 < k → ∀ h : p + 1 + 0 < s.size, ¬ s[p + 1 + 0].toNat = 0 := fun hk0 h hh => hE ⟨hk0, by omega, by rw [em]; exact UInt8.toNat_inj.1 hh⟩
        have Hfirst := Lib.hid hfirst
        clear hk e hget hL hv hR hlen hfirst hE
        go_enter Try.func109, Try.ntmps109
        go_wp2_with fail
        try simp only [hk1]
        go_loopw [8, 9] (fun mg iv wr => Hid (Below w.heap.size w wr) ∧ Hid (wr.cell? ⟨w.heap.size, 0, none⟩ = some (.string s)) ∧ Hid (wr.cell? ⟨w.heap.size, 1, none⟩ = some (.int .i64 (p : Int))) ∧ ∃ t : Nat, t ≤ k ∧ iv = .int .i64 (t : Int) ∧ mg = .int .u64 (magL 0 (L.take t) : Int)) (fun _ iv _ => k - (intOf iv).toNat)
        case atStart => exact ⟨Lib.hid ((Below.refl _ _).alloc (Nat.le_refl _) _), Lib.hid (cell_of_row _ w.heap.size 0 _ _ _ (Deep.blk_alloc_new w _)), Lib.hid (cell_of_row _ w.heap.size 1 _ _ _ (Deep.blk_alloc_new w _)), 0, by omega, rfl, rfl⟩
        case round =>
          obtain ⟨hB, hc0, hc1, t, ht', rfl, rfl⟩ := hrel
          have c0 := hc0.out
          have c1 := hc1.out
          by_cases htk : t < k
          · have hti : (t : Int) < (k : Int) := by omega
            have hb : p + 1 + t < s.size := by omega
            have hM : magL 0 (L.take t) < 72057594037927936 := by
              have h := magL_lt 0 (L.take t)
              have h2 : 256 ^ (L.take t).length ≤ 256 ^ 7 := Nat.pow_le_pow_right (by omega) (by rw [List.length_take]; omega)
              omega
            have hcx := zero_byte s[p + 1 + t]
            have hcl := (s[p + 1 + t] ^^^ 0).toNat_lt
            have Hcx := Lib.hid hcx
            have Hs : Hid (((magL 0 (L.take t) * 256 + (s[p + 1 + t] ^^^ 0).toNat : Nat) : Int) = (magL 0 (L.take (t + 1)) : Int)) := Lib.hid (by rw [Hget.out t hb, magL_snoc])
            obtain ⟨M, hMM⟩ : ∃ M, M = magL 0 (L.take t) := ⟨_, rfl⟩
            rw [← hMM] at hM Hs
            obtain ⟨B, hBB⟩ : ∃ B, B = s[p + 1 + t].toNat := ⟨_, rfl⟩
            rw [zero_byte, ← hBB] at hcl Hs
            have Hb := Lib.hid hBB
            have hcw : (s[p + 1 + t].toNat : Int) = (B : Int) := by rw [hBB]
            have Hm := Lib.hid hMM
            clear hMM hBB hcx
            by_cases ht0 : t = 0
            · have hb0 : ((B : Int) == 0) = false := by
                have h := Hfirst.out (by omega) (by omega)
                subst ht0
                have h2 := Hb.out
                have h3 := Hcx.out
                have h4 := s[p + 1 + 0].toNat_lt
                simp only [beq_eq_false_iff_ne]
                omega
              have ht00 : ((t : Int) == 0) = true := by rw [ht0]; rfl
              have hs1 := Hs.out
              have hb1 := Hb.out
              have hcx1 := Hcx.out
              simp only [ht0, Nat.add_zero, Nat.zero_add] at hs1 hb1 hcx1
              have hcw1 : (s[p + 1].toNat : Int) = (B : Int) := by omega
              skip
              have Hs1 := Lib.hid hs1
              have Hb1 := Lib.hid hb1
              have Hcx1 := Lib.hid hcx1
              have Hcl := Lib.hid hcl
              have HM := Lib.hid hM
              clear hs1 hb1 hcx1
              rw [← Hm.out]
              go_wp2_with fail
              refine ⟨⟨hB, hc0, hc1, 1, by omega, rfl, ?_⟩, by simp [intOf]; omega⟩
              rw [← Hs1.out]
              have h1 := Hb1.out
              have h2 := Hcx1.out
              have h3 := s[p + 1].toNat_lt
              have h4 := Hcl.out
              have h5 := HM.out
              congr 1 <;> first | omega | (simp only [IntKind.wrap_u64]; omega)
            · have ht00 : ((t : Int) == 0) = false := by simp; omega
              rw [← Hm.out]
              go_wp2_with fail
              go_roundw
              case rel =>
                refine ⟨hB, hc0, hc1, t + 1, by omega, by go_num, ?_⟩
                rw [← Hs.out]
                have e1 : ((M * 256 + B : Nat) : Int) = (M : Int) * 256 + (B : Int) := by omega
                first | (rw [e1]; done) | (rw [e1]; congr 1 <;> first | omega | (simp only [IntKind.wrap_u64]; omega))
              case measure => simp [intOf]; omega
          · obtain rfl : t = k := by omega
            have hM : magL 0 (L.take t) < 18446744073709551616 := by
              have h := magL_lt 0 (L.take t)
              have h2 : 256 ^ (L.take t).length ≤ 256 ^ 8 := Nat.pow_le_pow_right (by omega) (by rw [List.length_take]; omega)
              omega
            have Hv2 := Hv
            obtain ⟨M, hMM⟩ : ∃ M, M = magL 0 (L.take t) := ⟨_, rfl⟩
            rw [← hMM] at hM Hv2
            rw [← hMM]
            have hkw : (p : Int) + 1 + (t : Int) = (p : Int) + (1 + (t : Int)) := by omega
            clear hMM Hv

            by_cases hm : M ≤ 9223372036854775807
            · have ev : v = ((M : Int), 0) := by rw [Hv2.out]; unfold sg; rw [if_neg (fun h => nomatch h.1), if_pos ⟨rfl, hm⟩]
              have HR1 : Hid (R = ((M : Int), (p : Int) + (1 + (t : Int)), 0)) := Lib.hid (by rw [HR.out, ev]; simp)
              have hm' : ¬ (9223372036854775807 : Int) < (M : Int) := by omega
              clear ev
              go_wp2_with fail
              go_ret3
              refine ⟨ret3 ?_, hB.out⟩
              first | (rw [HR1.out]; done) | (rw [HR1.out]; simp only [Prod.mk.injEq, and_true]; all_goals (try refine ⟨?_, ?_⟩); all_goals first | rfl | omega | (simp only [IntKind.wrap_u64, wrap64]; omega))
            · have ev : v = (0, 3) := by rw [Hv2.out]; unfold sg; rw [if_neg (fun h => nomatch h.1), if_neg (fun h => hm h.2)]
              have HR1 : Hid (R = (0, 0, 3)) := Lib.hid (by rw [HR.out, ev]; simp)
              have hm' : (9223372036854775807 : Int) < (M : Int) := by omega
              clear ev
              go_wp2_with fail
              go_ret3
              exact ⟨by rw [HR1.out]; rfl, hB.out⟩

end Go.Proofs.Ytepcihfkkeahhaa
