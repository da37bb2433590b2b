/- The law's count. -/
import Derived.Test.YtnpjakgdfjaglaaGw
namespace Go.Proofs.Ytnpjakgdfjaglaa
open Go.ChangeShapes Go.WideShapes Go.ChangeAt Go.RowKit Go.Joins

theorem gt_skip {L : List Ct} {k : ByteArray} (j : Nat) (h : ∀ i (hi : i < L.length), i < j → L[i].1 ≠ k) : gt L k = gt (L.drop j) k := by
  induction j generalizing L with
  | zero => rfl
  | succ j ih =>
    cases L with
    | nil => rfl
    | cons p L =>
      have h0 : p.1 ≠ k := h 0 (by simp) (by omega)
      rw [gt, if_neg h0, List.drop_succ_cons]
      exact ih fun i hi hj => h (i + 1) (by simpa using hi) (by omega)
theorem gt_first {L : List Ct} {k : ByteArray} (j : Nat) (hj : j < L.length) (h : ∀ i (hi : i < L.length), i < j → L[i].1 ≠ k) (e : L[j].1 = k) : gt L k = L[j].2 := by
  rw [gt_skip j h, List.drop_eq_getElem_cons hj, gt, if_pos e]
theorem gt_past {L : List Ct} {k : ByteArray} (h : ∀ i (hi : i < L.length), L[i].1 ≠ k) : gt L k = 0 := by
  rw [gt_skip L.length (fun i hi _ => h i hi), List.drop_length]; rfl
set_option maxRecDepth 100000 in
set_option maxHeartbeats 2000000 in
theorem count_any (v : Value) (L : List Ct) (k : ByteArray) (hl : L.length ≤ 1000000) (w : World) (hv : SlV w v L) :
    Calls Try.prog 29 #[v, .string k] w fun e w' => e = .returned (.int .i64 (gt L k)) ∧ Below w.heap.size w w' := by
  obtain ⟨A, c, rfl, _, _, hR⟩ := hv
  have HR := Lib.hid hR
  have HF : Hid (∀ j (hj : j < L.length), (∀ i (hi : i < L.length), i < j → L[i].1 ≠ k) → L[j].1 = k → gt L k = L[j].2) := Lib.hid (fun j hj h e => gt_first j hj h e)
  have HP : Hid ((∀ i (hi : i < L.length), L[i].1 ≠ k) → gt L k = 0) := Lib.hid gt_past
  obtain ⟨z, hz⟩ : ∃ z, z = gt L k := ⟨_, rfl⟩
  rw [← hz] at HF HP ⊢
  clear hR hz
  go_enter Try.func29, Try.ntmps29
  go_wp2_with fail
  go_loopw [5] (fun iv wr => ∃ j : Nat, j ≤ L.length ∧ iv = .int .i64 (j : Int) ∧ Hid (∀ i (hi : i < L.length), i < j → L[i].1 ≠ k) ∧ Hid (Below w.heap.size w wr)) (fun iv _ => L.length - (intOf iv).toNat)
  case atStart => exact ⟨0, Nat.zero_le _, rfl, Lib.hid (fun i _ h => absurd h (by omega)), Lib.hid (Below.refl _ _)⟩
  case round =>
    obtain ⟨j, hj, rfl, HN, HB⟩ := hrel
    by_cases hlt : j < L.length
    · obtain ⟨b, off, rfl, hb, h0, h1⟩ := (HR.out.below HB.out).at j hlt
      have hF := HF.out j hlt HN.out
      have HNx : Hid (∀ x, x = L[j] → x.1 ≠ k → ∀ i (hi : i < L.length), i < j + 1 → L[i].1 ≠ k) := Lib.hid (fun x hx hne i hi h => by
        by_cases e : i = j
        · subst e; rw [← hx]; exact hne
        · exact HN.out i hi (by omega))
      obtain ⟨x, hx⟩ : ∃ x, x = L[j] := ⟨_, rfl⟩
      have HX := Lib.hid hx
      rw [← hx] at h0 h1 hF
      clear hx
      obtain ⟨t, m⟩ := x
      dsimp only at h0 h1 hF
      have HFx := Lib.hid hF
      clear hF
      have hjI : (j : Int) < (L.length : Int) := by omega
      have hj0 : (0 : Int) ≤ (j : Int) := by omega
      have hw1 : IntKind.i64.wrap ((j : Int) + 1) = (j : Int) + 1 := by simp only [IntKind.wrap_i64]; omega
      by_cases e : t = k
      · subst e
        have hz := HFx.out rfl
        subst hz
        go_wp2_with fail
        go_ret
        exact ⟨rfl, HB.out⟩
      · have he : (t.toList == k.toList) = false := (Lib.bytes_beq_false_iff t k).2 e
        have HN2 := Lib.hid (HNx.out _ HX.out e)
        clear e
        go_wp2_with fail
        go_roundw
        case rel => exact ⟨j + 1, by omega, by go_num, HN2, HB⟩
        case measure => simp [intOf] <;> omega
    · have hz := HP.out (fun i hi => HN.out i hi (by omega))
      subst hz
      go_wp2_with fail
      go_ret
      exact ⟨rfl, HB.out⟩
end Go.Proofs.Ytnpjakgdfjaglaa
