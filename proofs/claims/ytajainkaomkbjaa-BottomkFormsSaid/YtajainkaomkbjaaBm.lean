/- The reference: before. -/
import Derived.Test.YtajainkaomkbjaaBl
namespace Go.Proofs.Ytajainkaomkbjaa
open Go.ChangeShapes Go.WideShapes Go.ChangeAt Go.RowKit Go.Joins Bt

set_option maxRecDepth 100000 in
set_option maxHeartbeats 1000000 in
theorem before_any (x y : Int) (s t : ByteArray) (w : World) :
    Calls Try.prog 66 #[.agg #[.int .i64 x, .string s], .agg #[.int .i64 y, .string t]] w fun e w' => e = .returned (.bool (kl (x, s) (y, t))) ∧ Below w.heap.size w w' := by
  have HB : Hid (Below w.heap.size w ((w.alloc (.cells #[.int .i64 x, .string s] 50)).alloc (.cells #[.int .i64 y, .string t] 50))) := Lib.hid (((Below.refl _ _).alloc (Nat.le_refl _) _).alloc (by simp) _)
  have HV : Hid (kl (x, s) (y, t) = (decide (x < y) || (decide (x = y) && bl s t))) := Lib.hid rfl
  obtain ⟨r, hr⟩ : ∃ r, r = kl (x, s) (y, t) := ⟨_, rfl⟩
  rw [← hr] at HV ⊢
  clear hr
  by_cases h1 : x < y
  · have d1 : decide (x < y) = true := by simpa using h1
    have HR : Hid (r = true) := Lib.hid (by rw [HV.out, d1]; rfl)
    go_enter Try.func66, Try.ntmps66
    go_wp2_with fail
    go_ret
    exact ⟨by rw [HR.out]; rfl, HB.out⟩
  have d1 : decide (x < y) = false := by simpa using h1
  by_cases h2 : x = y
  · subst h2
    cases hb : bl s t with
    | true =>
      have hd : Op.bytesLess s.toList t.toList = true := hb
      have HR : Hid (r = true) := Lib.hid (by rw [HV.out, hb]; simp)
      clear hb
      go_enter Try.func66, Try.ntmps66
      go_wp2_with fail
      go_ret
      exact ⟨by rw [HR.out]; rfl, HB.out⟩
    | false =>
      have hd : Op.bytesLess s.toList t.toList = false := hb
      have HR : Hid (r = false) := Lib.hid (by rw [HV.out, hb]; simp)
      clear hb
      go_enter Try.func66, Try.ntmps66
      go_wp2_with fail
      go_ret
      exact ⟨by rw [HR.out]; rfl, HB.out⟩
  · have d2 : (x == y) = false := by simpa using h2
    have HR : Hid (r = false) := Lib.hid (by rw [HV.out, d1, decide_eq_false h2]; rfl)
    clear h2
    go_enter Try.func66, Try.ntmps66
    go_wp2_with fail
    go_ret
    exact ⟨by rw [HR.out]; rfl, HB.out⟩
/-- The state of the reference, as a value: the keys of a set. -/
def StV (w : World) (n sd : Int) (S : List Ky) (u : Value) : Prop := ∃ v, u = .agg #[.int .i64 n, .int .i64 sd, v] ∧ SlV w v S
theorem StV.below {w w' : World} {n sd : Int} {S : List Ky} {u : Value} (h : StV w n sd S u) (hb : Below w.heap.size w w') : StV w' n sd S u := by
  obtain ⟨v, e, h⟩ := h
  exact ⟨v, e, h.below hb⟩
set_option maxRecDepth 100000 in
theorem kept_any (n : Nat) (sd : Int) (S : List Ky) (_hS : S.length ≤ 1000000) (u : Value) (w : World) (h : StV w n sd S u) :
    Calls Try.prog 26 #[u] w fun e w' => (∃ v, e = .returned v ∧ SlV w' v (S.take n)) ∧ Below w.heap.size w w' := by
  obtain ⟨v, rfl, ⟨A, c, rfl, hlc, hnl, hR⟩⟩ := h
  have HT : Hid (∀ m, m = min S.length n → SlV w (.slice A m c) (S.take n)) := Lib.hid (fun m e => ⟨A, c, by rw [List.length_take, e, Nat.min_comm], by rw [List.length_take]; omega, hnl, hR.take n⟩)
  obtain ⟨l, hl⟩ : ∃ l, l = S.length := ⟨_, rfl⟩
  rw [← hl] at HT hlc ⊢
  clear hR hnl hl
  have HB : Hid (∀ v, Below w.heap.size w (w.alloc (.cells v 28))) := Lib.hid (fun v => (Below.refl _ _).alloc (Nat.le_refl _) _)
  obtain ⟨m, hm⟩ : ∃ m, m = min l n := ⟨_, rfl⟩
  have HT := HT.out m hm
  have HTT := Lib.hid HT
  have hmI : min (l : Int) (n : Int) = (m : Int) := by omega
  have hmc : (m : Int) ≤ (c : Int) := by omega
  have hm0 : (0 : Int) ≤ (m : Int) := by omega
  clear HT hm
  go_enter Try.func26, Try.ntmps26
  go_wp2_with fail
  go_ret
  exact ⟨⟨_, rfl, HTT.out.below (HB.out _)⟩, HB.out _⟩
set_option maxRecDepth 100000 in
theorem rexact_any (n : Nat) (sd : Int) (S : List Ky) (_hS : S.length ≤ 1000000) (u : Value) (w : World) (h : StV w n sd S u) :
    Calls Try.prog 27 #[u] w fun e w' => e = .returned (.bool (!decide (n < S.length))) ∧ Below w.heap.size w w' := by
  obtain ⟨v, rfl, ⟨A, c, rfl, hlc, hnl, hR⟩⟩ := h
  obtain ⟨l, hl⟩ : ∃ l, l = S.length := ⟨_, rfl⟩
  rw [← hl] at hlc ⊢
  clear hR hnl hl
  by_cases h : n < l
  · have d1 : decide ((l : Int) ≤ (n : Int)) = false := by simp; omega
    have d2 : decide (n < l) = true := by simpa using h
    rw [d2]
    clear d2
    go_enter Try.func27, Try.ntmps27
    go_wp2_with fail
    go_ret
    exact ⟨by first | rfl | (simp; omega), (Below.refl _ _).alloc (Nat.le_refl _) _⟩
  · have d1 : decide ((l : Int) ≤ (n : Int)) = true := by simp; omega
    have d2 : decide (n < l) = false := by simpa using h
    rw [d2]
    clear d2
    go_enter Try.func27, Try.ntmps27
    go_wp2_with fail
    go_ret
    exact ⟨by first | rfl | (simp; omega), (Below.refl _ _).alloc (Nat.le_refl _) _⟩
end Go.Proofs.Ytajainkaomkbjaa
