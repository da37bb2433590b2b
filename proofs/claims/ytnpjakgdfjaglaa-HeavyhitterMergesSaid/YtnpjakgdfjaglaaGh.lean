/- countsOf, least. -/
import Derived.Test.YtnpjakgdfjaglaaGg
namespace Go.Proofs.Ytnpjakgdfjaglaa
open Go.ChangeShapes Go.WideShapes Go.ChangeAt Go.RowKit Go.Joins

theorem below_turn {B b : Nat} {a w w' : World} (h : Below B a w) (hg : w.grownBy w' (some b)) (hb : B ≤ b) (hs : B ≤ a.heap.size) : Below B a w' :=
  ⟨hg.os.trans h.os, hg.tape.trans h.tape, hg.output.trans h.output, Nat.le_trans h.size hg.size, fun i hi => (hg.block i (by have := h.size; omega) (fun e => by injection e with e; omega)).trans (h.block i hi)⟩
/-- Counters of which counts can be made: no count below 0, together at most 2^60; the keys are short. -/
def Fit22 (l : List Ct) : Prop := Nn l ∧ sm l ≤ 1152921504606846976 ∧ (∀ p ∈ l, p.1.size ≤ 1000) ∧ l.length ≤ 1000000
theorem gt_bd {l : List Ct} (h : Fit22 l) (j : Nat) (k : ByteArray) : 0 ≤ gt (coC (l.take j)) k ∧ gt (coC (l.take j)) k ≤ 1152921504606846976 := by
  obtain ⟨h1, h2, _⟩ := h
  obtain ⟨h3, h4⟩ := gt_sm (nn_coC (nn_take h1 j)) k
  rw [sm_coC] at h4
  have := sm_take h1 j
  exact ⟨h3, by omega⟩
theorem ct_bd {l : List Ct} (h : Fit22 l) {j : Nat} (hj : j < l.length) : 0 ≤ l[j].2 ∧ l[j].2 ≤ 1152921504606846976 ∧ l[j].1.size ≤ 1000 := by
  obtain ⟨h1, h2, h3, _⟩ := h
  have hm : l[j] ∈ l := List.getElem_mem hj
  have := mem_sm h1 hm
  exact ⟨h1 _ hm, by omega, h3 _ hm⟩
set_option maxRecDepth 100000 in
set_option maxHeartbeats 1000000 in
theorem countsOf_any (A : Option Addr) (c : Nat) (l : List Ct) (hF : Fit22 l) (w : World) (hR : CR w A l) :
    Calls Try.prog 39 #[.slice A l.length c] w fun e w' => e = .returned (.map (some w.heap.size)) ∧ Hm w' w.heap.size (coC l) ∧ Below w.heap.size w w' := by
  have HR := Lib.hid hR
  have HF := Lib.hid hF
  have hln := hF.2.2.2
  have HT : Hid (∀ j (h : j < l.length), coC (l.take (j + 1)) = adC (coC (l.take j)) l[j].1 l[j].2) := Lib.hid (fun j h => coC_take l h)
  have HG := Lib.hid (fun j k => gt_bd hF j k)
  have HC : Hid (∀ j (h : j < l.length), 0 ≤ l[j].2 ∧ l[j].2 ≤ 1152921504606846976 ∧ l[j].1.size ≤ 1000) := Lib.hid (fun j h => ct_bd hF h)
  have HL : Hid (∀ j, (coC (l.take j)).length ≤ 1000000) := Lib.hid (fun j => Nat.le_trans (len_coC _) (by rw [List.length_take]; omega))
  clear hR hF
  have HM0 : Hid (Hm (w.alloc (.map #[] 0)) w.heap.size (coC (l.take 0))) := Lib.hid (by rw [List.take_zero]; exact Hm.made w)
  have HB0 : Hid (Below w.heap.size w (w.alloc (.map #[] 0))) := Lib.hid ((Below.refl _ _).alloc (Nat.le_refl _) _)
  go_enter Try.func39, Try.ntmps39
  have hmm := @run_makeMap Try.prog
  go_wp2_with fail
  clear hmm
  go_loopw [9] (fun iv wr => ∃ j : Nat, j ≤ l.length ∧ iv = .int .i64 (j : Int) ∧ Hid (Hm wr w.heap.size (coC (l.take j))) ∧ Hid (Below w.heap.size w wr)) (fun iv _ => l.length - (intOf iv).toNat)
  case atStart => exact ⟨0, Nat.zero_le _, rfl, HM0, HB0⟩
  case round =>
    obtain ⟨j, hj, rfl, HM, HB⟩ := hrel
    by_cases hlt : j < l.length
    · obtain ⟨b, off, rfl, hb, h0, h1⟩ := (HR.out.below HB.out).at j hlt
      obtain ⟨v0, v1, k0⟩ := HC.out j hlt
      have hTj := HT.out j hlt
      obtain ⟨x, hx⟩ : ∃ x, x = l[j] := ⟨_, rfl⟩
      rw [← hx] at h0 h1 v0 v1 k0 hTj
      clear hx
      obtain ⟨k, v⟩ := x
      dsimp only at h0 h1 v0 v1 k0 hTj
      obtain ⟨g0, g1⟩ := HG.out j k
      have hMl := HL.out j
      obtain ⟨M, hM⟩ : ∃ M, M = coC (l.take j) := ⟨_, rfl⟩
      rw [← hM] at HM g0 g1 hTj hMl
      have HT2 := Lib.hid hTj
      clear hM hTj
      have hjI : (j : Int) < (l.length : Int) := by omega
      have hj0 : (0 : Int) ≤ (j : Int) := by omega
      have hw1 : IntKind.i64.wrap ((j : Int) + 1) = (j : Int) + 1 := by simp only [IntKind.wrap_i64]; omega
      have hw2 : IntKind.i64.wrap (gt M k + v) = gt M k + v := by simp only [IntKind.wrap_i64]; omega
      have HMa : Hid (Hm (wr.alloc (.cells #[.string k, .int .i64 v] 27)) w.heap.size M) := Lib.hid (HM.out.below ((Below.refl _ _).alloc (Nat.le_refl _) _))
      have HBa : Hid (Below w.heap.size w (wr.alloc (.cells #[.string k, .int .i64 v] 27))) := Lib.hid (HB.out.alloc HB.out.size _)
      go_wp2_with (first
        | (at_lookup; refine wpList_get rfl _ _ rfl w.heap.size M rfl HMa.out k (by omega) rfl ?_)
        | (at_mapUpdate; refine wpList_set rfl _ _ _ rfl w.heap.size M rfl HMa.out hMl k (by omega) rfl (gt M k + v) (by omega) (by first | rfl | go_num) ?_; intro w2 hm2 hg2; have HM2 := Lib.hid hm2; have HB2 := Lib.hid (below_turn HBa.out hg2 (Nat.le_refl _) (Nat.le_refl _)); clear hm2 hg2))
      go_roundw
      case rel => exact ⟨j + 1, by omega, by go_num, by rw [HT2.out]; exact HM2, HB2⟩
      case measure => simp [intOf] <;> omega
    · obtain rfl : j = l.length := by omega
      have HMe : Hid (Hm wr w.heap.size (coC l)) := Lib.hid (by have := HM.out; rwa [List.take_length] at this)
      go_wp2_with fail
      go_ret
      exact ⟨rfl, HMe.out, HB.out⟩
end Go.Proofs.Ytnpjakgdfjaglaa
