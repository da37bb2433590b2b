/- The law's least. -/
import Derived.Test.YtnpjakgdfjaglaaHn
namespace Go.Proofs.Ytnpjakgdfjaglaa
open Go.ChangeShapes Go.WideShapes Go.ChangeAt Go.RowKit Go.Joins

set_option maxRecDepth 100000 in
set_option maxHeartbeats 8000000 in
theorem lleast_any (v : Value) (L : List Ct) (hl : L.length ≤ 1000) (n : Int) (w : World) (hv : SlV w v L) :
    Calls Try.prog 33 #[v, .int .i64 n] w fun e w' => (∃ u, e = .returned u ∧ SlV w' u (lsW (topL L) n)) ∧ Below w.heap.size w w' := by
  have HV := Lib.hid hv
  have HL := Lib.hid hl
  have hdl : (topL L).length ≤ 1000 := by rw [top_len]; exact hl
  obtain ⟨D, hD⟩ : ∃ D, D = topL L := ⟨_, rfl⟩
  have HD := Lib.hid hD
  rw [← hD] at hdl ⊢
  have hdl2 : L.length = D.length := by rw [hD, top_len]
  obtain ⟨ln, hln⟩ : ∃ ln, ln = D.length := ⟨_, rfl⟩
  have HLn := Lib.hid hln
  have HL2 : Hid (L.length = ln) := Lib.hid (hdl2.trans hln.symm)
  have hln2 : ln ≤ 1000 := by omega
  clear hv hl hD hdl hdl2 hln
  go_enter Try.func33, Try.ntmps33
  go_wp2_with (go_at_call 35; (refine (top_any v L HL.out w HV.out).mono ?_); rintro e w1 ⟨⟨vr, rfl, hO⟩, hB⟩; rw [← HD.out] at hO; have HO := Lib.hid hO; have HB := Lib.hid hB; clear hO hB)
  obtain ⟨A, c, rfl, hjc, hR⟩ : ∃ A c, vr = .slice A ln c ∧ ln ≤ c ∧ CR w1 A D := by
    obtain ⟨A', c', e, q1, _, q3⟩ := SlV.own HO.out
    rw [← HLn.out] at e q1
    exact ⟨A', c', e, q1, q3⟩
  have HR := Lib.hid hR
  have HSl : Hid (∀ k W, k ≤ ln → (∃ g, A = some g) → CR W A D → SlV W (.slice A k c) (D.take k)) := Lib.hid (fun k W hk hA hC => by
    have e : (D.take k).length = k := by rw [List.length_take, ← HLn.out]; omega
    obtain ⟨g, hg⟩ := hA
    refine ⟨A, c, by rw [e], by rw [e]; omega, (fun h => by rw [hg] at h; cases h), hC.take k⟩)
  clear hR
  go_wp2_with fail
  go_loopw [6] (fun iv wr => ∃ k : Nat, k ≤ ln ∧ iv = .int .i64 (k : Int) ∧ Hid (∀ i (hi : i < D.length), i < k → n ≤ D[i].2) ∧ Hid (Below w1.heap.size w1 wr)) (fun iv _ => ln - (intOf iv).toNat)
  case atStart => exact ⟨0, Nat.zero_le _, rfl, Lib.hid (fun i _ h => absurd h (by omega)), Lib.hid (Below.refl _ _)⟩
  case round =>
    obtain ⟨k, hk, rfl, HN, HBq⟩ := hrel
    have hk0 : (0 : Int) ≤ (k : Int) := by omega
    by_cases hkj : k < ln
    · have hkD : k < D.length := by rw [← HLn.out]; exact hkj
      obtain ⟨g, og, rfl, hg, f0, f1⟩ := (HR.out.below HBq.out).at k hkD
      have HNx : Hid (n ≤ D[k].2 → ∀ i (hi : i < D.length), i < k + 1 → n ≤ D[i].2) := Lib.hid (fun hne i hi h => by
        by_cases e : i = k
        · subst e; exact hne
        · exact HN.out i hi (by omega))
      have HFx : Hid (D[k].2 < n → lsW D n = D.take k) := Lib.hid (fun h => ls_take n k (by omega) HN.out (fun _ => h))
      obtain ⟨x, hx⟩ : ∃ x, x = D[k] := ⟨_, rfl⟩
      rw [← hx] at f0 f1 HNx HFx
      clear hx hkD f0
      obtain ⟨s, m⟩ := x
      dsimp only at f1 HNx HFx
      have hkI : (k : Int) < (ln : Int) := by omega
      have hkc : k ≤ c := by omega
      have hwk : IntKind.i64.wrap ((k : Int) + 1) = (k : Int) + 1 := by simp only [IntKind.wrap_i64]; omega
      by_cases e1 : m < n
      · have d1 : decide (m < n) = true := by simpa using e1
        have HF := Lib.hid (HFx.out e1)
        clear e1
        go_wp2_with fail
        go_ret
        refine ⟨⟨_, rfl, ?_⟩, ?_⟩
        · rw [HF.out]
          exact HSl.out k _ hk ⟨_, rfl⟩ (HR.out.below HBq.out)
        · exact HB.out.trans (HBq.out.mono HB.out.size)
      · have d1 : decide (m < n) = false := by simpa using e1
        have HN2 := Lib.hid (HNx.out (by omega))
        clear e1
        go_wp2_with fail
        go_roundw
        case rel => exact ⟨k + 1, by omega, by go_num, HN2, Lib.hid HBq.out⟩
        case measure => simp [intOf] <;> omega
    · obtain rfl : k = ln := by omega
      have hkI : ¬ (k : Int) < (k : Int) := by omega
      have HF : Hid (lsW D n = D) := Lib.hid (by
        rw [ls_take n k (by rw [← HLn.out]; omega) HN.out (fun h => absurd h (by rw [← HLn.out]; omega))]
        exact List.take_of_length_le (by rw [← HLn.out]; omega))
      go_wp2_with fail
      go_ret
      refine ⟨⟨_, rfl, ?_⟩, ?_⟩
      · rw [HF.out]
        have h := SlV.own HO.out
        obtain ⟨A', c', e, q1, q2, q3⟩ := h
        exact ⟨A', c', e, q1, q2, q3.below HBq.out⟩
      · exact HB.out.trans (HBq.out.mono HB.out.size)
end Go.Proofs.Ytnpjakgdfjaglaa
