/- EncodingOrder: the call. -/
import Derived.Test.YtepcihfkkeahhaaKn
import Derived.Test.YtepcihfkkeahhaaOp
namespace Go.Proofs.Ytepcihfkkeahhaa
open Go.ChangeShapes Go.WideShapes Go.ChangeAt Go.RowKit En

theorem Parts.kept2 {w w' : World} {r : Nat} {cr : Array Value} {v : Value} {fs : List (List UInt8)} (h : Parts w v fs) (hr : w.heap[r]? = some (Obj.cells cr 24 (0, 0))) (hg : w.grownBy w' (some r)) : Parts w' v fs :=
  h.same fun p cs hc => hg.block p (Array.getElem?_eq_some_iff.1 hc).1 (fun e => by
    have e' : p = r := by simpa using e
    rw [e', hr] at hc
    simp at hc)
theorem WS.kept2 {w w' : World} {g r : Nat} {fs fs' : List (List UInt8)} (h : WS w g fs) (hr : WS w r fs') (hne : g ≠ r) (hg : w.grownBy w' (some r)) : WS w' g fs := by
  obtain ⟨l, hl, hp⟩ := h
  obtain ⟨l', hl', _⟩ := hr
  exact ⟨l, (hg.block g (Array.getElem?_eq_some_iff.1 hl).1 (fun e => hne (by simpa using e))).trans hl, hp.kept2 hl' hg⟩
theorem whole_one (f : List UInt8) : whole [f] = f := by simp [whole]

set_option maxRecDepth 100000 in
set_option maxHeartbeats 1000000 in
theorem order_any (m n : Int) (hm1 : -9223372036854775808 ≤ m) (hm2 : m ≤ 9223372036854775807) (hn1 : -9223372036854775808 ≤ n) (hn2 : n ≤ 9223372036854775807) (w : World) : Calls Try.prog 4 #[.int .i64 m, .int .i64 n] w fun e w' => e = .returned (.bool true) ∧ Below w.heap.size w w' := by
  have hbm := num_bounds m hm1 hm2
  have hbn := num_bounds n hn1 hn2
  obtain ⟨M, hM⟩ : ∃ M, M = num m := ⟨_, rfl⟩
  obtain ⟨N, hN⟩ : ∃ N, N = num n := ⟨_, rfl⟩
  have im : In64 m := ⟨hm1, hm2⟩
  have iN : In64 n := ⟨hn1, hn2⟩
  have hL : Op.bytesLess M N = decide (m < n) := by rw [hM, hN]; exact num_less im iN
  have hE : (M == N) = (m == n) := by
    rw [hM, hN]
    by_cases h : m = n
    · rw [h, beq_self_eq_true, beq_self_eq_true]
    · rw [beq_eq_false_iff_ne.2 h, beq_eq_false_iff_ne.2 (fun e => h (num_inj im iN e))]
  have Hpre : Hid (m ≠ n → M.take (min M.length N.length) ≠ N.take (min M.length N.length)) := Lib.hid (by rw [hM, hN]; exact num_prefix im iN)
  have HM := Lib.hid hM
  have HN := Lib.hid hN
  clear im iN
  rw [← hM] at hbm
  rw [← hN] at hbn
  have Htm : Hid (total [M] ≤ 1000000) := Lib.hid (by rw [total_cons]; show M.length + 0 ≤ _; omega)
  have Htn : Hid (total [N] ≤ 1000000) := Lib.hid (by rw [total_cons]; show N.length + 0 ≤ _; omega)
  have Hpm : Hid (∀ f ∈ [M], 0 < f.length) := Lib.hid (fun f hf => by rw [List.mem_singleton.1 hf]; exact hbm.1)
  have Hpn : Hid (∀ f ∈ [N], 0 < f.length) := Lib.hid (fun f hf => by rw [List.mem_singleton.1 hf]; exact hbn.1)
  clear hM hN
  go_enter Try.func4, Try.ntmps4
  go_wp2_with fail
  have hV0 : WS ((w.alloc (.cells #[.pointer none, .int .i64 0] 24)).alloc (.cells #[.pointer none, .int .i64 0] 24)) w.heap.size [] := ⟨.pointer none, by rw [Deep.blk_alloc_lt _ _ _ (by simp)]; exact Deep.blk_alloc_new w _, rfl⟩
  have hW0 : WS ((w.alloc (.cells #[.pointer none, .int .i64 0] 24)).alloc (.cells #[.pointer none, .int .i64 0] 24)) (w.heap.size + 1) [] := ⟨.pointer none, by have := Deep.blk_alloc_new (w.alloc (.cells #[.pointer none, .int .i64 0] 24)) (.cells #[.pointer none, .int .i64 0] 24); rw [Deep.nblk_alloc] at this; exact this, rfl⟩
  refine (w_number w.heap.size [] m hm1 hm2 (by decide) _ hV0).mono ?_
  rw [← HM.out]
  rintro e w1 ⟨rfl, hV1, g1⟩
  have HB1 : Hid (Below w.heap.size w w1) := Lib.hid (below_grown (((Below.refl w.heap.size w).alloc (Nat.le_refl _) _).alloc (by simp) _) g1 (Nat.le_refl _) (Nat.le_refl _))
  have HV1 := Lib.hid hV1
  have HW1 := Lib.hid (hW0.kept2 hV0 (by omega) g1)
  clear hV0 hW0 hV1 g1
  go_wp2_with fail
  refine (w_number (w.heap.size + 1) [] n hn1 hn2 (by decide) _ HW1.out).mono ?_
  rw [← HN.out]
  rintro e w2 ⟨rfl, hW2, g2⟩
  have HB2 : Hid (Below w.heap.size w w2) := Lib.hid (below_grown HB1.out g2 (by omega) (Nat.le_refl _))
  have HV2 := Lib.hid (HV1.out.kept2 HW1.out (by omega) g2)
  have HW2 := Lib.hid hW2
  clear hW2 g2
  go_wp2_with fail
  refine (w_bytes w.heap.size [M] Hpm.out Htm.out w2 HV2.out).mono ?_
  rw [whole_one]
  rintro e w3 ⟨rfl, hB3⟩
  have HB3 : Hid (Below w.heap.size w w3) := Lib.hid (Below.trans HB2.out (hB3.mono HB2.out.size))
  have HW3 := Lib.hid (HW2.out.below hB3)
  clear hB3
  go_wp2_with fail
  refine (w_bytes (w.heap.size + 1) [N] Hpn.out Htn.out w3 HW3.out).mono ?_
  rw [whole_one]
  rintro e w4 ⟨rfl, hB4⟩
  have HB4 : Hid (Below w.heap.size w w4) := Lib.hid (Below.trans HB3.out (hB4.mono HB3.out.size))
  clear hB4
  go_wp2_with fail
  refine (known_any w4).mono ?_
  rintro e w5 ⟨rfl, hB5⟩
  have HB5 : Hid (Below w.heap.size w w5) := Lib.hid (Below.trans HB4.out (hB5.mono HB4.out.size))
  clear hB5
  go_wp2_with fail
  by_cases h : m = n
  · have hd : (m == n) = true := by rw [h, beq_self_eq_true]
    go_quiet (fail)
    (refine (by assumption : ∀ _ _, _ → _) _ _ ?_)
    go_wp2_with fail
    go_ret
    exact ⟨rfl, below_drewN HB5.out _⟩
  · have hd : (m == n) = false := beq_eq_false_iff_ne.2 h
    have hk0 : (0 : Int) ≤ (min M.length N.length : Nat) := by omega
    go_quiet (fail)
    have hcut : ∀ L : List UInt8, (({ data := L.toArray } : ByteArray).extract 0 (min (M.length : Int) (N.length : Int)).toNat).toList = L.take (min M.length N.length) := fun L => by
      have e : (min (M.length : Int) (N.length : Int)).toNat = min M.length N.length := by omega
      rw [e, ByteArray.toList_eq, Lib.extract_data]
      simp
    have hq : ((({ data := M.toArray } : ByteArray).extract 0 (min (M.length : Int) (N.length : Int)).toNat).toList == (({ data := N.toArray } : ByteArray).extract 0 (min (M.length : Int) (N.length : Int)).toNat).toList) = false := by
      rw [hcut, hcut, beq_eq_false_iff_ne]
      exact Hpre.out h
    rw [hq]
    clear hcut hq
    (refine (by assumption : ∀ _ _, _ → _) _ _ ?_)
    go_wp2_with fail
    go_ret
    exact ⟨rfl, below_drewN HB5.out _⟩
end Go.Proofs.Ytepcihfkkeahhaa
