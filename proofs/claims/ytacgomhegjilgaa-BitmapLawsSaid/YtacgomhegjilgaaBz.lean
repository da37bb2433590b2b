/- slices.Equal at runs; Equal, Subset (made out of layer 3's XEq). -/
import Derived.Test.YtacgomhegjilgaaBy
namespace Go.Proofs.Ytacgomhegjilgaa
open Go.ChangeShapes Go.WideShapes Go.ChangeAt Go.RowKit Ts

set_option maxRecDepth 100000 in
set_option maxHeartbeats 2000000 in
theorem sl_equal (A : Option Addr) (c : Nat) (L : List Iv) (hl : L.length ≤ 1000000) (B : Option Addr) (d : Nat) (M : List Iv) (hm : M.length ≤ 1000000) (w : World) (hR : Rs w w.heap.size A (ivCells L)) (hS : Rs w w.heap.size B (ivCells M)) :
    Calls Try.prog 64 #[.slice A L.length c, .slice B M.length d] w fun e w' => e = .returned (.bool (decide (L = M))) ∧ Below w.heap.size w w' := by
  have HR := Lib.hid hR
  have HS := Lib.hid hS
  obtain ⟨F, hF⟩ : ∃ F, F = decide (L = M) := ⟨_, rfl⟩
  rw [← hF]
  have HF := Lib.hid hF
  clear hR hS hF
  by_cases hlm : L.length = M.length
  · have hlm' : (L.length : Int) = (M.length : Int) := by omega
    have hnm : ((L.length : Int) != (M.length : Int)) = false := by simpa using hlm'
    clear hlm'
    go_enter Try.func64, Try.ntmps64
    go_wp2_with fail
    go_loopw [13] (fun iv wr => ∃ j : Nat, j ≤ L.length ∧ iv = .int .i64 (j : Int) ∧ Hid (∀ q (h : q < L.length) (h' : q < M.length), q < j → L[q] = M[q]) ∧ Hid (Below w.heap.size w wr)) (fun iv _ => L.length - (intOf iv).toNat)
    case atStart => exact ⟨0, Nat.zero_le _, rfl, Lib.hid (fun q _ _ hq => absurd hq (by omega)), Lib.hid (Below.refl _ _)⟩
    case round =>
      obtain ⟨j, hj, rfl, hall, HB⟩ := hrel
      by_cases hlt : j < L.length
      · have hlt2 : j < M.length := by omega
        obtain ⟨b, off, rfl, hb, h0, h1⟩ := iv_at (HR.out.below HB.out) j hlt
        obtain ⟨b2, off2, rfl, hb2, k0, k1⟩ := iv_at (HS.out.below HB.out) j hlt2
        obtain ⟨x, hx⟩ : ∃ x, x = L[j] := ⟨_, rfl⟩
        obtain ⟨y, hy⟩ : ∃ x, x = M[j] := ⟨_, rfl⟩
        rw [← hx] at h0 h1
        rw [← hy] at k0 k1
        have HX := Lib.hid hx
        have HY := Lib.hid hy
        clear hx hy
        obtain ⟨x1, x2⟩ := x
        obtain ⟨y1, y2⟩ := y
        dsimp only at h0 h1 k0 k1
        have hjl : (j : Int) < (L.length : Int) := by omega
        have hjm : (j : Int) < (M.length : Int) := by omega
        have hj0 : (0 : Int) ≤ (j : Int) := by omega
        by_cases he : x1 = y1 ∧ x2 = y2
        · obtain ⟨rfl, rfl⟩ := he
          go_wp2_with fail
          go_region
          all_goals
            go_wp2_with fail
            go_roundw
            case rel =>
              refine ⟨j + 1, by omega, by go_num, Lib.hid (fun q hq hq' hqj => ?_), Lib.hid (Below.drew HB.out)⟩
              by_cases e : q = j
              · subst e; rw [← HX.out, ← HY.out]
              · exact hall.out q hq hq' (by omega)
            case measure => simp [intOf]; omega
        · have HT : Hid (F = false) := Lib.hid (by
            rw [HF.out]
            refine decide_eq_false (fun h => he ?_)
            have e : L[j] = M[j] := by subst h; rfl
            rw [← HX.out, ← HY.out] at e
            exact ⟨congrArg Prod.fst e, congrArg Prod.snd e⟩)
          by_cases h1e : x1 = y1
          · have h2e : ¬ x2 = y2 := fun h => he ⟨h1e, h⟩
            go_wp2_with fail
            go_region
            all_goals
              go_wp2_with fail
              go_ret
              rw [HT.out]
              exact ⟨rfl, Below.drew HB.out⟩
          · go_wp2_with fail
            go_region
            all_goals
              go_wp2_with fail
              go_ret
              rw [HT.out]
              exact ⟨rfl, Below.drew HB.out⟩
      · have HT : Hid (F = true) := Lib.hid (by
          rw [HF.out]
          exact decide_eq_true (List.ext_getElem hlm (fun q h1 h2 => hall.out q h1 h2 (by omega))))
        go_wp2_with fail
        go_ret
        rw [HT.out]
        exact ⟨rfl, HB.out⟩
  · have HT : Hid (F = false) := Lib.hid (by rw [HF.out]; exact decide_eq_false (fun h => hlm (by rw [h])))
    have hnm : ((L.length : Int) != (M.length : Int)) = true := by simpa using (show ¬ (L.length : Int) = (M.length : Int) by omega)
    go_enter Try.func64, Try.ntmps64
    go_wp2_with fail
    go_ret
    rw [HT.out]
    exact ⟨rfl, Below.refl _ _⟩
set_option maxRecDepth 100000 in
theorem equal_sl {v u : Value} {L M : List Iv} (hL : L.length ≤ 1000000) (hM : M.length ≤ 1000000) (w : World) (hv : Sl w v L) (hu : Sl w u M) :
    Calls Try.prog 39 #[.agg #[v], .agg #[u]] w fun e w' => e = .returned (.bool (decide (L = M))) ∧ Below w.heap.size w w' := by
  have hB2 : Below w.heap.size w ((w.alloc (.cells #[v] 26)).alloc (.cells #[u] 26)) := ((Below.refl _ _).alloc (Nat.le_refl _) _).alloc (by simp) _
  have hv2 := hv.below hB2
  have hu2 := hu.below hB2
  obtain ⟨A, c, rfl, _, _, _, hR⟩ := hv2
  obtain ⟨B, d, rfl, _, _, _, hS⟩ := hu2
  have H := Lib.hid (sl_equal A c L hL B d M hM _ hR hS)
  have HB := Lib.hid hB2
  obtain ⟨F, hF⟩ : ∃ F, F = decide (L = M) := ⟨_, rfl⟩
  rw [← hF] at H ⊢
  clear hR hS hF hv hu hB2
  go_enter Try.func39, Try.ntmps39
  go_wp2_with fail
  refine H.out.mono ?_
  rintro e w1 ⟨rfl, hb⟩
  have HB1 := Lib.hid (HB.out.trans (hb.mono HB.out.size))
  clear hb
  go_wp2_with fail
  go_ret
  exact ⟨rfl, HB1.out⟩
theorem run_field (a : Option Addr) (n c : Nat) (W : World) : (Instr.field 26 (.agg #[.slice a n c]) 0).run Try.prog W = .ok (.slice a n c) W := by
  simp [Instr.field, Sem.run_bind, go_sem, Result.andThen]
  rfl
set_option maxRecDepth 100000 in
theorem subset_sl {u v : Value} {A B : List Iv} (hA : Bs 90000 A) (hB : Bs 90000 B) (w : World) (hu : Sl w u (rn A)) (hv : Sl w v (rn B)) :
    Calls Try.prog 41 #[.agg #[u], .agg #[v]] w fun e w' => (∃ N, e = .returned (.bool (N.length == 0)) ∧ Nrm N ∧ ∀ n, In n N ↔ (has n A && !has n B) = true) ∧ Below w.heap.size w w' := by
  have hB2 : Below w.heap.size w ((w.alloc (.cells #[u] 26)).alloc (.cells #[v] 26)) := ((Below.refl _ _).alloc (Nat.le_refl _) _).alloc (by simp) _
  have H := Lib.hid (but_sl hA hB _ (hu.below hB2) (hv.below hB2))
  have HB := Lib.hid hB2
  clear hu hv hB2
  go_enter Try.func41, Try.ntmps41
  go_wp2_with fail
  refine H.out.mono ?_
  rintro e w1 ⟨⟨r, N, rfl, hown, hN⟩, hb⟩
  have HB1 := Lib.hid (HB.out.trans (hb.mono HB.out.size))
  have HN := Lib.hid hN
  obtain ⟨A6, c6, rfl, _, _, _⟩ := rs_own hown
  rw [rn_len]
  clear hb hown hN
  have hfl := run_field A6 N.length c6 w1
  go_wp2_with fail
  go_ret
  refine ⟨⟨N, ?_, HN.out⟩, HB1.out⟩
  have e : ((N.length : Int) == 0) = (N.length == 0) := by
    cases N with
    | nil => rfl
    | cons x T => simp; omega
  rw [← e]
  rfl
end Go.Proofs.Ytacgomhegjilgaa
