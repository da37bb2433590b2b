/- The law's add where a counter is there, or a place. -/
import Derived.Test.YtnpjakgdfjaglaaGz
import Derived.Test.YtnpjakgdfjaglaaGl
import Derived.Test.YtnpjakgdfjaglaaHv
namespace Go.Proofs.Ytnpjakgdfjaglaa
open Go.ChangeShapes Go.WideShapes Go.ChangeAt Go.RowKit Go.Joins

set_option maxRecDepth 100000 in
set_option maxHeartbeats 8000000 in
theorem radd_few (v : Value) (s : Su) (k : ByteArray) (n : Int) (hS : Sd s.cs) (hl : s.cs.length ≤ 100000) (hb : -9223372036854775808 ≤ gt s.cs k + n ∧ gt s.cs k + n ≤ 9223372036854775807) (hA : ∀ m t l A x c, v = .agg #[m, t, l, .slice A x c] → ∀ ad, A = some ad → ∃ b off, ad = ⟨b, off, none⟩) (hF : 0 < gt s.cs k ∨ (s.cs.length : Int) < s.mo) (ht : -9223372036854775808 ≤ s.to + n ∧ s.to + n ≤ 9223372036854775807) (w : World) (hv : SuV w v s) :
    Calls Try.prog 21 #[v, .string k, .int .i64 n] w fun e w' => (∃ u, e = .returned u ∧ SuV w' u ⟨s.mo, s.to + n, s.lo, adC s.cs k n⟩) ∧ Below w.heap.size w w' := by
  obtain ⟨mo, to, lo, cs⟩ := s
  obtain ⟨x, rfl, hx⟩ := hv
  dsimp only at hS hl hb hF ht hx ⊢
  have hwt : IntKind.i64.wrap (to + n) = to + n := by simp only [IntKind.wrap_i64]; omega
  obtain ⟨A, c, rfl, _⟩ := id hx
  have HX := Lib.hid hx
  have HA : Hid (∀ A' m' c', Value.slice A cs.length c = .slice A' m' c' → ∀ ad, A' = some ad → ∃ b off, ad = ⟨b, off, none⟩) := Lib.hid (fun A' m' c' e ad ea => hA _ _ _ A' m' c' (by rw [e]) ad ea)
  have HSb : Hid ((Try.prog.info? 24).map (fun i => i.size) = some 4) := Lib.hid (by kernel_rfl)
  obtain ⟨W0, hW0⟩ : ∃ W0 : World, W0 = (w.alloc (.cells #[.int .i64 mo, .int .i64 (to + n), .int .i64 lo, .slice A cs.length c] 24)).alloc (.cells #[.int .i64 0, .int .i64 0, .int .i64 0, .slice none 0 0] 24) := ⟨_, rfl⟩
  have hz0 : W0.heap.size = w.heap.size + 2 := by rw [hW0]; simp
  have HB0 : Hid (Below w.heap.size w W0) := Lib.hid (by rw [hW0]; exact ((Below.refl _ _).alloc (Nat.le_refl _) _).alloc (by simp) _)
  have HG0 : Hid (W0.heap[w.heap.size]? = some (.cells #[.int .i64 mo, .int .i64 (to + n), .int .i64 lo, .slice A cs.length c] 24 (0, 0))) := Lib.hid (by rw [hW0]; exact blk_under _ _ _)
  have HG1 : Hid (W0.heap[w.heap.size + 1]? = some (.cells #[.int .i64 0, .int .i64 0, .int .i64 0, .slice none 0 0] 24 (0, 0))) := Lib.hid (by rw [hW0]; exact blk_over _ _ _)
  have HCo := Lib.hid (fun W h => count_any (.slice A cs.length c) cs k (by omega) W h)
  have HPu := Lib.hid (fun W h => put_any (.slice A cs.length c) cs k n hS hl hb HA.out W h)
  obtain ⟨x, hxg⟩ : ∃ x, x = gt cs k := ⟨_, rfl⟩
  rw [← hxg] at HCo hF
  obtain ⟨R, hR⟩ : ∃ R, R = adC cs k n := ⟨_, rfl⟩
  rw [← hR] at HPu ⊢
  have HW := Lib.hid hW0
  obtain ⟨ln, hln⟩ : ∃ ln, ln = cs.length := ⟨_, rfl⟩
  rw [← hln] at HX HG0 HCo HPu HW hF ⊢
  clear hx hS hl hb hA hxg hR hW0 hln HA
  go_enter Try.func21, Try.ntmps21
  go_wp2_with fail
  rw [← HW.out]
  refine (HCo.out _ (HX.out.below HB0.out)).mono ?_
  rintro e w1 ⟨rfl, hb1⟩
  have HB1 : Hid (Below w.heap.size w w1) := Lib.hid (HB0.out.trans (hb1.mono HB0.out.size))
  have g0 := (hb1.block w.heap.size (by omega)).trans HG0.out
  have HG11 := Lib.hid ((hb1.block (w.heap.size + 1) (by omega)).trans HG1.out)
  have hz1 := hb1.size
  have HG01 := Lib.hid g0
  have c0 := cell_of_row _ _ 0 _ _ _ g0
  have c1 := cell_of_row _ _ 1 _ _ _ g0
  have c2 := cell_of_row _ _ 2 _ _ _ g0
  have c3 := cell_of_row _ _ 3 _ _ _ g0
  simp at c0 c1 c2 c3
  clear hb1 g0
  have tl : True := trivial
  by_cases h0 : 0 < x
  · have d0 : decide (0 < x) = true := by simpa using h0
    go_wp2_with fail
    refine (HPu.out _ (HX.out.below HB1.out)).mono ?_
    rintro e w2 ⟨⟨u, rfl, hu⟩, hb2⟩
    have HB2 : Hid (Below w.heap.size w w2) := Lib.hid (HB1.out.trans (hb2.mono HB1.out.size))
    have g0 := (hb2.block w.heap.size (by omega)).trans HG01.out
    have g1 := (hb2.block (w.heap.size + 1) (by omega)).trans HG11.out
    have hz2 := hb2.size
    have HU := Lib.hid hu
    obtain ⟨A9, c9, rfl, _⟩ := id hu
    have f0 := frz g0 3
    have hl0 : w.heap.size < w2.heap.size := by omega
    clear c0 c1 c2 c3 hb2 hu
    have c3 := cell_of_row _ _ 3 _ _ _ g0
    simp at c3
    obtain ⟨W3, hW3⟩ : ∃ W3, W3 = w2.setCell ⟨w.heap.size, 3, none⟩ (.slice A9 R.length c9) := ⟨_, rfl⟩
    have s0 : W3.heap[w.heap.size]? = some (.cells #[.int .i64 mo, .int .i64 (to + n), .int .i64 lo, .slice A9 R.length c9] 24 (0, 0)) := by rw [hW3, blk_set _ g0]; rfl
    have s1 : W3.heap[w.heap.size + 1]? = some (.cells #[.int .i64 0, .int .i64 0, .int .i64 0, .slice none 0 0] 24 (0, 0)) := by rw [hW3]; exact (Below.heap_setCell w2 _ _ _ (by show w.heap.size + 1 ≠ w.heap.size; omega)).trans g1
    have HB3 : Hid (Below w.heap.size w W3) := Lib.hid (by rw [hW3]; exact HB2.out.setCell (p := ⟨w.heap.size, 3, none⟩) (Nat.le_refl _) _)
    have HU3 : Hid (SlV W3 (.slice A9 R.length c9) R) := Lib.hid (by
      obtain ⟨A', c', e, q1, q2, q3⟩ := HU.out
      refine ⟨A', c', e, q1, q2, q3.keep (fun b cs2 hb => ?_)⟩
      rw [hW3]
      exact Below.heap_setCell w2 _ _ _ (fun e => by
        have e : b = w.heap.size := e
        subst e
        rw [g0] at hb
        injection hb with hb
        injection hb with _ hb
        exact absurd hb (by decide)))
    have t0 := cell_of_row _ _ 0 _ _ _ s0
    have t1 := cell_of_row _ _ 1 _ _ _ s0
    have t2 := cell_of_row _ _ 2 _ _ _ s0
    have t3 := cell_of_row _ _ 3 _ _ _ s0
    simp at t0 t1 t2 t3
    have hW4 := hW3
    rw [hW3] at t0 t1 t2 t3
    have HW3 := Lib.hid hW3
    have HS1 := Lib.hid s1
    clear g0 g1 s0 s1 hW3 hW4
    go_wp2_with (rw [← HW3.out]; refine wpList_store_row rfl _ _ _ rfl (w.heap.size + 1) #[.int .i64 mo, .int .i64 (to + n), .int .i64 lo, .slice A9 R.length c9] rfl rfl 24 _ HS1.out HSb.out rfl (one_rows rfl _ _ _) ?_)
    have ho := setRow_heap W3 (w.heap.size + 1) _ #[.int .i64 mo, .int .i64 (to + n), .int .i64 lo, .slice A9 R.length c9] _ _ HS1.out
    have k0 := cell_of_row _ _ 0 _ _ _ ho
    have k1 := cell_of_row _ _ 1 _ _ _ ho
    have k2 := cell_of_row _ _ 2 _ _ _ ho
    have k3 := cell_of_row _ _ 3 _ _ _ ho
    simp at k0 k1 k2 k3
    refine bodyPost_ret (v := .agg #[.int .i64 mo, .int .i64 (to + n), .int .i64 lo, .slice A9 R.length c9]) ?_ rfl ⟨⟨_, rfl, ?_⟩, below_setRow HB3.out (by omega)⟩
    · rw [results_cell1 rfl]; go_simp <;> rfl
    · exact ⟨_, rfl, slv_setRow HU3.out HS1.out⟩
  · have d0 : decide (0 < x) = false := by simpa using h0
    have d1 : decide ((ln : Int) < mo) = true := by simp; omega
    go_wp2_with fail
    refine (HPu.out _ (HX.out.below HB1.out)).mono ?_
    rintro e w2 ⟨⟨u, rfl, hu⟩, hb2⟩
    have HB2 : Hid (Below w.heap.size w w2) := Lib.hid (HB1.out.trans (hb2.mono HB1.out.size))
    have g0 := (hb2.block w.heap.size (by omega)).trans HG01.out
    have g1 := (hb2.block (w.heap.size + 1) (by omega)).trans HG11.out
    have hz2 := hb2.size
    have HU := Lib.hid hu
    obtain ⟨A9, c9, rfl, _⟩ := id hu
    have f0 := frz g0 3
    have hl0 : w.heap.size < w2.heap.size := by omega
    clear c0 c1 c2 c3 hb2 hu
    have c3 := cell_of_row _ _ 3 _ _ _ g0
    simp at c3
    obtain ⟨W3, hW3⟩ : ∃ W3, W3 = w2.setCell ⟨w.heap.size, 3, none⟩ (.slice A9 R.length c9) := ⟨_, rfl⟩
    have s0 : W3.heap[w.heap.size]? = some (.cells #[.int .i64 mo, .int .i64 (to + n), .int .i64 lo, .slice A9 R.length c9] 24 (0, 0)) := by rw [hW3, blk_set _ g0]; rfl
    have s1 : W3.heap[w.heap.size + 1]? = some (.cells #[.int .i64 0, .int .i64 0, .int .i64 0, .slice none 0 0] 24 (0, 0)) := by rw [hW3]; exact (Below.heap_setCell w2 _ _ _ (by show w.heap.size + 1 ≠ w.heap.size; omega)).trans g1
    have HB3 : Hid (Below w.heap.size w W3) := Lib.hid (by rw [hW3]; exact HB2.out.setCell (p := ⟨w.heap.size, 3, none⟩) (Nat.le_refl _) _)
    have HU3 : Hid (SlV W3 (.slice A9 R.length c9) R) := Lib.hid (by
      obtain ⟨A', c', e, q1, q2, q3⟩ := HU.out
      refine ⟨A', c', e, q1, q2, q3.keep (fun b cs2 hb => ?_)⟩
      rw [hW3]
      exact Below.heap_setCell w2 _ _ _ (fun e => by
        have e : b = w.heap.size := e
        subst e
        rw [g0] at hb
        injection hb with hb
        injection hb with _ hb
        exact absurd hb (by decide)))
    have t0 := cell_of_row _ _ 0 _ _ _ s0
    have t1 := cell_of_row _ _ 1 _ _ _ s0
    have t2 := cell_of_row _ _ 2 _ _ _ s0
    have t3 := cell_of_row _ _ 3 _ _ _ s0
    simp at t0 t1 t2 t3
    have hW4 := hW3
    rw [hW3] at t0 t1 t2 t3
    have HW3 := Lib.hid hW3
    have HS1 := Lib.hid s1
    clear g0 g1 s0 s1 hW3 hW4
    go_wp2_with (rw [← HW3.out]; refine wpList_store_row rfl _ _ _ rfl (w.heap.size + 1) #[.int .i64 mo, .int .i64 (to + n), .int .i64 lo, .slice A9 R.length c9] rfl rfl 24 _ HS1.out HSb.out rfl (one_rows rfl _ _ _) ?_)
    have ho := setRow_heap W3 (w.heap.size + 1) _ #[.int .i64 mo, .int .i64 (to + n), .int .i64 lo, .slice A9 R.length c9] _ _ HS1.out
    have k0 := cell_of_row _ _ 0 _ _ _ ho
    have k1 := cell_of_row _ _ 1 _ _ _ ho
    have k2 := cell_of_row _ _ 2 _ _ _ ho
    have k3 := cell_of_row _ _ 3 _ _ _ ho
    simp at k0 k1 k2 k3
    refine bodyPost_ret (v := .agg #[.int .i64 mo, .int .i64 (to + n), .int .i64 lo, .slice A9 R.length c9]) ?_ rfl ⟨⟨_, rfl, ?_⟩, below_setRow HB3.out (by omega)⟩
    · rw [results_cell1 rfl]; go_simp <;> rfl
    · exact ⟨_, rfl, slv_setRow HU3.out HS1.out⟩
end Go.Proofs.Ytnpjakgdfjaglaa
