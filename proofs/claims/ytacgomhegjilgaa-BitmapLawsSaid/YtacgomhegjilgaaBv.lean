/- And, Or, AndNot. -/
import Derived.Test.YtacgomhegjilgaaBu
namespace Go.Proofs.Ytacgomhegjilgaa
open Go.ChangeShapes Go.WideShapes Go.ChangeAt Go.RowKit Ts

/-- A set of rows: a normal list of at most so many intervals. -/
structure Bs (n : Nat) (A : List Iv) : Prop where
  nrm : Nrm A
  len : A.length ≤ n
  row : ∀ k, In k A → isR k = true
theorem isR_iff (n : Int) : isR n = true ↔ 0 ≤ n ∧ n < 1048576 := by
  unfold isR; simp only [Bool.and_eq_true, decide_eq_true_eq]
theorem Bs.bd {n : Nat} {A : List Iv} (h : Bs n A) : ∀ x ∈ A, 0 ≤ x.1 ∧ x.2 ≤ 1048576 ∧ x.1 < x.2 := fun x hx => by
  have a := nrm_rn h.nrm h.row (rx x) (List.mem_map.2 ⟨x, hx, rfl⟩)
  simp only [rx] at a
  omega
theorem Bs.lf {n : Nat} {A : List Iv} (h : Bs n A) : Lf A 0 A :=
  ⟨h.nrm, fun x hx => by have := h.bd x hx; omega, fun k _ => has_in k A, fun x hx => (h.bd x hx).1⟩
theorem Bs.zero {n : Nat} {A : List Iv} (h : Bs n A) : ∀ k, In k A → 0 ≤ k := fun k hk => ((isR_iff k).1 (h.row k hk)).1
/-- What a call that returns a set by an operation leaves. -/
def OutF (f : Bool → Bool → Bool) (A B : List Iv) (base : Nat) (w' : World) (e : Ending) : Prop :=
  ∃ r N, e = .returned (.agg #[r]) ∧ w'.ownsRow base 39 2 r (rn N).length (ivCells (rn N)) ∧ Nrm N ∧ ∀ n, In n N ↔ f (has n A) (has n B) = true
set_option maxRecDepth 100000 in
set_option maxHeartbeats 1000000 in
theorem and_sl {u v : Value} {A B : List Iv} (hA : Bs 90000 A) (hB : Bs 90000 B) (w : World) (hu : Sl w u (rn A)) (hv : Sl w v (rn B)) :
    Calls Try.prog 33 #[.agg #[u], .agg #[v]] w fun e w' => OutF (fun x y => x && y) A B w.heap.size w' e ∧ Below w.heap.size w w' := by
  have hB3 : Below w.heap.size w (((w.alloc (.cells #[u] 26)).alloc (.cells #[v] 26)).alloc (.cells #[.slice none 0 0] 26)) := (((Below.refl _ _).alloc (Nat.le_refl _) _).alloc (by simp) _).alloc (by simp; omega) _
  have H := Lib.hid (merge_any (fun x y => x && y) rfl 61 and_cl (enters_of Try.func61 (by kernel_rfl) rfl) hA.len hB.len hA.lf hB.lf hA.zero hB.zero _ (hu.below hB3) (hv.below hB3))
  have HB := Lib.hid hB3
  have hbk := Deep.blk_alloc_new ((w.alloc (.cells #[u] 26)).alloc (.cells #[v] 26)) (.cells #[.slice none 0 0] 26)
  rw [show ((w.alloc (.cells #[u] 26)).alloc (.cells #[v] 26)).heap.size = w.heap.size + 1 + 1 by simp] at hbk
  have HK := Lib.hid hbk
  have hz : (((w.alloc (.cells #[u] 26)).alloc (.cells #[v] 26)).alloc (.cells #[.slice none 0 0] 26)).heap.size = w.heap.size + 3 := by simp
  clear hu hv hB3 hbk
  go_enter Try.func33, Try.ntmps33
  go_wp2_with fail
  refine H.out.mono ?_
  rintro e w1 ⟨⟨r, N, rfl, hown, hN⟩, hb⟩
  have HK1 := Lib.hid ((hb.block (w.heap.size + 1 + 1) (by rw [hz]; omega)).trans HK.out)
  have HB1 := Lib.hid (HB.out.trans (hb.mono HB.out.size))
  have HO := Lib.hid hown
  have HN := Lib.hid hN
  obtain ⟨A5, c5, rfl, _, _, _⟩ := rs_own hown
  have hfr : w1.frozen? ⟨w.heap.size + 1 + 1, 0, none⟩ = false := by simp [World.frozen?, HK1.out]
  have hcl : w1.cell? ⟨w.heap.size + 1 + 1, 0, none⟩ = some (.slice none 0 0) := by simp [World.cell?, HK1.out]
  clear hb hown hN
  go_wp2_with fail
  (try simp only [Exit.inBlock, Exit.then])
  have hcl2 : (w1.setCell ⟨w.heap.size + 1 + 1, 0, none⟩ (.slice A5 (rn N).length c5)).cell? ⟨w.heap.size + 1 + 1, 0, none⟩ = some (.slice A5 (rn N).length c5) := by
    have hb2 := blk_set (off := 0) (.slice A5 (rn N).length c5) HK1.out
    simp [World.cell?, hb2]
  refine bodyPost_ret (v := .agg #[.slice A5 (rn N).length c5]) ?_ rfl ⟨⟨_, N, rfl, ?_, HN.out⟩, ?_⟩
  · rw [results_cell1 rfl]; go_simp <;> rfl
  · exact own_base (HO.out.kept (grownBy_setCell' w1 (w.heap.size + 1 + 1) _) (.inr (row_ne_low HO.out (by rw [hz]; omega)).symm)) (by rw [hz]; omega)
  · exact HB1.out.setCell (p := ⟨w.heap.size + 1 + 1, 0, none⟩) (by show w.heap.size ≤ w.heap.size + 1 + 1; omega) _
set_option maxRecDepth 100000 in
set_option maxHeartbeats 1000000 in
theorem or_sl {u v : Value} {A B : List Iv} (hA : Bs 90000 A) (hB : Bs 90000 B) (w : World) (hu : Sl w u (rn A)) (hv : Sl w v (rn B)) :
    Calls Try.prog 35 #[.agg #[u], .agg #[v]] w fun e w' => OutF (fun x y => x || y) A B w.heap.size w' e ∧ Below w.heap.size w w' := by
  have hB3 : Below w.heap.size w (((w.alloc (.cells #[u] 26)).alloc (.cells #[v] 26)).alloc (.cells #[.slice none 0 0] 26)) := (((Below.refl _ _).alloc (Nat.le_refl _) _).alloc (by simp) _).alloc (by simp; omega) _
  have H := Lib.hid (merge_any (fun x y => x || y) rfl 62 or_cl (enters_of Try.func62 (by kernel_rfl) rfl) hA.len hB.len hA.lf hB.lf hA.zero hB.zero _ (hu.below hB3) (hv.below hB3))
  have HB := Lib.hid hB3
  have hbk := Deep.blk_alloc_new ((w.alloc (.cells #[u] 26)).alloc (.cells #[v] 26)) (.cells #[.slice none 0 0] 26)
  rw [show ((w.alloc (.cells #[u] 26)).alloc (.cells #[v] 26)).heap.size = w.heap.size + 1 + 1 by simp] at hbk
  have HK := Lib.hid hbk
  have hz : (((w.alloc (.cells #[u] 26)).alloc (.cells #[v] 26)).alloc (.cells #[.slice none 0 0] 26)).heap.size = w.heap.size + 3 := by simp
  clear hu hv hB3 hbk
  go_enter Try.func35, Try.ntmps35
  go_wp2_with fail
  refine H.out.mono ?_
  rintro e w1 ⟨⟨r, N, rfl, hown, hN⟩, hb⟩
  have HK1 := Lib.hid ((hb.block (w.heap.size + 1 + 1) (by rw [hz]; omega)).trans HK.out)
  have HB1 := Lib.hid (HB.out.trans (hb.mono HB.out.size))
  have HO := Lib.hid hown
  have HN := Lib.hid hN
  obtain ⟨A5, c5, rfl, _, _, _⟩ := rs_own hown
  have hfr : w1.frozen? ⟨w.heap.size + 1 + 1, 0, none⟩ = false := by simp [World.frozen?, HK1.out]
  have hcl : w1.cell? ⟨w.heap.size + 1 + 1, 0, none⟩ = some (.slice none 0 0) := by simp [World.cell?, HK1.out]
  clear hb hown hN
  go_wp2_with fail
  (try simp only [Exit.inBlock, Exit.then])
  have hcl2 : (w1.setCell ⟨w.heap.size + 1 + 1, 0, none⟩ (.slice A5 (rn N).length c5)).cell? ⟨w.heap.size + 1 + 1, 0, none⟩ = some (.slice A5 (rn N).length c5) := by
    have hb2 := blk_set (off := 0) (.slice A5 (rn N).length c5) HK1.out
    simp [World.cell?, hb2]
  refine bodyPost_ret (v := .agg #[.slice A5 (rn N).length c5]) ?_ rfl ⟨⟨_, N, rfl, ?_, HN.out⟩, ?_⟩
  · rw [results_cell1 rfl]; go_simp <;> rfl
  · exact own_base (HO.out.kept (grownBy_setCell' w1 (w.heap.size + 1 + 1) _) (.inr (row_ne_low HO.out (by rw [hz]; omega)).symm)) (by rw [hz]; omega)
  · exact HB1.out.setCell (p := ⟨w.heap.size + 1 + 1, 0, none⟩) (by show w.heap.size ≤ w.heap.size + 1 + 1; omega) _
set_option maxRecDepth 100000 in
set_option maxHeartbeats 1000000 in
theorem but_sl {u v : Value} {A B : List Iv} (hA : Bs 90000 A) (hB : Bs 90000 B) (w : World) (hu : Sl w u (rn A)) (hv : Sl w v (rn B)) :
    Calls Try.prog 37 #[.agg #[u], .agg #[v]] w fun e w' => OutF (fun x y => x && !y) A B w.heap.size w' e ∧ Below w.heap.size w w' := by
  have hB3 : Below w.heap.size w (((w.alloc (.cells #[u] 26)).alloc (.cells #[v] 26)).alloc (.cells #[.slice none 0 0] 26)) := (((Below.refl _ _).alloc (Nat.le_refl _) _).alloc (by simp) _).alloc (by simp; omega) _
  have H := Lib.hid (merge_any (fun x y => x && !y) rfl 63 but_cl (enters_of Try.func63 (by kernel_rfl) rfl) hA.len hB.len hA.lf hB.lf hA.zero hB.zero _ (hu.below hB3) (hv.below hB3))
  have HB := Lib.hid hB3
  have hbk := Deep.blk_alloc_new ((w.alloc (.cells #[u] 26)).alloc (.cells #[v] 26)) (.cells #[.slice none 0 0] 26)
  rw [show ((w.alloc (.cells #[u] 26)).alloc (.cells #[v] 26)).heap.size = w.heap.size + 1 + 1 by simp] at hbk
  have HK := Lib.hid hbk
  have hz : (((w.alloc (.cells #[u] 26)).alloc (.cells #[v] 26)).alloc (.cells #[.slice none 0 0] 26)).heap.size = w.heap.size + 3 := by simp
  clear hu hv hB3 hbk
  go_enter Try.func37, Try.ntmps37
  go_wp2_with fail
  refine H.out.mono ?_
  rintro e w1 ⟨⟨r, N, rfl, hown, hN⟩, hb⟩
  have HK1 := Lib.hid ((hb.block (w.heap.size + 1 + 1) (by rw [hz]; omega)).trans HK.out)
  have HB1 := Lib.hid (HB.out.trans (hb.mono HB.out.size))
  have HO := Lib.hid hown
  have HN := Lib.hid hN
  obtain ⟨A5, c5, rfl, _, _, _⟩ := rs_own hown
  have hfr : w1.frozen? ⟨w.heap.size + 1 + 1, 0, none⟩ = false := by simp [World.frozen?, HK1.out]
  have hcl : w1.cell? ⟨w.heap.size + 1 + 1, 0, none⟩ = some (.slice none 0 0) := by simp [World.cell?, HK1.out]
  clear hb hown hN
  go_wp2_with fail
  (try simp only [Exit.inBlock, Exit.then])
  have hcl2 : (w1.setCell ⟨w.heap.size + 1 + 1, 0, none⟩ (.slice A5 (rn N).length c5)).cell? ⟨w.heap.size + 1 + 1, 0, none⟩ = some (.slice A5 (rn N).length c5) := by
    have hb2 := blk_set (off := 0) (.slice A5 (rn N).length c5) HK1.out
    simp [World.cell?, hb2]
  refine bodyPost_ret (v := .agg #[.slice A5 (rn N).length c5]) ?_ rfl ⟨⟨_, N, rfl, ?_, HN.out⟩, ?_⟩
  · rw [results_cell1 rfl]; go_simp <;> rfl
  · exact own_base (HO.out.kept (grownBy_setCell' w1 (w.heap.size + 1 + 1) _) (.inr (row_ne_low HO.out (by rw [hz]; omega)).symm)) (by rw [hz]; omega)
  · exact HB1.out.setCell (p := ⟨w.heap.size + 1 + 1, 0, none⟩) (by show w.heap.size ≤ w.heap.size + 1 + 1; omega) _
end Go.Proofs.Ytacgomhegjilgaa
