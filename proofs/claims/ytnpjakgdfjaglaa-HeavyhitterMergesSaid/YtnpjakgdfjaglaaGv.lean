/- The law's known. -/
import Derived.Test.YtnpjakgdfjaglaaGu
import Derived.Test.YtnpjakgdfjaglaaHv
namespace Go.Proofs.Ytnpjakgdfjaglaa
open Go.ChangeShapes Go.WideShapes Go.ChangeAt Go.RowKit Go.Joins

theorem sd_one (p : Ct) : Sd [p] := List.pairwise_singleton _ _
theorem sd_two {p q : Ct} (h : bl p.1 q.1 = true) : Sd [p, q] := List.pairwise_cons.2 ⟨fun x hx => by rw [List.mem_singleton] at hx; rw [hx]; exact h, sd_one q⟩
theorem nb_ex (s : Su) (h1 : 0 ≤ s.mo ∧ s.mo ≤ 1000) (h2 : 0 ≤ s.to ∧ s.to ≤ 1000) (h3 : 0 ≤ s.lo ∧ s.lo ≤ 1000) : Nb s := ⟨⟨by omega, by omega⟩, ⟨by omega, by omega⟩, by omega, by omega⟩
theorem call_n (w : World) : Calls Try.prog 14 #[.int .i64 2] w fun e w' => (∃ A c, e = .returned (.tuple #[.agg #[.int .i64 2, .int .i64 0, .int .i64 0, .slice A 0 c], .int .i64 0]) ∧ SlV w' (.slice A 0 c) []) ∧ Below w.heap.size w w' := by
  refine (new_any 2 w).mono ?_
  rintro e w' ⟨⟨v, rfl, u, rfl, h⟩, hb⟩
  obtain ⟨A, c, rfl, _⟩ := id h
  exact ⟨⟨A, c, rfl, h⟩, hb⟩
theorem call_a (u : Value) (w : World) (hu : SlV w u []) : Calls Try.prog 19 #[.agg #[.int .i64 2, .int .i64 0, .int .i64 0, u], .string ⟨#[97]⟩, .int .i64 3] w fun e w' => (∃ A c, e = .returned (.tuple #[.agg #[.int .i64 2, .int .i64 3, .int .i64 0, .slice A 1 c], .int .i64 0]) ∧ SlV w' (.slice A 1 c) [(ka, 3)]) ∧ Below w.heap.size w w' := by
  have h := add_any _ ⟨2, 0, 0, []⟩ ka 3 (by decide) (by simp) (fit_ex _ (by simp [Nn]) (by simp [sm]) (by simp) (by simp)) List.Pairwise.nil (nb_ex _ (by simp) (by simp) (by simp)) w ⟨u, rfl, hu⟩
  rw [ex_a] at h
  refine h.mono ?_
  rintro e w' ⟨⟨v, rfl, u, rfl, h⟩, hb⟩
  obtain ⟨A, c, rfl, _⟩ := id h
  exact ⟨⟨A, c, rfl, h⟩, hb⟩
theorem call_b (u : Value) (w : World) (hu : SlV w u [(ka, 3)]) : Calls Try.prog 19 #[.agg #[.int .i64 2, .int .i64 3, .int .i64 0, u], .string ⟨#[98]⟩, .int .i64 1] w fun e w' => (∃ A c, e = .returned (.tuple #[.agg #[.int .i64 2, .int .i64 4, .int .i64 0, .slice A 2 c], .int .i64 0]) ∧ SlV w' (.slice A 2 c) [(ka, 3), (kb, 1)]) ∧ Below w.heap.size w w' := by
  have h := add_any _ ⟨2, 3, 0, [(ka, 3)]⟩ kb 1 (by decide) (by simp) (fit_ex _ (by simp [Nn]) (by simp [sm]) (by simp; decide) (by simp)) (sd_one _) (nb_ex _ (by simp) (by simp) (by simp)) w ⟨u, rfl, hu⟩
  rw [ex_b] at h
  refine h.mono ?_
  rintro e w' ⟨⟨v, rfl, u, rfl, h⟩, hb⟩
  obtain ⟨A, c, rfl, _⟩ := id h
  exact ⟨⟨A, c, rfl, h⟩, hb⟩
theorem call_c (u : Value) (w : World) (hu : SlV w u [(ka, 3), (kb, 1)]) : Calls Try.prog 19 #[.agg #[.int .i64 2, .int .i64 4, .int .i64 0, u], .string ⟨#[99]⟩, .int .i64 2] w fun e w' => (∃ A c, e = .returned (.tuple #[.agg #[.int .i64 2, .int .i64 6, .int .i64 1, .slice A 2 c], .int .i64 0]) ∧ SlV w' (.slice A 2 c) [(ka, 2), (kc, 1)]) ∧ Below w.heap.size w w' := by
  have h := add_any _ ⟨2, 4, 0, [(ka, 3), (kb, 1)]⟩ kc 2 (by decide) (by simp) (fit_ex _ (by simp [Nn]) (by simp [sm]) (by simp; decide) (by simp)) (sd_two ab) (nb_ex _ (by simp) (by simp) (by simp)) w ⟨u, rfl, hu⟩
  rw [ex_c] at h
  refine h.mono ?_
  rintro e w' ⟨⟨v, rfl, u, rfl, h⟩, hb⟩
  obtain ⟨A, c, rfl, _⟩ := id h
  exact ⟨⟨A, c, rfl, h⟩, hb⟩
theorem call_m (u v : Value) (w : World) (hu : SlV w u [(ka, 4), (kb, 2)]) (hv : SlV w v [(kb, 1), (kc, 3)]) : Calls Try.prog 27 #[.agg #[.int .i64 2, .int .i64 6, .int .i64 0, u], .agg #[.int .i64 2, .int .i64 4, .int .i64 0, v]] w fun e w' => (∃ A c, e = .returned (.tuple #[.agg #[.int .i64 2, .int .i64 10, .int .i64 3, .slice A 1 c], .int .i64 0]) ∧ SlV w' (.slice A 1 c) [(ka, 1)]) ∧ Below w.heap.size w w' := by
  have h := merge_any _ _ ⟨2, 6, 0, [(ka, 4), (kb, 2)]⟩ ⟨2, 4, 0, [(kb, 1), (kc, 3)]⟩ (by simp) (by simp) (fit_ex _ (by simp [Nn]) (by simp [sm]) (by simp; decide) (by simp)) (nb_ex _ (by simp) (by simp) (by simp)) (nb_ex _ (by simp) (by simp) (by simp)) (by simp) w ⟨u, rfl, hu⟩ ⟨v, rfl, hv⟩
  rw [ex_m] at h
  refine h.mono ?_
  rintro e w' ⟨⟨v, rfl, u, rfl, h⟩, hb⟩
  obtain ⟨A, c, rfl, _⟩ := id h
  exact ⟨⟨A, c, rfl, h⟩, hb⟩
set_option maxRecDepth 100000 in
set_option maxHeartbeats 8000000 in
theorem known_any (w : World) : Calls Try.prog 13 #[] w fun e w' => e = .returned (.bool true) ∧ Below w.heap.size w w' := by
  have HSb : Hid ((Try.prog.info? 24).map (fun i => i.size) = some 4) := Lib.hid (by kernel_rfl)
  go_enter Try.func13, Try.ntmps13
  go_wp2_with fail
  refine (call_n w).mono ?_
  rintro e w1 ⟨⟨A1, c1, rfl, hs⟩, hb⟩
  have HB1 := Lib.hid hb
  have HS1 := Lib.hid hs
  have hz1 := hb.size
  clear hs hb
  obtain ⟨W1, hW1⟩ : ∃ W1, W1 = w1.alloc (.cells #[.int .i64 2, .int .i64 0, .int .i64 0, .slice A1 0 c1] 24) := ⟨_, rfl⟩
  have HBW1 : Hid (Below w.heap.size w W1) := Lib.hid (by rw [hW1]; exact HB1.out.alloc hz1 _)
  have HGW1 : Hid (W1.heap[w1.heap.size]? = some (.cells #[.int .i64 2, .int .i64 0, .int .i64 0, .slice A1 0 c1] 24 (0, 0))) := Lib.hid (by rw [hW1]; exact Deep.blk_alloc_new _ _)
  have HSW1 := Lib.hid (HS1.out.below (w' := W1) (by rw [hW1]; exact (Below.refl _ _).alloc (Nat.le_refl _) _))
  go_wp2_with fail
  rw [← hW1]
  clear hW1 HS1 HB1
  obtain ⟨g, hg⟩ : ∃ g, g = w1.heap.size := ⟨_, rfl⟩
  rw [← hg] at HGW1 hz1 ⊢
  clear hg
  refine (call_a _ _ HSW1.out).mono ?_
  rintro e v1 ⟨⟨A2, c2, rfl, hs⟩, hb⟩
  have HBv1 := Lib.hid (HBW1.out.trans (hb.mono HBW1.out.size))
  have HGv1 := Lib.hid ((hb.block g (Array.getElem?_eq_some_iff.1 HGW1.out).1).trans HGW1.out)
  have HSv1 := Lib.hid hs
  clear hs hb
  try clear k0 k1 k2 k3
  go_wp2_with (refine wpList_store_row rfl _ _ _ rfl g #[.int .i64 2, .int .i64 3, .int .i64 0, .slice A2 1 c2] rfl rfl 24 _ HGv1.out HSb.out rfl (one_rows (slv_one HSv1.out) _ _ _) ?_; obtain ⟨W2, hW⟩ : ∃ W2, W2 = v1.setRow g #[.int .i64 2, .int .i64 3, .int .i64 0, .slice A2 1 c2] := ⟨_, rfl⟩; have HGW2 : Hid (W2.heap[g]? = some (.cells #[.int .i64 2, .int .i64 3, .int .i64 0, .slice A2 1 c2] 24 (0, 0))) := Lib.hid (by rw [hW]; exact setRow_heap _ _ _ _ _ _ HGv1.out); have HBW2 : Hid (Below w.heap.size w W2) := Lib.hid (by rw [hW]; exact below_setRow HBv1.out hz1); have HSW2 := Lib.hid (hW ▸ slv_setRow (cs := #[.int .i64 2, .int .i64 3, .int .i64 0, .slice A2 1 c2]) HSv1.out HGv1.out : SlV W2 _ _); rw [← hW]; clear hW; have k0 := cell_of_row _ _ 0 _ _ _ HGW2.out; have k1 := cell_of_row _ _ 1 _ _ _ HGW2.out; have k2 := cell_of_row _ _ 2 _ _ _ HGW2.out; have k3 := cell_of_row _ _ 3 _ _ _ HGW2.out; have kl : g < W2.heap.size := (Array.getElem?_eq_some_iff.1 HGW2.out).1; simp at k0 k1 k2 k3)
  refine (call_b _ _ HSW2.out).mono ?_
  rintro e v2 ⟨⟨A3, c3, rfl, hs⟩, hb⟩
  have HBv2 := Lib.hid (HBW2.out.trans (hb.mono HBW2.out.size))
  have HGv2 := Lib.hid ((hb.block g (Array.getElem?_eq_some_iff.1 HGW2.out).1).trans HGW2.out)
  have HSv2 := Lib.hid hs
  clear hs hb
  try clear k0 k1 k2 k3
  go_wp2_with (refine wpList_store_row rfl _ _ _ rfl g #[.int .i64 2, .int .i64 4, .int .i64 0, .slice A3 2 c3] rfl rfl 24 _ HGv2.out HSb.out rfl (one_rows (slv_one HSv2.out) _ _ _) ?_; obtain ⟨W3, hW⟩ : ∃ W3, W3 = v2.setRow g #[.int .i64 2, .int .i64 4, .int .i64 0, .slice A3 2 c3] := ⟨_, rfl⟩; have HGW3 : Hid (W3.heap[g]? = some (.cells #[.int .i64 2, .int .i64 4, .int .i64 0, .slice A3 2 c3] 24 (0, 0))) := Lib.hid (by rw [hW]; exact setRow_heap _ _ _ _ _ _ HGv2.out); have HBW3 : Hid (Below w.heap.size w W3) := Lib.hid (by rw [hW]; exact below_setRow HBv2.out hz1); have HSW3 := Lib.hid (hW ▸ slv_setRow (cs := #[.int .i64 2, .int .i64 4, .int .i64 0, .slice A3 2 c3]) HSv2.out HGv2.out : SlV W3 _ _); rw [← hW]; clear hW; have k0 := cell_of_row _ _ 0 _ _ _ HGW3.out; have k1 := cell_of_row _ _ 1 _ _ _ HGW3.out; have k2 := cell_of_row _ _ 2 _ _ _ HGW3.out; have k3 := cell_of_row _ _ 3 _ _ _ HGW3.out; have kl : g < W3.heap.size := (Array.getElem?_eq_some_iff.1 HGW3.out).1; simp at k0 k1 k2 k3)
  refine (call_c _ _ HSW3.out).mono ?_
  rintro e v3 ⟨⟨A4, c4, rfl, hs⟩, hb⟩
  have HBv3 := Lib.hid (HBW3.out.trans (hb.mono HBW3.out.size))
  have HGv3 := Lib.hid ((hb.block g (Array.getElem?_eq_some_iff.1 HGW3.out).1).trans HGW3.out)
  have HSv3 := Lib.hid hs
  clear hs hb
  try clear k0 k1 k2 k3
  go_wp2_with (refine wpList_store_row rfl _ _ _ rfl g #[.int .i64 2, .int .i64 6, .int .i64 1, .slice A4 2 c4] rfl rfl 24 _ HGv3.out HSb.out rfl (one_rows (slv_one HSv3.out) _ _ _) ?_; obtain ⟨W4, hW⟩ : ∃ W4, W4 = v3.setRow g #[.int .i64 2, .int .i64 6, .int .i64 1, .slice A4 2 c4] := ⟨_, rfl⟩; have HGW4 : Hid (W4.heap[g]? = some (.cells #[.int .i64 2, .int .i64 6, .int .i64 1, .slice A4 2 c4] 24 (0, 0))) := Lib.hid (by rw [hW]; exact setRow_heap _ _ _ _ _ _ HGv3.out); have HBW4 : Hid (Below w.heap.size w W4) := Lib.hid (by rw [hW]; exact below_setRow HBv3.out hz1); have HSW4 := Lib.hid (hW ▸ slv_setRow (cs := #[.int .i64 2, .int .i64 6, .int .i64 1, .slice A4 2 c4]) HSv3.out HGv3.out : SlV W4 _ _); rw [← hW]; clear hW; have k0 := cell_of_row _ _ 0 _ _ _ HGW4.out; have k1 := cell_of_row _ _ 1 _ _ _ HGW4.out; have k2 := cell_of_row _ _ 2 _ _ _ HGW4.out; have k3 := cell_of_row _ _ 3 _ _ _ HGW4.out; have kl : g < W4.heap.size := (Array.getElem?_eq_some_iff.1 HGW4.out).1; simp at k0 k1 k2 k3)
  clear k0 k1 k2 k3
  refine (lits_any _ _ _ _ _).mono ?_
  rintro e v5 ⟨⟨Ax, cx, rfl, hs⟩, hb⟩
  have HX5 : Hid (SlV v5 (.slice Ax 2 cx) [(ka, 4), (kb, 2)]) := Lib.hid hs
  have HB5 : Hid (Below W4.heap.size W4 v5) := Lib.hid hb
  clear hs hb
  go_wp2_with fail
  refine (lits_any _ _ _ _ _).mono ?_
  rintro e v6 ⟨⟨Ay, cy, rfl, hs⟩, hb⟩
  have HX6 := Lib.hid (HX5.out.below hb)
  have HY6 : Hid (SlV v6 (.slice Ay 2 cy) [(kb, 1), (kc, 3)]) := Lib.hid hs
  have HB6 : Hid (Below W4.heap.size W4 v6) := Lib.hid (HB5.out.trans (hb.mono HB5.out.size))
  clear hs hb
  go_wp2_with fail
  refine (call_m _ _ _ HX6.out HY6.out).mono ?_
  rintro e v7 ⟨⟨Am, cm, rfl, hs⟩, hb⟩
  have HB7 : Hid (Below W4.heap.size W4 v7) := Lib.hid (HB6.out.trans (hb.mono HB6.out.size))
  have HM7 : Hid (SlV v7 (.slice Am 1 cm) [(ka, 1)]) := Lib.hid hs
  clear hs hb HX5 HX6 HY6 HB5 HB6
  obtain ⟨W7, hW7⟩ : ∃ W7, W7 = v7.alloc (.cells #[.int .i64 2, .int .i64 10, .int .i64 3, .slice Am 1 cm] 24) := ⟨_, rfl⟩
  have HB77 : Hid (Below v7.heap.size v7 W7) := Lib.hid (by rw [hW7]; exact (Below.refl _ _).alloc (Nat.le_refl _) _)
  have HBW7 : Hid (Below W4.heap.size W4 W7) := Lib.hid (HB7.out.trans (HB77.out.mono HB7.out.size))
  have HGm : Hid (W7.heap[v7.heap.size]? = some (.cells #[.int .i64 2, .int .i64 10, .int .i64 3, .slice Am 1 cm] 24 (0, 0))) := Lib.hid (by rw [hW7]; exact Deep.blk_alloc_new _ _)
  have HG7 : Hid (W7.heap[g]? = some (.cells #[.int .i64 2, .int .i64 6, .int .i64 1, .slice A4 2 c4] 24 (0, 0))) := Lib.hid ((HBW7.out.block g (Array.getElem?_eq_some_iff.1 HGW4.out).1).trans HGW4.out)
  have HM77 := Lib.hid (HM7.out.below HB77.out)
  obtain ⟨_, _, em, _, _, hCm⟩ := id HM77.out
  injection em with em1 em2 em3
  subst em1
  obtain ⟨b, off, rfl, hbl, e0, e1⟩ := hCm.at 0 (by simp)
  rw [Nat.zero_mul, Nat.add_zero] at e0 e1
  replace e0 : W7.cell? ⟨b, off, none⟩ = some (.string ka) := e0
  replace e1 : W7.cell? ⟨b, off + 1, none⟩ = some (.int .i64 1) := e1
  have hbm : b < W7.heap.size := hbl
  have HSx := Lib.hid (HSW4.out.below HBW7.out)
  obtain ⟨h, hh⟩ : ∃ h, h = v7.heap.size := ⟨_, rfl⟩
  have HW7 := Lib.hid hW7
  have HH := Lib.hid hh
  rw [← hh] at HGm
  have E0 := Lib.hid e0
  have E1 := Lib.hid e1
  clear hW7 hh hCm em2 em3 e0 e1
  go_wp2_with fail
  rw [← HW7.out, ← HH.out]
  have e0 := E0.out
  have e1 := E1.out
  have HCl : Hid (∀ W, Below W7.heap.size W7 W → W.cell? ⟨g, 1, none⟩ = some (.int .i64 6) ∧ W.cell? ⟨g, 2, none⟩ = some (.int .i64 1) ∧ W.cell? ⟨g, 3, none⟩ = some (.slice A4 2 c4) ∧ W.cell? ⟨h, 2, none⟩ = some (.int .i64 3) ∧ W.cell? ⟨h, 3, none⟩ = some (.slice (some ⟨b, off, none⟩) 1 cm) ∧ W.cell? ⟨b, off, none⟩ = some (.string ka) ∧ W.cell? ⟨b, off + 1, none⟩ = some (.int .i64 1)) := Lib.hid (fun W hb => by
    have h1 := (hb.block g (Array.getElem?_eq_some_iff.1 HG7.out).1).trans HG7.out
    have h2 := (hb.block h (Array.getElem?_eq_some_iff.1 HGm.out).1).trans HGm.out
    exact ⟨cell_of_row _ _ 1 _ _ _ h1, cell_of_row _ _ 2 _ _ _ h1, cell_of_row _ _ 3 _ _ _ h1, cell_of_row _ _ 2 _ _ _ h2, cell_of_row _ _ 3 _ _ _ h2, (hb.cell (p := ⟨b, off, none⟩) hbm).trans e0, (hb.cell (p := ⟨b, off + 1, none⟩) hbm).trans e1⟩)
  have HDw : Hid (∀ n, Below W7.heap.size W7 (W7.drewN n)) := Lib.hid (fun n => below_drewN (Below.refl _ _) n)
  have HSm := Lib.hid (fun W v u h1 h2 => same_any v u [(ka, 2), (kc, 1)] [(ka, 2), (kc, 1)] (by simp) W h1 h2)
  clear e0 e1
  go_region_held3 (fun W => W.cell? ⟨g, 1, none⟩ = some (.int .i64 6) ∧ W.cell? ⟨g, 2, none⟩ = some (.int .i64 1) ∧ W.cell? ⟨g, 3, none⟩ = some (.slice A4 2 c4) ∧ W.cell? ⟨h, 2, none⟩ = some (.int .i64 3) ∧ W.cell? ⟨h, 3, none⟩ = some (.slice (some ⟨b, off, none⟩) 1 cm) ∧ W.cell? ⟨b, off, none⟩ = some (.string ⟨#[97]⟩) ∧ W.cell? ⟨b, off + 1, none⟩ = some (.int .i64 1))
    (first | exact HCl.out _ HB9.out | exact HCl.out _ HB8.out | exact HCl.out _ (HDw.out _))
    ((first
      | (go_at_call 37; (refine (lits_any _ _ _ _ _).mono ?_); rintro e v8 ⟨⟨Az, cz, rfl, hs⟩, hb⟩; have HB8 := Lib.hid ((HDw.out _).trans (hb.mono (HDw.out _).size)); have HZ8 : Hid (SlV v8 (.slice Az 2 cz) [(ka, 2), (kc, 1)]) := Lib.hid hs; clear hs hb)
      | (go_at_call 32; (refine (HSm.out _ _ _ (HSx.out.below HB8.out) HZ8.out).mono ?_); rintro e v9 ⟨rfl, hb⟩; have HB9 := Lib.hid (HB8.out.trans (hb.mono HB8.out.size)); clear hb)
      | fail))
  go_wp2_with fail
  go_ret
  exact ⟨by first | rfl | simp, (HBW4.out.trans (HBW7.out.mono HBW4.out.size)).trans (HB9.out.mono (Nat.le_trans HBW4.out.size HBW7.out.size))⟩
end Go.Proofs.Ytnpjakgdfjaglaa
