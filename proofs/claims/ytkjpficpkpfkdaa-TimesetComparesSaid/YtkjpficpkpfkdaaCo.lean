/- The reference's Combine (written by wip/bin/gen_co.py). -/
import Derived.Test.YtkjpficpkpfkdaaBn
namespace Go.Proofs.Ytkjpficpkpfkdaa
open Go.ChangeShapes Go.WideShapes Go.ChangeAt Go.RowKit Ts

theorem fl_bd (a b : List Iv) (v : Int) (h : Bd v a ∨ Bd v b) : v ∈ bds (fl (a ++ b)) := by
  rw [bds_mem]
  unfold fl
  rcases h with ⟨x, hx, h⟩ | ⟨x, hx, h⟩
  · exact List.mem_flatMap.2 ⟨x, List.mem_append_left _ hx, by rcases h with h | h <;> simp [h]⟩
  · exact List.mem_flatMap.2 ⟨x, List.mem_append_right _ hx, by rcases h with h | h <;> simp [h]⟩
theorem below_drewN {B : Nat} {w w' : World} (h : Below B w w') (n : Nat) : Below B w (w'.drewN n) := ⟨h.os, h.tape, h.output, h.size, h.block⟩
theorem bds_len (a b : List Iv) : (bds (fl (a ++ b))).length ≤ 2 * (a.length + b.length) := by
  have h := bdk_len (fl (a ++ b)) (fl (a ++ b)).length
  rw [bdk_all, fl_len, List.length_append] at h
  exact h
set_option maxRecDepth 100000 in
set_option maxHeartbeats 4000000 in
theorem ref_comb1 {va vb : Value} {a b : List Iv} (ha : a.length ≤ 1000) (hb : b.length ≤ 1000) (w : World) (hRa : Sl w va a) (hRb : Sl w vb b) :
    Calls Try.prog 21 #[.int .i64 1, va, vb] w fun e w' => (∃ r, e = .returned r ∧ Sl w' r (ofL (segs (fun t => orF (has t a) (has t b)) (bds (fl (a ++ b)))))) ∧ Below w.heap.size w w' := by
  obtain ⟨i0, hi0, hz0, hz1, hz2⟩ := info_parts info_iv
  have Hi0 := Lib.hid hi0
  have Hz0 := Lib.hid hz0
  have Hz1 := Lib.hid hz1
  have Hz2 := Lib.hid hz2
  have H0 := Lib.hid (ref_bounds ha hb w hRa hRb)
  have hl := bds_len a b
  have HSa := Lib.hid hRa
  have HSb := Lib.hid hRb
  obtain ⟨A, c, rfl, _, _, _, hRa⟩ := hRa
  obtain ⟨B, d, rfl, _, _, _, hRb⟩ := hRb
  obtain ⟨G, hG⟩ : ∃ G, G = bds (fl (a ++ b)) := ⟨_, rfl⟩
  rw [← hG] at H0 hl ⊢
  obtain ⟨keep, hkeep⟩ : ∃ keep : Int → Bool, keep = fun t => orF (has t a) (has t b) := ⟨_, rfl⟩
  rw [← hkeep]
  have HKeep := Lib.hid hkeep
  have HAll := Lib.hid (sgk_all keep G)
  clear hi0 hz0 hz1 hz2 hRa hRb hG hkeep
  go_enter Try.func21, Try.ntmps21
  go_wp2_with fail
  refine H0.out.mono ?_
  rintro e w1 ⟨⟨r, rfl, hown⟩, hbel⟩
  obtain ⟨A3, c3, rfl, hnc3, hR3, _⟩ := rs_ownn hown
  have HR3 := Lib.hid hR3
  have HB1 := Lib.hid hbel
  have HSa1 := Lib.hid (HSa.out.below hbel)
  have HSb1 := Lib.hid (HSb.out.below hbel)
  clear hown hR3 hbel HSa HSb
  go_wp2_with fail
  go_loopw [8, 9] (fun u iv wr => ∃ j : Nat, (j + 1 ≤ G.length ∨ j = 0) ∧ iv = .int .i64 (j : Int) ∧ Hid (wr.ownsRow w1.heap.size 25 2 u (sgk keep G j).length (ivCells (sgk keep G j))) ∧ Hid (Below w1.heap.size w1 wr)) (fun _ iv _ => G.length - (intOf iv).toNat)
  case atStart => exact ⟨0, .inr rfl, rfl, Lib.hid ⟨rfl, Or.inl ⟨rfl, rfl⟩⟩, Lib.hid (Below.refl _ _)⟩
  case round =>
    obtain ⟨j, hj, rfl, HO, HC⟩ := hrel
    have hw1 : IntKind.i64.wrap ((j : Int) + 1) = (j : Int) + 1 := by simp only [IntKind.wrap_i64]; omega
    by_cases hlt : j + 1 < G.length
    · have hs := sgk_succ keep G j hlt
      have hgl := sgk_len keep G j
      obtain ⟨J, hJ⟩ : ∃ J, J = sgk keep G j := ⟨_, rfl⟩
      rw [← hJ] at HO hs hgl
      obtain ⟨g, off, rfl, hg, d0⟩ := num_at (HR3.out.below HC.out) j (by omega)
      obtain ⟨g', off', e, _, d1⟩ := num_at (HR3.out.below HC.out) (j + 1) hlt
      simp only [Option.some.injEq, Addr.mk.injEq, and_true] at e
      obtain ⟨rfl, rfl⟩ := e
      obtain ⟨p, hp⟩ : ∃ p, p = G[j] := ⟨_, rfl⟩
      obtain ⟨q, hq⟩ : ∃ q, q = G[j + 1] := ⟨_, rfl⟩
      rw [← hp] at d0 hs
      rw [← hq] at d1 hs
      obtain ⟨x, hx⟩ : ∃ x, x = has p a := ⟨_, rfl⟩
      obtain ⟨y, hy⟩ : ∃ y, y = has p b := ⟨_, rfl⟩
      have hk : keep p = orF x y := by rw [HKeep.out, hx, hy]
      rw [hk] at hs
      have Hx : Hid (∀ n, Calls Try.prog 26 #[.slice A a.length c, .int .i64 p] (wr.drewN n) fun e w'' => e = .returned (.bool x) ∧ ∃ m, w'' = wr.drewN m) := Lib.hid (fun n => by
        have h := HSa1.out.below (below_drewN HC.out n)
        obtain ⟨A', c', e, _, _, _, hR⟩ := h
        injection e with e1 e2 e3
        subst e1 e3
        rw [hx]; exact Calls.quiet_of_same (ref_has A c a (by omega) p _ hR))
      have Hy : Hid (∀ n, Calls Try.prog 26 #[.slice B b.length d, .int .i64 p] (wr.drewN n) fun e w'' => e = .returned (.bool y) ∧ ∃ m, w'' = wr.drewN m) := Lib.hid (fun n => by
        have h := HSb1.out.below (below_drewN HC.out n)
        obtain ⟨A', c', e, _, _, _, hR⟩ := h
        injection e with e1 e2 e3
        subst e1 e3
        rw [hy]; exact Calls.quiet_of_same (ref_has B d b (by omega) p _ hR))
      have hbr : g < wr.heap.size := by have := HC.out.size; omega
      have hj0 : (0 : Int) ≤ (j : Int) := by omega
      have hj1 : (0 : Int) ≤ (j : Int) + 1 := by omega
      have hjl : (j : Int) < (G.length : Int) := by omega
      have hjl2 : (j : Int) + 1 < (G.length : Int) := by omega
      have hj2 : ((j : Int) + 1).toNat = j + 1 := by omega
      clear hp hq hx hy hk hJ
      cases x <;> cases y
      · have E := Lib.hid hs
        clear hs
        go_wp2_with fail
        go_quiet ((first | with_reducible exact Hx.out _ | with_reducible exact Hy.out _))
        obtain ⟨W2, hW2⟩ : ∃ W, W = wr.drewN nq := ⟨_, rfl⟩
        have HO2 : Hid (W2.ownsRow w1.heap.size 25 2 u8 J.length (ivCells J)) := Lib.hid (by rw [hW2]; exact own_belowk HO.out (below_drewN (Below.refl _ _) _))
        have HC2 : Hid (Below w1.heap.size w1 W2) := Lib.hid (by rw [hW2]; exact below_drewN HC.out _)
        have f0 : W2.cell? ⟨g, off + j, none⟩ = some (.int .i64 p) := by rw [hW2]; exact d0
        have f1 : W2.cell? ⟨g, off + (j + 1), none⟩ = some (.int .i64 q) := by rw [hW2]; exact d1
        have hsz : g < W2.heap.size := by rw [hW2]; exact hbr
        rw [← hW2]
        clear hW2 d0 d1 HO HC Hx Hy hbr hg
        (refine (by assumption : ∀ _ _, _ → _) _ _ ?_)
        go_wp2_with fail
        go_roundw
        case rel => exact ⟨j + 1, .inl (by omega), by go_num, Lib.hid (by rw [E.out]; show World.ownsRow _ _ _ _ _ (J ++ []).length (ivCells (J ++ [])); rw [List.append_nil]; exact HO2.out), HC2⟩
        case measure => simp [intOf] <;> omega
      · have E := Lib.hid hs
        clear hs
        go_wp2_with fail
        go_quiet ((first | with_reducible exact Hx.out _ | with_reducible exact Hy.out _))
        obtain ⟨W2, hW2⟩ : ∃ W, W = wr.drewN nq := ⟨_, rfl⟩
        have HO2 : Hid (W2.ownsRow w1.heap.size 25 2 u8 J.length (ivCells J)) := Lib.hid (by rw [hW2]; exact own_belowk HO.out (below_drewN (Below.refl _ _) _))
        have HC2 : Hid (Below w1.heap.size w1 W2) := Lib.hid (by rw [hW2]; exact below_drewN HC.out _)
        have f0 : W2.cell? ⟨g, off + j, none⟩ = some (.int .i64 p) := by rw [hW2]; exact d0
        have f1 : W2.cell? ⟨g, off + (j + 1), none⟩ = some (.int .i64 q) := by rw [hW2]; exact d1
        have hsz : g < W2.heap.size := by rw [hW2]; exact hbr
        rw [← hW2]
        clear hW2 d0 d1 HO HC Hx Hy hbr hg
        (refine (by assumption : ∀ _ _, _ → _) _ _ ?_)
        go_wp2_with fail
        go_region_law (refine step_append_sized rfl (.tmp 63) (.tmp 74) 22 rfl w1.heap.size 25 i0 _ 2 16 Try.underlying22 Hi0.out Hz0.out Hz1.out Hz2.out rfl (by decide) u8 J.length (ivCells J) (by simp [Act.eval]) (World.ownsRow.alloc HO2.out _) (some ⟨W2.heap.size, 0, none⟩) 1 1 (by simp [Act.eval]) [.int .i64 p, .int .i64 q] rfl (fun h => by cases h) (cells_two (Deep.blk_alloc_new W2 _)) (by simp [Value.oneCell']) (by omega) (by omega) (by have := HC2.out.size; simp; omega) ?_; intro v3 w4 hown3 hg3; have HC3 := Lib.hid (below_grownk (B := w1.heap.size) (a := w1) (Below.drew (Below.alloc HC2.out HC2.out.size _)) (World.ownsRow.alloc HO2.out _) hg3 (Nat.le_refl _) (Nat.le_refl _)); have HO3 := Lib.hid hown3; clear hown3 hg3)
        all_goals
          go_wp2_with fail
          go_roundw
          case rel => exact ⟨j + 1, .inl (by omega), by go_num, Lib.hid (by rw [E.out]; show World.ownsRow _ _ _ _ _ (J ++ [(p, q)]).length (ivCells (J ++ [(p, q)])); rw [iv_snoc, List.length_append]; exact HO3.out), HC3⟩
          case measure => simp [intOf] <;> omega
      · have E := Lib.hid hs
        clear hs
        go_wp2_with fail
        go_quiet ((first | with_reducible exact Hx.out _ | with_reducible exact Hy.out _))
        obtain ⟨W2, hW2⟩ : ∃ W, W = wr.drewN nq := ⟨_, rfl⟩
        have HO2 : Hid (W2.ownsRow w1.heap.size 25 2 u8 J.length (ivCells J)) := Lib.hid (by rw [hW2]; exact own_belowk HO.out (below_drewN (Below.refl _ _) _))
        have HC2 : Hid (Below w1.heap.size w1 W2) := Lib.hid (by rw [hW2]; exact below_drewN HC.out _)
        have f0 : W2.cell? ⟨g, off + j, none⟩ = some (.int .i64 p) := by rw [hW2]; exact d0
        have f1 : W2.cell? ⟨g, off + (j + 1), none⟩ = some (.int .i64 q) := by rw [hW2]; exact d1
        have hsz : g < W2.heap.size := by rw [hW2]; exact hbr
        rw [← hW2]
        clear hW2 d0 d1 HO HC Hx Hy hbr hg
        (refine (by assumption : ∀ _ _, _ → _) _ _ ?_)
        go_wp2_with fail
        go_region_law (refine step_append_sized rfl (.tmp 63) (.tmp 74) 22 rfl w1.heap.size 25 i0 _ 2 16 Try.underlying22 Hi0.out Hz0.out Hz1.out Hz2.out rfl (by decide) u8 J.length (ivCells J) (by simp [Act.eval]) (World.ownsRow.alloc HO2.out _) (some ⟨W2.heap.size, 0, none⟩) 1 1 (by simp [Act.eval]) [.int .i64 p, .int .i64 q] rfl (fun h => by cases h) (cells_two (Deep.blk_alloc_new W2 _)) (by simp [Value.oneCell']) (by omega) (by omega) (by have := HC2.out.size; simp; omega) ?_; intro v3 w4 hown3 hg3; have HC3 := Lib.hid (below_grownk (B := w1.heap.size) (a := w1) (Below.drew (Below.alloc HC2.out HC2.out.size _)) (World.ownsRow.alloc HO2.out _) hg3 (Nat.le_refl _) (Nat.le_refl _)); have HO3 := Lib.hid hown3; clear hown3 hg3)
        all_goals
          go_wp2_with fail
          go_roundw
          case rel => exact ⟨j + 1, .inl (by omega), by go_num, Lib.hid (by rw [E.out]; show World.ownsRow _ _ _ _ _ (J ++ [(p, q)]).length (ivCells (J ++ [(p, q)])); rw [iv_snoc, List.length_append]; exact HO3.out), HC3⟩
          case measure => simp [intOf] <;> omega
      · have E := Lib.hid hs
        clear hs
        go_wp2_with fail
        go_quiet ((first | with_reducible exact Hx.out _ | with_reducible exact Hy.out _))
        obtain ⟨W2, hW2⟩ : ∃ W, W = wr.drewN nq := ⟨_, rfl⟩
        have HO2 : Hid (W2.ownsRow w1.heap.size 25 2 u8 J.length (ivCells J)) := Lib.hid (by rw [hW2]; exact own_belowk HO.out (below_drewN (Below.refl _ _) _))
        have HC2 : Hid (Below w1.heap.size w1 W2) := Lib.hid (by rw [hW2]; exact below_drewN HC.out _)
        have f0 : W2.cell? ⟨g, off + j, none⟩ = some (.int .i64 p) := by rw [hW2]; exact d0
        have f1 : W2.cell? ⟨g, off + (j + 1), none⟩ = some (.int .i64 q) := by rw [hW2]; exact d1
        have hsz : g < W2.heap.size := by rw [hW2]; exact hbr
        rw [← hW2]
        clear hW2 d0 d1 HO HC Hx Hy hbr hg
        (refine (by assumption : ∀ _ _, _ → _) _ _ ?_)
        go_wp2_with fail
        go_region_law (refine step_append_sized rfl (.tmp 63) (.tmp 74) 22 rfl w1.heap.size 25 i0 _ 2 16 Try.underlying22 Hi0.out Hz0.out Hz1.out Hz2.out rfl (by decide) u8 J.length (ivCells J) (by simp [Act.eval]) (World.ownsRow.alloc HO2.out _) (some ⟨W2.heap.size, 0, none⟩) 1 1 (by simp [Act.eval]) [.int .i64 p, .int .i64 q] rfl (fun h => by cases h) (cells_two (Deep.blk_alloc_new W2 _)) (by simp [Value.oneCell']) (by omega) (by omega) (by have := HC2.out.size; simp; omega) ?_; intro v3 w4 hown3 hg3; have HC3 := Lib.hid (below_grownk (B := w1.heap.size) (a := w1) (Below.drew (Below.alloc HC2.out HC2.out.size _)) (World.ownsRow.alloc HO2.out _) hg3 (Nat.le_refl _) (Nat.le_refl _)); have HO3 := Lib.hid hown3; clear hown3 hg3)
        all_goals
          go_wp2_with fail
          go_roundw
          case rel => exact ⟨j + 1, .inl (by omega), by go_num, Lib.hid (by rw [E.out]; show World.ownsRow _ _ _ _ _ (J ++ [(p, q)]).length (ivCells (J ++ [(p, q)])); rw [iv_snoc, List.length_append]; exact HO3.out), HC3⟩
          case measure => simp [intOf] <;> omega

    · have hjl2 : ¬ (j : Int) + 1 < (G.length : Int) := by omega
      obtain ⟨j', hj'⟩ : ∃ j', j' = G.length - 1 := ⟨_, rfl⟩
      have hall := HAll.out
      rw [← hj'] at hall
      obtain rfl : j = j' := by omega
      rw [hall] at HO
      have hsl : (segs keep G).length ≤ j := by rw [← hall]; exact sgk_len keep G _
      obtain ⟨M, hM⟩ : ∃ M, M = segs keep G := ⟨_, rfl⟩
      have HM := Lib.hid hM
      rw [← hM] at HO hsl
      obtain ⟨A5, c5, rfl, _, _, _, hRM⟩ := sl_own HO.out
      have Hof := Lib.hid (ref_of A5 c5 M (by omega) wr hRM)
      clear hM hRM hj' hall
      go_wp2_with fail
      refine Hof.out.mono ?_
      rintro e w2 ⟨⟨r, rfl, hown⟩, hb⟩
      have HO2 := Lib.hid hown
      have HB := HB1.out.trans (HC.out.mono HB1.out.size)
      have HB2 := Lib.hid (HB.trans (hb.mono HB.size))
      clear hown hb HB
      go_wp2_with fail
      go_ret
      rw [← HM.out]
      exact ⟨⟨_, rfl, sl_own HO2.out⟩, HB2.out⟩
set_option maxRecDepth 100000 in
set_option maxHeartbeats 4000000 in
theorem ref_comb2 {va vb : Value} {a b : List Iv} (ha : a.length ≤ 1000) (hb : b.length ≤ 1000) (w : World) (hRa : Sl w va a) (hRb : Sl w vb b) :
    Calls Try.prog 21 #[.int .i64 2, va, vb] w fun e w' => (∃ r, e = .returned r ∧ Sl w' r (ofL (segs (fun t => andF (has t a) (has t b)) (bds (fl (a ++ b)))))) ∧ Below w.heap.size w w' := by
  obtain ⟨i0, hi0, hz0, hz1, hz2⟩ := info_parts info_iv
  have Hi0 := Lib.hid hi0
  have Hz0 := Lib.hid hz0
  have Hz1 := Lib.hid hz1
  have Hz2 := Lib.hid hz2
  have H0 := Lib.hid (ref_bounds ha hb w hRa hRb)
  have hl := bds_len a b
  have HSa := Lib.hid hRa
  have HSb := Lib.hid hRb
  obtain ⟨A, c, rfl, _, _, _, hRa⟩ := hRa
  obtain ⟨B, d, rfl, _, _, _, hRb⟩ := hRb
  obtain ⟨G, hG⟩ : ∃ G, G = bds (fl (a ++ b)) := ⟨_, rfl⟩
  rw [← hG] at H0 hl ⊢
  obtain ⟨keep, hkeep⟩ : ∃ keep : Int → Bool, keep = fun t => andF (has t a) (has t b) := ⟨_, rfl⟩
  rw [← hkeep]
  have HKeep := Lib.hid hkeep
  have HAll := Lib.hid (sgk_all keep G)
  clear hi0 hz0 hz1 hz2 hRa hRb hG hkeep
  go_enter Try.func21, Try.ntmps21
  go_wp2_with fail
  refine H0.out.mono ?_
  rintro e w1 ⟨⟨r, rfl, hown⟩, hbel⟩
  obtain ⟨A3, c3, rfl, hnc3, hR3, _⟩ := rs_ownn hown
  have HR3 := Lib.hid hR3
  have HB1 := Lib.hid hbel
  have HSa1 := Lib.hid (HSa.out.below hbel)
  have HSb1 := Lib.hid (HSb.out.below hbel)
  clear hown hR3 hbel HSa HSb
  go_wp2_with fail
  go_loopw [8, 9] (fun u iv wr => ∃ j : Nat, (j + 1 ≤ G.length ∨ j = 0) ∧ iv = .int .i64 (j : Int) ∧ Hid (wr.ownsRow w1.heap.size 25 2 u (sgk keep G j).length (ivCells (sgk keep G j))) ∧ Hid (Below w1.heap.size w1 wr)) (fun _ iv _ => G.length - (intOf iv).toNat)
  case atStart => exact ⟨0, .inr rfl, rfl, Lib.hid ⟨rfl, Or.inl ⟨rfl, rfl⟩⟩, Lib.hid (Below.refl _ _)⟩
  case round =>
    obtain ⟨j, hj, rfl, HO, HC⟩ := hrel
    have hw1 : IntKind.i64.wrap ((j : Int) + 1) = (j : Int) + 1 := by simp only [IntKind.wrap_i64]; omega
    by_cases hlt : j + 1 < G.length
    · have hs := sgk_succ keep G j hlt
      have hgl := sgk_len keep G j
      obtain ⟨J, hJ⟩ : ∃ J, J = sgk keep G j := ⟨_, rfl⟩
      rw [← hJ] at HO hs hgl
      obtain ⟨g, off, rfl, hg, d0⟩ := num_at (HR3.out.below HC.out) j (by omega)
      obtain ⟨g', off', e, _, d1⟩ := num_at (HR3.out.below HC.out) (j + 1) hlt
      simp only [Option.some.injEq, Addr.mk.injEq, and_true] at e
      obtain ⟨rfl, rfl⟩ := e
      obtain ⟨p, hp⟩ : ∃ p, p = G[j] := ⟨_, rfl⟩
      obtain ⟨q, hq⟩ : ∃ q, q = G[j + 1] := ⟨_, rfl⟩
      rw [← hp] at d0 hs
      rw [← hq] at d1 hs
      obtain ⟨x, hx⟩ : ∃ x, x = has p a := ⟨_, rfl⟩
      obtain ⟨y, hy⟩ : ∃ y, y = has p b := ⟨_, rfl⟩
      have hk : keep p = andF x y := by rw [HKeep.out, hx, hy]
      rw [hk] at hs
      have Hx : Hid (∀ n, Calls Try.prog 26 #[.slice A a.length c, .int .i64 p] (wr.drewN n) fun e w'' => e = .returned (.bool x) ∧ ∃ m, w'' = wr.drewN m) := Lib.hid (fun n => by
        have h := HSa1.out.below (below_drewN HC.out n)
        obtain ⟨A', c', e, _, _, _, hR⟩ := h
        injection e with e1 e2 e3
        subst e1 e3
        rw [hx]; exact Calls.quiet_of_same (ref_has A c a (by omega) p _ hR))
      have Hy : Hid (∀ n, Calls Try.prog 26 #[.slice B b.length d, .int .i64 p] (wr.drewN n) fun e w'' => e = .returned (.bool y) ∧ ∃ m, w'' = wr.drewN m) := Lib.hid (fun n => by
        have h := HSb1.out.below (below_drewN HC.out n)
        obtain ⟨A', c', e, _, _, _, hR⟩ := h
        injection e with e1 e2 e3
        subst e1 e3
        rw [hy]; exact Calls.quiet_of_same (ref_has B d b (by omega) p _ hR))
      have hbr : g < wr.heap.size := by have := HC.out.size; omega
      have hj0 : (0 : Int) ≤ (j : Int) := by omega
      have hj1 : (0 : Int) ≤ (j : Int) + 1 := by omega
      have hjl : (j : Int) < (G.length : Int) := by omega
      have hjl2 : (j : Int) + 1 < (G.length : Int) := by omega
      have hj2 : ((j : Int) + 1).toNat = j + 1 := by omega
      clear hp hq hx hy hk hJ
      cases x <;> cases y
      · have E := Lib.hid hs
        clear hs
        go_wp2_with fail
        go_quiet ((first | with_reducible exact Hx.out _ | with_reducible exact Hy.out _))
        obtain ⟨W2, hW2⟩ : ∃ W, W = wr.drewN nq := ⟨_, rfl⟩
        have HO2 : Hid (W2.ownsRow w1.heap.size 25 2 u8 J.length (ivCells J)) := Lib.hid (by rw [hW2]; exact own_belowk HO.out (below_drewN (Below.refl _ _) _))
        have HC2 : Hid (Below w1.heap.size w1 W2) := Lib.hid (by rw [hW2]; exact below_drewN HC.out _)
        have f0 : W2.cell? ⟨g, off + j, none⟩ = some (.int .i64 p) := by rw [hW2]; exact d0
        have f1 : W2.cell? ⟨g, off + (j + 1), none⟩ = some (.int .i64 q) := by rw [hW2]; exact d1
        have hsz : g < W2.heap.size := by rw [hW2]; exact hbr
        rw [← hW2]
        clear hW2 d0 d1 HO HC Hx Hy hbr hg
        (refine (by assumption : ∀ _ _, _ → _) _ _ ?_)
        go_wp2_with fail
        go_roundw
        case rel => exact ⟨j + 1, .inl (by omega), by go_num, Lib.hid (by rw [E.out]; show World.ownsRow _ _ _ _ _ (J ++ []).length (ivCells (J ++ [])); rw [List.append_nil]; exact HO2.out), HC2⟩
        case measure => simp [intOf] <;> omega
      · have E := Lib.hid hs
        clear hs
        go_wp2_with fail
        go_quiet ((first | with_reducible exact Hx.out _ | with_reducible exact Hy.out _))
        obtain ⟨W2, hW2⟩ : ∃ W, W = wr.drewN nq := ⟨_, rfl⟩
        have HO2 : Hid (W2.ownsRow w1.heap.size 25 2 u8 J.length (ivCells J)) := Lib.hid (by rw [hW2]; exact own_belowk HO.out (below_drewN (Below.refl _ _) _))
        have HC2 : Hid (Below w1.heap.size w1 W2) := Lib.hid (by rw [hW2]; exact below_drewN HC.out _)
        have f0 : W2.cell? ⟨g, off + j, none⟩ = some (.int .i64 p) := by rw [hW2]; exact d0
        have f1 : W2.cell? ⟨g, off + (j + 1), none⟩ = some (.int .i64 q) := by rw [hW2]; exact d1
        have hsz : g < W2.heap.size := by rw [hW2]; exact hbr
        rw [← hW2]
        clear hW2 d0 d1 HO HC Hx Hy hbr hg
        (refine (by assumption : ∀ _ _, _ → _) _ _ ?_)
        go_wp2_with fail
        go_roundw
        case rel => exact ⟨j + 1, .inl (by omega), by go_num, Lib.hid (by rw [E.out]; show World.ownsRow _ _ _ _ _ (J ++ []).length (ivCells (J ++ [])); rw [List.append_nil]; exact HO2.out), HC2⟩
        case measure => simp [intOf] <;> omega
      · have E := Lib.hid hs
        clear hs
        go_wp2_with fail
        go_quiet ((first | with_reducible exact Hx.out _ | with_reducible exact Hy.out _))
        obtain ⟨W2, hW2⟩ : ∃ W, W = wr.drewN nq := ⟨_, rfl⟩
        have HO2 : Hid (W2.ownsRow w1.heap.size 25 2 u8 J.length (ivCells J)) := Lib.hid (by rw [hW2]; exact own_belowk HO.out (below_drewN (Below.refl _ _) _))
        have HC2 : Hid (Below w1.heap.size w1 W2) := Lib.hid (by rw [hW2]; exact below_drewN HC.out _)
        have f0 : W2.cell? ⟨g, off + j, none⟩ = some (.int .i64 p) := by rw [hW2]; exact d0
        have f1 : W2.cell? ⟨g, off + (j + 1), none⟩ = some (.int .i64 q) := by rw [hW2]; exact d1
        have hsz : g < W2.heap.size := by rw [hW2]; exact hbr
        rw [← hW2]
        clear hW2 d0 d1 HO HC Hx Hy hbr hg
        (refine (by assumption : ∀ _ _, _ → _) _ _ ?_)
        go_wp2_with fail
        go_roundw
        case rel => exact ⟨j + 1, .inl (by omega), by go_num, Lib.hid (by rw [E.out]; show World.ownsRow _ _ _ _ _ (J ++ []).length (ivCells (J ++ [])); rw [List.append_nil]; exact HO2.out), HC2⟩
        case measure => simp [intOf] <;> omega
      · have E := Lib.hid hs
        clear hs
        go_wp2_with fail
        go_quiet ((first | with_reducible exact Hx.out _ | with_reducible exact Hy.out _))
        obtain ⟨W2, hW2⟩ : ∃ W, W = wr.drewN nq := ⟨_, rfl⟩
        have HO2 : Hid (W2.ownsRow w1.heap.size 25 2 u8 J.length (ivCells J)) := Lib.hid (by rw [hW2]; exact own_belowk HO.out (below_drewN (Below.refl _ _) _))
        have HC2 : Hid (Below w1.heap.size w1 W2) := Lib.hid (by rw [hW2]; exact below_drewN HC.out _)
        have f0 : W2.cell? ⟨g, off + j, none⟩ = some (.int .i64 p) := by rw [hW2]; exact d0
        have f1 : W2.cell? ⟨g, off + (j + 1), none⟩ = some (.int .i64 q) := by rw [hW2]; exact d1
        have hsz : g < W2.heap.size := by rw [hW2]; exact hbr
        rw [← hW2]
        clear hW2 d0 d1 HO HC Hx Hy hbr hg
        (refine (by assumption : ∀ _ _, _ → _) _ _ ?_)
        go_wp2_with fail
        go_region_law (refine step_append_sized rfl (.tmp 63) (.tmp 74) 22 rfl w1.heap.size 25 i0 _ 2 16 Try.underlying22 Hi0.out Hz0.out Hz1.out Hz2.out rfl (by decide) u8 J.length (ivCells J) (by simp [Act.eval]) (World.ownsRow.alloc HO2.out _) (some ⟨W2.heap.size, 0, none⟩) 1 1 (by simp [Act.eval]) [.int .i64 p, .int .i64 q] rfl (fun h => by cases h) (cells_two (Deep.blk_alloc_new W2 _)) (by simp [Value.oneCell']) (by omega) (by omega) (by have := HC2.out.size; simp; omega) ?_; intro v3 w4 hown3 hg3; have HC3 := Lib.hid (below_grownk (B := w1.heap.size) (a := w1) (Below.drew (Below.alloc HC2.out HC2.out.size _)) (World.ownsRow.alloc HO2.out _) hg3 (Nat.le_refl _) (Nat.le_refl _)); have HO3 := Lib.hid hown3; clear hown3 hg3)
        all_goals
          go_wp2_with fail
          go_roundw
          case rel => exact ⟨j + 1, .inl (by omega), by go_num, Lib.hid (by rw [E.out]; show World.ownsRow _ _ _ _ _ (J ++ [(p, q)]).length (ivCells (J ++ [(p, q)])); rw [iv_snoc, List.length_append]; exact HO3.out), HC3⟩
          case measure => simp [intOf] <;> omega

    · have hjl2 : ¬ (j : Int) + 1 < (G.length : Int) := by omega
      obtain ⟨j', hj'⟩ : ∃ j', j' = G.length - 1 := ⟨_, rfl⟩
      have hall := HAll.out
      rw [← hj'] at hall
      obtain rfl : j = j' := by omega
      rw [hall] at HO
      have hsl : (segs keep G).length ≤ j := by rw [← hall]; exact sgk_len keep G _
      obtain ⟨M, hM⟩ : ∃ M, M = segs keep G := ⟨_, rfl⟩
      have HM := Lib.hid hM
      rw [← hM] at HO hsl
      obtain ⟨A5, c5, rfl, _, _, _, hRM⟩ := sl_own HO.out
      have Hof := Lib.hid (ref_of A5 c5 M (by omega) wr hRM)
      clear hM hRM hj' hall
      go_wp2_with fail
      refine Hof.out.mono ?_
      rintro e w2 ⟨⟨r, rfl, hown⟩, hb⟩
      have HO2 := Lib.hid hown
      have HB := HB1.out.trans (HC.out.mono HB1.out.size)
      have HB2 := Lib.hid (HB.trans (hb.mono HB.size))
      clear hown hb HB
      go_wp2_with fail
      go_ret
      rw [← HM.out]
      exact ⟨⟨_, rfl, sl_own HO2.out⟩, HB2.out⟩
set_option maxRecDepth 100000 in
set_option maxHeartbeats 4000000 in
theorem ref_comb3 {va vb : Value} {a b : List Iv} (ha : a.length ≤ 1000) (hb : b.length ≤ 1000) (w : World) (hRa : Sl w va a) (hRb : Sl w vb b) :
    Calls Try.prog 21 #[.int .i64 3, va, vb] w fun e w' => (∃ r, e = .returned r ∧ Sl w' r (ofL (segs (fun t => butF (has t a) (has t b)) (bds (fl (a ++ b)))))) ∧ Below w.heap.size w w' := by
  obtain ⟨i0, hi0, hz0, hz1, hz2⟩ := info_parts info_iv
  have Hi0 := Lib.hid hi0
  have Hz0 := Lib.hid hz0
  have Hz1 := Lib.hid hz1
  have Hz2 := Lib.hid hz2
  have H0 := Lib.hid (ref_bounds ha hb w hRa hRb)
  have hl := bds_len a b
  have HSa := Lib.hid hRa
  have HSb := Lib.hid hRb
  obtain ⟨A, c, rfl, _, _, _, hRa⟩ := hRa
  obtain ⟨B, d, rfl, _, _, _, hRb⟩ := hRb
  obtain ⟨G, hG⟩ : ∃ G, G = bds (fl (a ++ b)) := ⟨_, rfl⟩
  rw [← hG] at H0 hl ⊢
  obtain ⟨keep, hkeep⟩ : ∃ keep : Int → Bool, keep = fun t => butF (has t a) (has t b) := ⟨_, rfl⟩
  rw [← hkeep]
  have HKeep := Lib.hid hkeep
  have HAll := Lib.hid (sgk_all keep G)
  clear hi0 hz0 hz1 hz2 hRa hRb hG hkeep
  go_enter Try.func21, Try.ntmps21
  go_wp2_with fail
  refine H0.out.mono ?_
  rintro e w1 ⟨⟨r, rfl, hown⟩, hbel⟩
  obtain ⟨A3, c3, rfl, hnc3, hR3, _⟩ := rs_ownn hown
  have HR3 := Lib.hid hR3
  have HB1 := Lib.hid hbel
  have HSa1 := Lib.hid (HSa.out.below hbel)
  have HSb1 := Lib.hid (HSb.out.below hbel)
  clear hown hR3 hbel HSa HSb
  go_wp2_with fail
  go_loopw [8, 9] (fun u iv wr => ∃ j : Nat, (j + 1 ≤ G.length ∨ j = 0) ∧ iv = .int .i64 (j : Int) ∧ Hid (wr.ownsRow w1.heap.size 25 2 u (sgk keep G j).length (ivCells (sgk keep G j))) ∧ Hid (Below w1.heap.size w1 wr)) (fun _ iv _ => G.length - (intOf iv).toNat)
  case atStart => exact ⟨0, .inr rfl, rfl, Lib.hid ⟨rfl, Or.inl ⟨rfl, rfl⟩⟩, Lib.hid (Below.refl _ _)⟩
  case round =>
    obtain ⟨j, hj, rfl, HO, HC⟩ := hrel
    have hw1 : IntKind.i64.wrap ((j : Int) + 1) = (j : Int) + 1 := by simp only [IntKind.wrap_i64]; omega
    by_cases hlt : j + 1 < G.length
    · have hs := sgk_succ keep G j hlt
      have hgl := sgk_len keep G j
      obtain ⟨J, hJ⟩ : ∃ J, J = sgk keep G j := ⟨_, rfl⟩
      rw [← hJ] at HO hs hgl
      obtain ⟨g, off, rfl, hg, d0⟩ := num_at (HR3.out.below HC.out) j (by omega)
      obtain ⟨g', off', e, _, d1⟩ := num_at (HR3.out.below HC.out) (j + 1) hlt
      simp only [Option.some.injEq, Addr.mk.injEq, and_true] at e
      obtain ⟨rfl, rfl⟩ := e
      obtain ⟨p, hp⟩ : ∃ p, p = G[j] := ⟨_, rfl⟩
      obtain ⟨q, hq⟩ : ∃ q, q = G[j + 1] := ⟨_, rfl⟩
      rw [← hp] at d0 hs
      rw [← hq] at d1 hs
      obtain ⟨x, hx⟩ : ∃ x, x = has p a := ⟨_, rfl⟩
      obtain ⟨y, hy⟩ : ∃ y, y = has p b := ⟨_, rfl⟩
      have hk : keep p = butF x y := by rw [HKeep.out, hx, hy]
      rw [hk] at hs
      have Hx : Hid (∀ n, Calls Try.prog 26 #[.slice A a.length c, .int .i64 p] (wr.drewN n) fun e w'' => e = .returned (.bool x) ∧ ∃ m, w'' = wr.drewN m) := Lib.hid (fun n => by
        have h := HSa1.out.below (below_drewN HC.out n)
        obtain ⟨A', c', e, _, _, _, hR⟩ := h
        injection e with e1 e2 e3
        subst e1 e3
        rw [hx]; exact Calls.quiet_of_same (ref_has A c a (by omega) p _ hR))
      have Hy : Hid (∀ n, Calls Try.prog 26 #[.slice B b.length d, .int .i64 p] (wr.drewN n) fun e w'' => e = .returned (.bool y) ∧ ∃ m, w'' = wr.drewN m) := Lib.hid (fun n => by
        have h := HSb1.out.below (below_drewN HC.out n)
        obtain ⟨A', c', e, _, _, _, hR⟩ := h
        injection e with e1 e2 e3
        subst e1 e3
        rw [hy]; exact Calls.quiet_of_same (ref_has B d b (by omega) p _ hR))
      have hbr : g < wr.heap.size := by have := HC.out.size; omega
      have hj0 : (0 : Int) ≤ (j : Int) := by omega
      have hj1 : (0 : Int) ≤ (j : Int) + 1 := by omega
      have hjl : (j : Int) < (G.length : Int) := by omega
      have hjl2 : (j : Int) + 1 < (G.length : Int) := by omega
      have hj2 : ((j : Int) + 1).toNat = j + 1 := by omega
      clear hp hq hx hy hk hJ
      cases x <;> cases y
      · have E := Lib.hid hs
        clear hs
        go_wp2_with fail
        go_quiet ((first | with_reducible exact Hx.out _ | with_reducible exact Hy.out _))
        obtain ⟨W2, hW2⟩ : ∃ W, W = wr.drewN nq := ⟨_, rfl⟩
        have HO2 : Hid (W2.ownsRow w1.heap.size 25 2 u8 J.length (ivCells J)) := Lib.hid (by rw [hW2]; exact own_belowk HO.out (below_drewN (Below.refl _ _) _))
        have HC2 : Hid (Below w1.heap.size w1 W2) := Lib.hid (by rw [hW2]; exact below_drewN HC.out _)
        have f0 : W2.cell? ⟨g, off + j, none⟩ = some (.int .i64 p) := by rw [hW2]; exact d0
        have f1 : W2.cell? ⟨g, off + (j + 1), none⟩ = some (.int .i64 q) := by rw [hW2]; exact d1
        have hsz : g < W2.heap.size := by rw [hW2]; exact hbr
        rw [← hW2]
        clear hW2 d0 d1 HO HC Hx Hy hbr hg
        (refine (by assumption : ∀ _ _, _ → _) _ _ ?_)
        go_wp2_with fail
        go_roundw
        case rel => exact ⟨j + 1, .inl (by omega), by go_num, Lib.hid (by rw [E.out]; show World.ownsRow _ _ _ _ _ (J ++ []).length (ivCells (J ++ [])); rw [List.append_nil]; exact HO2.out), HC2⟩
        case measure => simp [intOf] <;> omega
      · have E := Lib.hid hs
        clear hs
        go_wp2_with fail
        go_quiet ((first | with_reducible exact Hx.out _ | with_reducible exact Hy.out _))
        obtain ⟨W2, hW2⟩ : ∃ W, W = wr.drewN nq := ⟨_, rfl⟩
        have HO2 : Hid (W2.ownsRow w1.heap.size 25 2 u8 J.length (ivCells J)) := Lib.hid (by rw [hW2]; exact own_belowk HO.out (below_drewN (Below.refl _ _) _))
        have HC2 : Hid (Below w1.heap.size w1 W2) := Lib.hid (by rw [hW2]; exact below_drewN HC.out _)
        have f0 : W2.cell? ⟨g, off + j, none⟩ = some (.int .i64 p) := by rw [hW2]; exact d0
        have f1 : W2.cell? ⟨g, off + (j + 1), none⟩ = some (.int .i64 q) := by rw [hW2]; exact d1
        have hsz : g < W2.heap.size := by rw [hW2]; exact hbr
        rw [← hW2]
        clear hW2 d0 d1 HO HC Hx Hy hbr hg
        (refine (by assumption : ∀ _ _, _ → _) _ _ ?_)
        go_wp2_with fail
        go_roundw
        case rel => exact ⟨j + 1, .inl (by omega), by go_num, Lib.hid (by rw [E.out]; show World.ownsRow _ _ _ _ _ (J ++ []).length (ivCells (J ++ [])); rw [List.append_nil]; exact HO2.out), HC2⟩
        case measure => simp [intOf] <;> omega
      · have E := Lib.hid hs
        clear hs
        go_wp2_with fail
        go_quiet ((first | with_reducible exact Hx.out _ | with_reducible exact Hy.out _))
        obtain ⟨W2, hW2⟩ : ∃ W, W = wr.drewN nq := ⟨_, rfl⟩
        have HO2 : Hid (W2.ownsRow w1.heap.size 25 2 u8 J.length (ivCells J)) := Lib.hid (by rw [hW2]; exact own_belowk HO.out (below_drewN (Below.refl _ _) _))
        have HC2 : Hid (Below w1.heap.size w1 W2) := Lib.hid (by rw [hW2]; exact below_drewN HC.out _)
        have f0 : W2.cell? ⟨g, off + j, none⟩ = some (.int .i64 p) := by rw [hW2]; exact d0
        have f1 : W2.cell? ⟨g, off + (j + 1), none⟩ = some (.int .i64 q) := by rw [hW2]; exact d1
        have hsz : g < W2.heap.size := by rw [hW2]; exact hbr
        rw [← hW2]
        clear hW2 d0 d1 HO HC Hx Hy hbr hg
        (refine (by assumption : ∀ _ _, _ → _) _ _ ?_)
        go_wp2_with fail
        go_region_law (refine step_append_sized rfl (.tmp 63) (.tmp 74) 22 rfl w1.heap.size 25 i0 _ 2 16 Try.underlying22 Hi0.out Hz0.out Hz1.out Hz2.out rfl (by decide) u8 J.length (ivCells J) (by simp [Act.eval]) (World.ownsRow.alloc HO2.out _) (some ⟨W2.heap.size, 0, none⟩) 1 1 (by simp [Act.eval]) [.int .i64 p, .int .i64 q] rfl (fun h => by cases h) (cells_two (Deep.blk_alloc_new W2 _)) (by simp [Value.oneCell']) (by omega) (by omega) (by have := HC2.out.size; simp; omega) ?_; intro v3 w4 hown3 hg3; have HC3 := Lib.hid (below_grownk (B := w1.heap.size) (a := w1) (Below.drew (Below.alloc HC2.out HC2.out.size _)) (World.ownsRow.alloc HO2.out _) hg3 (Nat.le_refl _) (Nat.le_refl _)); have HO3 := Lib.hid hown3; clear hown3 hg3)
        all_goals
          go_wp2_with fail
          go_roundw
          case rel => exact ⟨j + 1, .inl (by omega), by go_num, Lib.hid (by rw [E.out]; show World.ownsRow _ _ _ _ _ (J ++ [(p, q)]).length (ivCells (J ++ [(p, q)])); rw [iv_snoc, List.length_append]; exact HO3.out), HC3⟩
          case measure => simp [intOf] <;> omega
      · have E := Lib.hid hs
        clear hs
        go_wp2_with fail
        go_quiet ((first | with_reducible exact Hx.out _ | with_reducible exact Hy.out _))
        obtain ⟨W2, hW2⟩ : ∃ W, W = wr.drewN nq := ⟨_, rfl⟩
        have HO2 : Hid (W2.ownsRow w1.heap.size 25 2 u8 J.length (ivCells J)) := Lib.hid (by rw [hW2]; exact own_belowk HO.out (below_drewN (Below.refl _ _) _))
        have HC2 : Hid (Below w1.heap.size w1 W2) := Lib.hid (by rw [hW2]; exact below_drewN HC.out _)
        have f0 : W2.cell? ⟨g, off + j, none⟩ = some (.int .i64 p) := by rw [hW2]; exact d0
        have f1 : W2.cell? ⟨g, off + (j + 1), none⟩ = some (.int .i64 q) := by rw [hW2]; exact d1
        have hsz : g < W2.heap.size := by rw [hW2]; exact hbr
        rw [← hW2]
        clear hW2 d0 d1 HO HC Hx Hy hbr hg
        (refine (by assumption : ∀ _ _, _ → _) _ _ ?_)
        go_wp2_with fail
        go_roundw
        case rel => exact ⟨j + 1, .inl (by omega), by go_num, Lib.hid (by rw [E.out]; show World.ownsRow _ _ _ _ _ (J ++ []).length (ivCells (J ++ [])); rw [List.append_nil]; exact HO2.out), HC2⟩
        case measure => simp [intOf] <;> omega

    · have hjl2 : ¬ (j : Int) + 1 < (G.length : Int) := by omega
      obtain ⟨j', hj'⟩ : ∃ j', j' = G.length - 1 := ⟨_, rfl⟩
      have hall := HAll.out
      rw [← hj'] at hall
      obtain rfl : j = j' := by omega
      rw [hall] at HO
      have hsl : (segs keep G).length ≤ j := by rw [← hall]; exact sgk_len keep G _
      obtain ⟨M, hM⟩ : ∃ M, M = segs keep G := ⟨_, rfl⟩
      have HM := Lib.hid hM
      rw [← hM] at HO hsl
      obtain ⟨A5, c5, rfl, _, _, _, hRM⟩ := sl_own HO.out
      have Hof := Lib.hid (ref_of A5 c5 M (by omega) wr hRM)
      clear hM hRM hj' hall
      go_wp2_with fail
      refine Hof.out.mono ?_
      rintro e w2 ⟨⟨r, rfl, hown⟩, hb⟩
      have HO2 := Lib.hid hown
      have HB := HB1.out.trans (HC.out.mono HB1.out.size)
      have HB2 := Lib.hid (HB.trans (hb.mono HB.size))
      clear hown hb HB
      go_wp2_with fail
      go_ret
      rw [← HM.out]
      exact ⟨⟨_, rfl, sl_own HO2.out⟩, HB2.out⟩
theorem comb_same (f : Bool → Bool → Bool) (hf : f false false = false) {a b : List Iv} (ha : Nrm a) (hb : Nrm b) : ofL (segs (fun t => f (has t a) (has t b)) (bds (fl (a ++ b)))) = cmbL f a b :=
  comb_one f hf a b _ (by rw [← bdk_all]; exact bdk_inc _ _) (fl_bd a b) (cmbL_spec f hf a b ha hb).1 (cmbL_spec f hf a b ha hb).2
theorem rcomb_or {va vb : Value} {a b : List Iv} (ha : Ok 1000 a) (hb : Ok 1000 b) (w : World) (hva : Sl w va a) (hvb : Sl w vb b) :
    Calls Try.prog 21 #[.int .i64 1, va, vb] w fun e w' => (∃ r, e = .returned r ∧ Sl w' r (cmbL orF a b)) ∧ Below w.heap.size w w' := by
  have h := ref_comb1 ha.len hb.len w hva hvb
  rw [comb_same orF rfl ha.nrm hb.nrm] at h
  exact h
theorem rcomb_and {va vb : Value} {a b : List Iv} (ha : Ok 1000 a) (hb : Ok 1000 b) (w : World) (hva : Sl w va a) (hvb : Sl w vb b) :
    Calls Try.prog 21 #[.int .i64 2, va, vb] w fun e w' => (∃ r, e = .returned r ∧ Sl w' r (cmbL andF a b)) ∧ Below w.heap.size w w' := by
  have h := ref_comb2 ha.len hb.len w hva hvb
  rw [comb_same andF rfl ha.nrm hb.nrm] at h
  exact h
theorem rcomb_but {va vb : Value} {a b : List Iv} (ha : Ok 1000 a) (hb : Ok 1000 b) (w : World) (hva : Sl w va a) (hvb : Sl w vb b) :
    Calls Try.prog 21 #[.int .i64 3, va, vb] w fun e w' => (∃ r, e = .returned r ∧ Sl w' r (cmbL butF a b)) ∧ Below w.heap.size w w' := by
  have h := ref_comb3 ha.len hb.len w hva hvb
  rw [comb_same butF rfl ha.nrm hb.nrm] at h
  exact h
end Go.Proofs.Ytkjpficpkpfkdaa
