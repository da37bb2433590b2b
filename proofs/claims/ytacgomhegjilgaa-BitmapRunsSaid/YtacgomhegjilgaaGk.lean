/- FromRuns; the reference's CheckRuns (written by wip/bin/gen_gk.py). -/
import Derived.Test.YtacgomhegjilgaaHe
import Derived.Deep.RegionHeld3
namespace Go.Proofs.Ytacgomhegjilgaa
open Go.ChangeShapes Go.WideShapes Go.ChangeAt Go.RowKit Ts

/-- The error of run number j. -/
def erR (L : List Iv) (j : Nat) : Int :=
  if isR (L.getD j (0, 0)).1 = true ∧ isR (L.getD j (0, 0)).2 = true then
    if (L.getD j (0, 0)).2 < (L.getD j (0, 0)).1 ∨ (0 < j ∧ (L.getD j (0, 0)).1 ≤ (L.getD (j - 1) (0, 0)).2 + 1) then 8 else 0
  else 2
def frG (L : List Iv) : Nat → Nat → Int
  | 0, _ => 0
  | n + 1, j => if erR L j ≠ 0 then erR L j else frG L n (j + 1)
/-- The first error of some runs. -/
def frE (L : List Iv) : Int := frG L L.length 0
theorem frE_at (L : List Iv) (j : Nat) (hj : j ≤ L.length) (h : ∀ q, q < j → erR L q = 0) : frE L = frG L (L.length - j) j := by
  induction j with
  | zero => rfl
  | succ j ih =>
    rw [ih (by omega) (fun q hq => h q (by omega)), show L.length - j = (L.length - (j + 1)) + 1 by omega]
    show (if erR L j ≠ 0 then erR L j else frG L _ (j + 1)) = _
    rw [if_neg (by simp [h j (by omega)])]
theorem frE_hit (L : List Iv) (j : Nat) (hj : j < L.length) (h : ∀ q, q < j → erR L q = 0) (e : Int) (he : erR L j = e) (h0 : e ≠ 0) : frE L = e := by
  rw [frE_at L j (by omega) h, show L.length - j = (L.length - (j + 1)) + 1 by omega]
  show (if erR L j ≠ 0 then erR L j else frG L _ (j + 1)) = _
  rw [he, if_pos h0]
theorem frE_ok (L : List Iv) (h : ∀ q, q < L.length → erR L q = 0) : frE L = 0 := by
  rw [frE_at L L.length (Nat.le_refl _) h, Nat.sub_self]; rfl
theorem er_get (L : List Iv) (j : Nat) (hj : j < L.length) : L.getD j (0, 0) = L[j] := by simp [List.getD, List.getElem?_eq_getElem hj]
theorem er_bad1 (L : List Iv) (j : Nat) (hj : j < L.length) (h : isR L[j].1 = false) : erR L j = 2 := by
  unfold erR; rw [er_get L j hj, if_neg (by rw [h]; simp)]
theorem er_bad2 (L : List Iv) (j : Nat) (hj : j < L.length) (h : isR L[j].2 = false) : erR L j = 2 := by
  unfold erR; rw [er_get L j hj, if_neg (by rw [h]; simp)]
theorem er_bad3 (L : List Iv) (j : Nat) (hj : j < L.length) (h1 : isR L[j].1 = true) (h2 : isR L[j].2 = true) (h : L[j].2 < L[j].1) : erR L j = 8 := by
  unfold erR; rw [er_get L j hj, if_pos ⟨h1, h2⟩, if_pos (.inl h)]
theorem er_bad4 (L : List Iv) (m : Nat) (hj : m + 1 < L.length) (h1 : isR L[m + 1].1 = true) (h2 : isR L[m + 1].2 = true) (h : L[m + 1].1 ≤ L[m].2 + 1) : erR L (m + 1) = 8 := by
  unfold erR
  have hh : (L.getD (m + 1 - 1) (0, 0)).2 = L[m].2 := by rw [Nat.add_sub_cancel, er_get L m (by omega)]
  rw [er_get L (m + 1) hj, if_pos ⟨h1, h2⟩, if_pos (.inr ⟨by omega, by rw [hh]; exact h⟩)]
theorem er_ok0 (L : List Iv) (hj : 0 < L.length) (h1 : isR L[0].1 = true) (h2 : isR L[0].2 = true) (h : ¬ L[0].2 < L[0].1) : erR L 0 = 0 := by
  unfold erR; rw [er_get L 0 hj, if_pos ⟨h1, h2⟩, if_neg (by omega)]
theorem er_ok1 (L : List Iv) (m : Nat) (hj : m + 1 < L.length) (h1 : isR L[m + 1].1 = true) (h2 : isR L[m + 1].2 = true) (h3 : ¬ L[m + 1].2 < L[m + 1].1) (h : ¬ L[m + 1].1 ≤ L[m].2 + 1) : erR L (m + 1) = 0 := by
  unfold erR
  rw [er_get L (m + 1) hj, if_pos ⟨h1, h2⟩, if_neg ?_]
  rw [Nat.add_sub_cancel, er_get L m (by omega)]
  rintro (h4 | ⟨_, h4⟩)
  · exact h3 h4
  · exact h h4
/-- The rows of a run without an error are in range. -/
theorem er_row (L : List Iv) (j : Nat) (hj : j < L.length) (h : erR L j = 0) : isR L[j].1 = true ∧ isR L[j].2 = true := by
  cases h1 : isR L[j].1 with
  | false => rw [er_bad1 L j hj h1] at h; cases h
  | true =>
    cases h2 : isR L[j].2 with
    | false => rw [er_bad2 L j hj h2] at h; cases h
    | true => exact ⟨rfl, rfl⟩
theorem chn_ok {R : List Iv} (hc : R.Pairwise (fun x y => x.2 + 1 < y.1)) (h1 : ∀ x ∈ R, x.1 ≤ x.2) (hr : ∀ x ∈ R, isR x.1 = true ∧ isR x.2 = true) : frE R = 0 := by
  refine frE_ok R (fun q hq => ?_)
  have hx := List.getElem_mem hq
  cases q with
  | zero => exact er_ok0 R hq (hr _ hx).1 (hr _ hx).2 (by have := h1 _ hx; omega)
  | succ m => exact er_ok1 R m hq (hr _ hx).1 (hr _ hx).2 (by have := h1 _ hx; omega) (by
      have := List.pairwise_iff_getElem.1 hc m (m + 1) (by omega) hq (by omega)
      omega)
theorem bs_ok {n : Nat} {N : List Iv} (h : Bs n N) : frE (rn N) = 0 := by
  have hc := bs_rc h
  refine chn_ok ?_ (fun x hx => (hc x hx).2.2) (fun x hx => ⟨(isR_iff _).2 (hc x hx).1, (isR_iff _).2 (hc x hx).2.1⟩)
  exact List.pairwise_map.2 (h.nrm.2.imp (fun {a b} hab => by show a.2 - 1 + 1 < b.1; omega))
/-- What FromRuns leaves: the error, and the set. -/
def FrP (w0 : World) (L : List Iv) (F : Int) (e : Ending) (w' : World) : Prop := (∃ r, e = .returned (.tuple #[.agg #[r], .int .i64 F]) ∧ Sl w' r (if F = 0 then L else [])) ∧ Below w0.heap.size w0 w'
set_option maxRecDepth 100000 in
set_option maxHeartbeats 8000000 in
theorem fromRuns_any (A : Option Addr) (c : Nat) (L : List Iv) (hl : L.length ≤ 90000) (w : World) (hR : Rs w w.heap.size A (ivCells L)) :
    Calls Try.prog 18 #[.slice A L.length c] w fun e w' => FrP w L (frE L) e w' := by
  obtain ⟨i0, hi0, hz0, hz1, hz2⟩ := info_parts info_iv
  have Hi0 := Lib.hid hi0
  have Hz0 := Lib.hid hz0
  have Hz1 := Lib.hid hz1
  have Hz2 := Lib.hid hz2
  obtain ⟨w1, hw1⟩ : ∃ w1, w1 = w.alloc (.cells #[.slice none 0 0] 26) := ⟨_, rfl⟩
  have hs1 : w1.heap.size = w.heap.size + 1 := by rw [hw1]; simp
  have HB0 : Hid (Below w.heap.size w w1) := Lib.hid (by rw [hw1]; exact (Below.refl _ _).alloc (Nat.le_refl _) _)
  have HK : Hid (w1.heap[w.heap.size]? = some (.cells #[.slice none 0 0] 26 (0, 0))) := Lib.hid (by rw [hw1]; exact Deep.blk_alloc_new w _)
  have HR : Hid (Rs w1 w1.heap.size A (ivCells L)) := Lib.hid ((hR.below HB0.out).more HB0.out.size)
  have HW1 := Lib.hid hw1
  have HHit := Lib.hid (frE_hit L)
  have HOk := Lib.hid (frE_ok L)
  obtain ⟨F, hF⟩ : ∃ F, F = frE L := ⟨_, rfl⟩
  rw [← hF] at HHit HOk ⊢
  clear hi0 hz0 hz1 hz2 hR hw1 hF
  go_enter Try.func18, Try.ntmps18
  go_wp2_with fail
  go_loopw [4, 9] (fun u iv wr => ∃ j : Nat, j ≤ L.length ∧ iv = .int .i64 (j : Int) ∧ Hid (∀ q, q < j → erR L q = 0) ∧ Hid (wr.ownsRow w1.heap.size 39 2 u (L.take j).length (ivCells (L.take j))) ∧ Hid (Below w1.heap.size w1 wr)) (fun _ iv _ => L.length - (intOf iv).toNat)
  case atStart => exact ⟨0, Nat.zero_le _, rfl, Lib.hid (fun q hq => absurd hq (by omega)), Lib.hid ⟨rfl, Or.inl ⟨rfl, rfl⟩⟩, Lib.hid (by rw [HW1.out]; exact Below.refl _ _)⟩
  case round =>
    obtain ⟨j, hj, rfl, HE, HO, HB⟩ := hrel
    have HKr := Lib.hid ((HB.out.block w.heap.size (by omega)).trans HK.out)
    have hbsz := HB.out.size
    have hzw : w.heap.size < wr.heap.size := by omega
    by_cases hlt : j < L.length
    · obtain ⟨g, off, rfl, hg, d0, d1⟩ := iv_at (HR.out.below HB.out) j hlt
      have Hb1 := Lib.hid (er_bad1 L j hlt)
      have Hb2 := Lib.hid (er_bad2 L j hlt)
      have Hb3 := Lib.hid (er_bad3 L j hlt)
      have HtS := Lib.hid (take_snoc L j hlt)
      have hHit := HHit.out j hlt HE.out
      have HH := Lib.hid hHit
      obtain ⟨x, hx⟩ : ∃ x, x = L[j] := ⟨_, rfl⟩
      rw [← hx] at d0 d1 Hb1 Hb2 Hb3 HtS
      have HX := Lib.hid hx
      clear hx hHit
      obtain ⟨x1, x2⟩ := x
      dsimp only at d0 d1 Hb1 Hb2 Hb3 HtS
      have hjl : (j : Int) < (L.length : Int) := by omega
      have hj0 : (0 : Int) ≤ (j : Int) := by omega
      have hwn : IntKind.i64.wrap ((j : Int) + 1) = (j : Int) + 1 := by simp only [IntKind.wrap_i64]; omega
      have hgr : g < wr.heap.size := by omega
      have HBa : Hid (Below w1.heap.size w1 (wr.alloc (.cells #[.int .i64 x1, .int .i64 x2] 39))) := Lib.hid (HB.out.alloc hbsz _)
      have HKa : Hid ((wr.alloc (.cells #[.int .i64 x1, .int .i64 x2] 39)).heap[w.heap.size]? = some (.cells #[.slice none 0 0] 26 (0, 0))) := Lib.hid ((Below.heap_alloc _ _ _ hzw).trans HKr.out)
      have hfr : wr.frozen? ⟨w.heap.size, 0, none⟩ = false := frozen_of_row _ _ _ _ _ HKr.out
      have hcl : wr.cell? ⟨w.heap.size, 0, none⟩ = some (.slice none 0 0) := cell_of_row _ _ 0 _ _ _ HKr.out
      have H1 := Lib.hid (fun W => isRow_any x1 W)
      have H2 := Lib.hid (fun W => isRow_any x2 W)
      cases hr1 : isR x1 with
      | false =>

        have HF : Hid (F = 2) := Lib.hid (HH.out 2 (Hb1.out hr1) (by decide))
        rw [hr1] at H1
        clear hr1
        go_wp2_with fail
        refine (H1.out _).mono ?_
        rintro e v1 ⟨rfl, hw⟩
        subst hw
        go_wp2_with fail
        (try simp only [Exit.inBlock, Exit.then])
        have hcl2 : (wr.setCell ⟨w.heap.size, 0, none⟩ (.slice none 0 0)).cell? ⟨w.heap.size, 0, none⟩ = some (.slice none 0 0) := by
          have hb2 := blk_set (off := 0) (.slice none 0 0) HKr.out
          simp only [World.cell?, hb2]; rfl
        refine bodyPost_ret (v := .tuple #[.agg #[.slice none 0 0], .int .i64 2]) ?_ rfl ⟨⟨.slice none 0 0, by rw [HF.out], by rw [HF.out, if_neg (by decide)]; exact sl_zero _⟩, ?_⟩
        · rw [results_cell_tmp1 rfl]; go_simp <;> rfl
        · exact (HB0.out.trans (HB.out.mono (by omega)) |>.setCell (p := ⟨w.heap.size, 0, none⟩) (Nat.le_refl _) _).alloc (by simp [World.setCell]; omega) _

      | true =>
        rw [hr1] at H1
        have hx1 := (isR_iff x1).1 hr1
        cases hr2 : isR x2 with
        | false =>
          have HF : Hid (F = 2) := Lib.hid (HH.out 2 (Hb2.out hr2) (by decide))
          rw [hr2] at H2
          clear hr1 hr2
          go_wp2_with fail
          refine (H1.out _).mono ?_
          rintro e v1 ⟨rfl, hw⟩
          subst hw
          go_wp2_with fail
          refine (H2.out _).mono ?_
          rintro e v2 ⟨rfl, hw⟩
          subst hw
          go_wp2_with fail
          (try simp only [Exit.inBlock, Exit.then])
          have hcl2 : (wr.setCell ⟨w.heap.size, 0, none⟩ (.slice none 0 0)).cell? ⟨w.heap.size, 0, none⟩ = some (.slice none 0 0) := by
            have hb2 := blk_set (off := 0) (.slice none 0 0) HKr.out
            simp only [World.cell?, hb2]; rfl
          refine bodyPost_ret (v := .tuple #[.agg #[.slice none 0 0], .int .i64 2]) ?_ rfl ⟨⟨.slice none 0 0, by rw [HF.out], by rw [HF.out, if_neg (by decide)]; exact sl_zero _⟩, ?_⟩
          · rw [results_cell_tmp1 rfl]; go_simp <;> rfl
          · exact (HB0.out.trans (HB.out.mono (by omega)) |>.setCell (p := ⟨w.heap.size, 0, none⟩) (Nat.le_refl _) _).alloc (by simp [World.setCell]; omega) _

        | true =>
          rw [hr2] at H2
          have hx2 := (isR_iff x2).1 hr2
          by_cases hlow : x2 < x1
          · have HF : Hid (F = 8) := Lib.hid (HH.out 8 (Hb3.out hr1 hr2 hlow) (by decide))
            have hld : decide (x2 < x1) = true := decide_eq_true hlow
            clear hr1 hr2 hlow
            go_wp2_with fail
            refine (H1.out _).mono ?_
            rintro e v1 ⟨rfl, hw⟩
            subst hw
            go_wp2_with fail
            refine (H2.out _).mono ?_
            rintro e v2 ⟨rfl, hw⟩
            subst hw
            go_wp2_with fail
            go_quiet (fail)
            (refine (by assumption : ∀ _ _, _ → _) _ _ ?_)
            have hb5 := below_drewN HBa.out nq
            have hk5 : (World.drewN (wr.alloc (.cells #[.int .i64 x1, .int .i64 x2] 39)) nq).heap[w.heap.size]? = some (.cells #[.slice none 0 0] 26 (0, 0)) := HKa.out
            have hx5 : (World.drewN (wr.alloc (.cells #[.int .i64 x1, .int .i64 x2] 39)) nq).heap[wr.heap.size]? = some (.cells #[.int .i64 x1, .int .i64 x2] 39 (0, 0)) := Deep.blk_alloc_new wr _
            have ho5 : (World.drewN (wr.alloc (.cells #[.int .i64 x1, .int .i64 x2] 39)) nq).ownsRow w1.heap.size 39 2 u4 (L.take j).length (ivCells (L.take j)) := HO.out.alloc _
            generalize World.drewN (wr.alloc (.cells #[.int .i64 x1, .int .i64 x2] 39)) nq = W5 at hb5 hk5 hx5 ho5 ⊢
            have HB5 := Lib.hid hb5
            have HK5 := Lib.hid hk5
            have HX5 := Lib.hid hx5
            have HO5 := Lib.hid ho5
            have hf5 : W5.frozen? ⟨w.heap.size, 0, none⟩ = false := frozen_of_row _ _ _ _ _ hk5
            have hc5 : W5.cell? ⟨w.heap.size, 0, none⟩ = some (.slice none 0 0) := cell_of_row _ _ 0 _ _ _ hk5
            have hc0 : W5.cell? ⟨wr.heap.size, 0, none⟩ = some (.int .i64 x1) := cell_of_row _ _ 0 _ _ _ hx5
            have hc1 : W5.cell? ⟨wr.heap.size, 1, none⟩ = some (.int .i64 x2) := cell_of_row _ _ 1 _ _ _ hx5
            have hs5 := hb5.size
            clear hb5 hk5 hx5 ho5 hfr hcl
            go_wp2_with fail
            (try simp only [Exit.inBlock, Exit.then])
            have hcl2 : (W5.setCell ⟨w.heap.size, 0, none⟩ (.slice none 0 0)).cell? ⟨w.heap.size, 0, none⟩ = some (.slice none 0 0) := by
              have hb2 := blk_set (off := 0) (.slice none 0 0) HK5.out
              simp only [World.cell?, hb2]; rfl
            refine bodyPost_ret (v := .tuple #[.agg #[.slice none 0 0], .int .i64 8]) ?_ rfl ⟨⟨.slice none 0 0, by rw [HF.out], by rw [HF.out, if_neg (by decide)]; exact sl_zero _⟩, ?_⟩
            · rw [results_cell_tmp1 rfl]; go_simp <;> rfl
            · exact HB0.out.trans (HB5.out.mono (by omega)) |>.setCell (p := ⟨w.heap.size, 0, none⟩) (Nat.le_refl _) _

          · have hlow2 : x1 ≤ x2 := by omega
            rcases Nat.eq_zero_or_pos j with h0 | hp
            · have HEj : Hid (erR L j = 0) := Lib.hid (by
                subst h0
                have a1 : L[0] = (x1, x2) := HX.out.symm
                exact er_ok0 L hlt (by rw [a1]; exact hr1) (by rw [a1]; exact hr2) (by rw [a1]; exact hlow))
              have hjd : decide ((0 : Int) < (j : Int)) = false := decide_eq_false (by omega)
              have hjn : ¬ ((0 : Int) < (j : Int)) := by omega
              have hjn2 : ¬ (0 < j) := by omega
              have hld : decide (x2 < x1) = false := decide_eq_false hlow
              have HZ := Lib.hid h0
              clear hr1 hr2 h0
              go_wp2_with fail
              refine (H1.out _).mono ?_
              rintro e v1 ⟨rfl, hw⟩
              subst hw
              go_wp2_with fail
              refine (H2.out _).mono ?_
              rintro e v2 ⟨rfl, hw⟩
              subst hw
              go_wp2_with fail
              go_quiet (fail)
              (refine (by assumption : ∀ _ _, _ → _) _ _ ?_)
              have hb5 := below_drewN HBa.out nq
              have hk5 : (World.drewN (wr.alloc (.cells #[.int .i64 x1, .int .i64 x2] 39)) nq).heap[w.heap.size]? = some (.cells #[.slice none 0 0] 26 (0, 0)) := HKa.out
              have hx5 : (World.drewN (wr.alloc (.cells #[.int .i64 x1, .int .i64 x2] 39)) nq).heap[wr.heap.size]? = some (.cells #[.int .i64 x1, .int .i64 x2] 39 (0, 0)) := Deep.blk_alloc_new wr _
              have ho5 : (World.drewN (wr.alloc (.cells #[.int .i64 x1, .int .i64 x2] 39)) nq).ownsRow w1.heap.size 39 2 u4 (L.take j).length (ivCells (L.take j)) := HO.out.alloc _
              generalize World.drewN (wr.alloc (.cells #[.int .i64 x1, .int .i64 x2] 39)) nq = W5 at hb5 hk5 hx5 ho5 ⊢
              have HB5 := Lib.hid hb5
              have HK5 := Lib.hid hk5
              have HX5 := Lib.hid hx5
              have HO5 := Lib.hid ho5
              have hf5 : W5.frozen? ⟨w.heap.size, 0, none⟩ = false := frozen_of_row _ _ _ _ _ hk5
              have hc5 : W5.cell? ⟨w.heap.size, 0, none⟩ = some (.slice none 0 0) := cell_of_row _ _ 0 _ _ _ hk5
              have hc0 : W5.cell? ⟨wr.heap.size, 0, none⟩ = some (.int .i64 x1) := cell_of_row _ _ 0 _ _ _ hx5
              have hc1 : W5.cell? ⟨wr.heap.size, 1, none⟩ = some (.int .i64 x2) := cell_of_row _ _ 1 _ _ _ hx5
              have hs5 := hb5.size
              clear hb5 hk5 hx5 ho5 hfr hcl
              have HBb := Lib.hid (HB5.out.alloc HB5.out.size (.cells #[.int .i64 x1, .int .i64 x2] 39))
              have HOb := Lib.hid (HO5.out.alloc (.cells #[.int .i64 x1, .int .i64 x2] 39))
              have hlt5 : (L.take j).length ≤ 90000 := by rw [List.length_take]; omega
              go_wp2_with (at_builtin; refine wpList_append_agg rfl (.tmp 47) (.tmp 49) 24 rfl w1.heap.size 39 i0 _ 2 16 Try.underlying24 Hi0.out Hz0.out Hz1.out Hz2.out rfl (by decide) _ (L.take j).length _ rfl HOb.out W5.heap.size 1 [.int .i64 x1, .int .i64 x2] 39 rfl rfl (Deep.blk_alloc_new W5 _) (by simp [Value.oneCell']) (by omega) (by omega) HBb.out.size ?_; intro v4 w4 hown4 hg4; have HO4 := Lib.hid hown4; have HB4 := Lib.hid (below_grownk (B := w1.heap.size) (a := w1) HBb.out HOb.out hg4 (Nat.le_refl _) (Nat.le_refl _)); clear hown4 hg4)
              go_roundw
              case rel => exact ⟨j + 1, by omega, by go_num, Lib.hid (fun q hq => by rcases Nat.lt_or_ge q j with h | h; exact HE.out q h; obtain rfl : q = j := (by omega); exact HEj.out), by rw [HtS.out]; exact Lib.hid (by rw [List.length_append, iv_snoc]; exact HO4.out), HB4⟩
              case measure => simp [intOf] <;> omega
            · obtain ⟨m, hm1⟩ : ∃ m, j = m + 1 := ⟨j - 1, by omega⟩
              have hml : m < L.length := by omega
              obtain ⟨g2, off2, eg, _, _, p1⟩ := iv_at (HR.out.below HB.out) m hml
              simp only [Option.some.injEq, Addr.mk.injEq, and_true] at eg
              obtain ⟨rfl, rfl⟩ := eg
              have hy := er_row L m hml (HE.out m (by omega))
              have hy2 := (isR_iff _).1 hy.2
              obtain ⟨y, hyy⟩ : ∃ y, y = L[m].2 := ⟨_, rfl⟩
              rw [← hyy] at p1 hy2
              have hjp : (0 : Int) < (j : Int) := by omega
              have hjd : decide ((0 : Int) < (j : Int)) = true := decide_eq_true hjp
              have hjm : IntKind.i64.wrap ((j : Int) - 1) = (m : Int) := by simp only [IntKind.wrap_i64]; omega
              have hjm2 : wrap64 ((j : Int) - 1) = (m : Int) := by unfold wrap64; omega
              have hmI : (m : Int) < (L.length : Int) := by omega
              have hm0 : (0 : Int) ≤ (m : Int) := by omega
              have hwy : IntKind.i64.wrap (y + 1) = y + 1 := by simp only [IntKind.wrap_i64]; omega
              have hwy2 : wrap64 (y + 1) = y + 1 := by unfold wrap64; omega
              have HM1 := Lib.hid hm1
              have HYY := Lib.hid hyy
              clear hy hyy hm1
              by_cases hnear : x1 ≤ y + 1
              · have HF : Hid (F = 8) := Lib.hid (HH.out 8 (by
                  have hm1 := HM1.out
                  subst hm1
                  have a1 : L[m + 1] = (x1, x2) := HX.out.symm
                  exact er_bad4 L m hlt (by rw [a1]; exact hr1) (by rw [a1]; exact hr2) (by rw [a1, ← HYY.out]; exact hnear)) (by decide))
                clear hr1 hr2
                go_wp2_with fail
                refine (H1.out _).mono ?_
                rintro e v1 ⟨rfl, hw⟩
                subst hw
                go_wp2_with fail
                refine (H2.out _).mono ?_
                rintro e v2 ⟨rfl, hw⟩
                subst hw
                go_wp2_with fail
                go_quiet (fail)
                (refine (by assumption : ∀ _ _, _ → _) _ _ ?_)
                have hb5 := below_drewN HBa.out nq
                have hk5 : (World.drewN (wr.alloc (.cells #[.int .i64 x1, .int .i64 x2] 39)) nq).heap[w.heap.size]? = some (.cells #[.slice none 0 0] 26 (0, 0)) := HKa.out
                have hx5 : (World.drewN (wr.alloc (.cells #[.int .i64 x1, .int .i64 x2] 39)) nq).heap[wr.heap.size]? = some (.cells #[.int .i64 x1, .int .i64 x2] 39 (0, 0)) := Deep.blk_alloc_new wr _
                have ho5 : (World.drewN (wr.alloc (.cells #[.int .i64 x1, .int .i64 x2] 39)) nq).ownsRow w1.heap.size 39 2 u4 (L.take j).length (ivCells (L.take j)) := HO.out.alloc _
                generalize World.drewN (wr.alloc (.cells #[.int .i64 x1, .int .i64 x2] 39)) nq = W5 at hb5 hk5 hx5 ho5 ⊢
                have HB5 := Lib.hid hb5
                have HK5 := Lib.hid hk5
                have HX5 := Lib.hid hx5
                have HO5 := Lib.hid ho5
                have hf5 : W5.frozen? ⟨w.heap.size, 0, none⟩ = false := frozen_of_row _ _ _ _ _ hk5
                have hc5 : W5.cell? ⟨w.heap.size, 0, none⟩ = some (.slice none 0 0) := cell_of_row _ _ 0 _ _ _ hk5
                have hc0 : W5.cell? ⟨wr.heap.size, 0, none⟩ = some (.int .i64 x1) := cell_of_row _ _ 0 _ _ _ hx5
                have hc1 : W5.cell? ⟨wr.heap.size, 1, none⟩ = some (.int .i64 x2) := cell_of_row _ _ 1 _ _ _ hx5
                have hs5 := hb5.size
                clear hb5 hk5 hx5 ho5 hfr hcl
                go_wp2_with fail
                (try simp only [Exit.inBlock, Exit.then])
                have hcl2 : (W5.setCell ⟨w.heap.size, 0, none⟩ (.slice none 0 0)).cell? ⟨w.heap.size, 0, none⟩ = some (.slice none 0 0) := by
                  have hb2 := blk_set (off := 0) (.slice none 0 0) HK5.out
                  simp only [World.cell?, hb2]; rfl
                refine bodyPost_ret (v := .tuple #[.agg #[.slice none 0 0], .int .i64 8]) ?_ rfl ⟨⟨.slice none 0 0, by rw [HF.out], by rw [HF.out, if_neg (by decide)]; exact sl_zero _⟩, ?_⟩
                · rw [results_cell_tmp1 rfl]; go_simp <;> rfl
                · exact HB0.out.trans (HB5.out.mono (by omega)) |>.setCell (p := ⟨w.heap.size, 0, none⟩) (Nat.le_refl _) _

              · have HEj : Hid (erR L j = 0) := Lib.hid (by
                  have hm1 := HM1.out
                  subst hm1
                  have a1 : L[m + 1] = (x1, x2) := HX.out.symm
                  exact er_ok1 L m hlt (by rw [a1]; exact hr1) (by rw [a1]; exact hr2) (by rw [a1]; exact hlow) (by rw [a1, ← HYY.out]; exact hnear))
                clear hr1 hr2
                go_wp2_with fail
                refine (H1.out _).mono ?_
                rintro e v1 ⟨rfl, hw⟩
                subst hw
                go_wp2_with fail
                refine (H2.out _).mono ?_
                rintro e v2 ⟨rfl, hw⟩
                subst hw
                go_wp2_with fail
                go_quiet (fail)
                (refine (by assumption : ∀ _ _, _ → _) _ _ ?_)
                have hb5 := below_drewN HBa.out nq
                have hk5 : (World.drewN (wr.alloc (.cells #[.int .i64 x1, .int .i64 x2] 39)) nq).heap[w.heap.size]? = some (.cells #[.slice none 0 0] 26 (0, 0)) := HKa.out
                have hx5 : (World.drewN (wr.alloc (.cells #[.int .i64 x1, .int .i64 x2] 39)) nq).heap[wr.heap.size]? = some (.cells #[.int .i64 x1, .int .i64 x2] 39 (0, 0)) := Deep.blk_alloc_new wr _
                have ho5 : (World.drewN (wr.alloc (.cells #[.int .i64 x1, .int .i64 x2] 39)) nq).ownsRow w1.heap.size 39 2 u4 (L.take j).length (ivCells (L.take j)) := HO.out.alloc _
                generalize World.drewN (wr.alloc (.cells #[.int .i64 x1, .int .i64 x2] 39)) nq = W5 at hb5 hk5 hx5 ho5 ⊢
                have HB5 := Lib.hid hb5
                have HK5 := Lib.hid hk5
                have HX5 := Lib.hid hx5
                have HO5 := Lib.hid ho5
                have hf5 : W5.frozen? ⟨w.heap.size, 0, none⟩ = false := frozen_of_row _ _ _ _ _ hk5
                have hc5 : W5.cell? ⟨w.heap.size, 0, none⟩ = some (.slice none 0 0) := cell_of_row _ _ 0 _ _ _ hk5
                have hc0 : W5.cell? ⟨wr.heap.size, 0, none⟩ = some (.int .i64 x1) := cell_of_row _ _ 0 _ _ _ hx5
                have hc1 : W5.cell? ⟨wr.heap.size, 1, none⟩ = some (.int .i64 x2) := cell_of_row _ _ 1 _ _ _ hx5
                have hs5 := hb5.size
                clear hb5 hk5 hx5 ho5 hfr hcl
                have HBb := Lib.hid (HB5.out.alloc HB5.out.size (.cells #[.int .i64 x1, .int .i64 x2] 39))
                have HOb := Lib.hid (HO5.out.alloc (.cells #[.int .i64 x1, .int .i64 x2] 39))
                have hlt5 : (L.take j).length ≤ 90000 := by rw [List.length_take]; omega
                go_wp2_with (at_builtin; refine wpList_append_agg rfl (.tmp 47) (.tmp 49) 24 rfl w1.heap.size 39 i0 _ 2 16 Try.underlying24 Hi0.out Hz0.out Hz1.out Hz2.out rfl (by decide) _ (L.take j).length _ rfl HOb.out W5.heap.size 1 [.int .i64 x1, .int .i64 x2] 39 rfl rfl (Deep.blk_alloc_new W5 _) (by simp [Value.oneCell']) (by omega) (by omega) HBb.out.size ?_; intro v4 w4 hown4 hg4; have HO4 := Lib.hid hown4; have HB4 := Lib.hid (below_grownk (B := w1.heap.size) (a := w1) HBb.out HOb.out hg4 (Nat.le_refl _) (Nat.le_refl _)); clear hown4 hg4)
                go_roundw
                case rel => exact ⟨j + 1, by omega, by go_num, Lib.hid (fun q hq => by rcases Nat.lt_or_ge q j with h | h; exact HE.out q h; obtain rfl : q = j := (by omega); exact HEj.out), by rw [HtS.out]; exact Lib.hid (by rw [List.length_append, iv_snoc]; exact HO4.out), HB4⟩
                case measure => simp [intOf] <;> omega
    · obtain rfl : j = L.length := by omega
      have HF : Hid (F = 0) := Lib.hid (HOk.out HE.out)
      rw [List.take_length] at HO
      obtain ⟨A5, c5, rfl, _, _, _⟩ := rs_own HO.out
      have hfr : wr.frozen? ⟨w.heap.size, 0, none⟩ = false := frozen_of_row _ _ _ _ _ HKr.out
      have hcl : wr.cell? ⟨w.heap.size, 0, none⟩ = some (.slice none 0 0) := cell_of_row _ _ 0 _ _ _ HKr.out
      go_wp2_with fail
      (try simp only [Exit.inBlock, Exit.then])
      have hcl2 : (wr.setCell ⟨w.heap.size, 0, none⟩ (.slice A5 L.length c5)).cell? ⟨w.heap.size, 0, none⟩ = some (.slice A5 L.length c5) := by
        have hb2 := blk_set (off := 0) (.slice A5 L.length c5) HKr.out
        simp only [World.cell?, hb2]; rfl
      refine bodyPost_ret (v := .tuple #[.agg #[.slice A5 L.length c5], .int .i64 0]) ?_ rfl ⟨⟨_, by rw [HF.out], by rw [HF.out, if_pos rfl]; exact sl_own (HO.out.kept (grownBy_setCell' wr w.heap.size _) (.inr (row_ne_low HO.out (by omega)).symm))⟩, ?_⟩
      · rw [results_cell_tmp1 rfl]; go_simp <;> rfl
      · exact HB0.out.trans (HB.out.mono (by omega)) |>.setCell (p := ⟨w.heap.size, 0, none⟩) (Nat.le_refl _) _
end Go.Proofs.Ytacgomhegjilgaa
