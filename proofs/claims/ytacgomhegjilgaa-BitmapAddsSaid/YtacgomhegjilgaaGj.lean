/- The reference's Same at any lists, Or; Subset with the difference named ahead; a set of few rows. -/
import Derived.Test.YtacgomhegjilgaaGh
import Derived.Test.YtacgomhegjilgaaGi
namespace Go.Proofs.Ytacgomhegjilgaa
open Go.ChangeShapes Go.WideShapes Go.ChangeAt Go.RowKit Ts

theorem small {M : List Iv} {l : List Int} (h : Bs 80000 M) (hi : Inc l) (hm : ∀ n, n ∈ l ↔ In n M) (hl : l.length ≤ 84) : Bs 84 M := by
  refine ⟨h.nrm, ?_, h.row⟩
  have e : rsL l l.length = rn M := rsL_all h.nrm hi hm
  have := rsL_len l l.length
  rw [e, rn_len] at this
  omega
theorem sub_any {u v : Value} {A B N : List Iv} (hA : Bs 90000 A) (hB : Bs 90000 B) (hN : Cmb fBut A B N) (w : World) (hu : Sl w u (rn A)) (hv : Sl w v (rn B)) :
    Calls Try.prog 41 #[.agg #[u], .agg #[v]] w fun e w' => e = .returned (.bool (N.length == 0)) ∧ Below w.heap.size w w' := by
  refine (subset_sl hA hB w hu hv).mono ?_
  rintro e w' ⟨⟨M, rfl, hM⟩, hb⟩
  obtain rfl := hN.eq hM
  exact ⟨rfl, hb⟩
set_option maxRecDepth 100000 in
set_option maxHeartbeats 1000000 in
theorem same_any (A B : Option Addr) (c d : Nat) (L M : List Int) (hl : L.length ≤ 900000) (hm : M.length ≤ 900000) (w : World) (hR : Rs w w.heap.size A (nC L)) (hQ : Rs w w.heap.size B (nC M)) :
    Calls Try.prog 40 #[.slice A L.length c, .slice B M.length d] w fun e w' => e = .returned (.bool (decide (L = M))) ∧ Below w.heap.size w w' := by
  have HR := Lib.hid hR
  have HQ := Lib.hid hQ
  obtain ⟨F, hF⟩ : ∃ F, F = decide (L = M) := ⟨_, rfl⟩
  rw [← hF]
  have HF := Lib.hid hF
  clear hR hQ hF
  by_cases hlen : L.length = M.length
  · have hlI : (L.length : Int) = (M.length : Int) := by omega
    go_enter Try.func40, Try.ntmps40
    go_wp2_with fail
    go_loopw [5] (fun iv wr => ∃ j : Nat, j ≤ L.length ∧ iv = .int .i64 (j : Int) ∧ Hid (∀ q (h : q < L.length) (h' : q < M.length), q < j → L[q] = M[q]) ∧ Hid (Below w.heap.size w wr)) (fun iv _ => L.length - (intOf iv).toNat)
    case atStart => exact ⟨0, Nat.zero_le _, rfl, Lib.hid (fun q _ _ hq => absurd hq (by omega)), Lib.hid (Below.refl _ _)⟩
    case round =>
      obtain ⟨j, hj, rfl, hall, HB⟩ := hrel
      by_cases hlt : j < L.length
      · have hlt2 : j < M.length := by omega
        obtain ⟨g, off, rfl, hg, d0⟩ := num_at (HR.out.below HB.out) j hlt
        obtain ⟨g', off', rfl, hg', d0'⟩ := num_at (HQ.out.below HB.out) j hlt2
        obtain ⟨x, hx⟩ : ∃ x, x = L[j] := ⟨_, rfl⟩
        obtain ⟨y, hy⟩ : ∃ x, x = M[j] := ⟨_, rfl⟩
        rw [← hx] at d0
        rw [← hy] at d0'
        have HX := Lib.hid hx
        have HY := Lib.hid hy
        clear hx hy
        have hjl : (j : Int) < (L.length : Int) := by omega
        have hjm : (j : Int) < (M.length : Int) := by omega
        have hj0 : (0 : Int) ≤ (j : Int) := by omega
        have hw1 : IntKind.i64.wrap ((j : Int) + 1) = (j : Int) + 1 := by simp only [IntKind.wrap_i64]; omega
        have hbr : g < wr.heap.size := by have := HB.out.size; omega
        have hbr' : g' < wr.heap.size := by have := HB.out.size; omega
        by_cases he : x = y
        · subst he
          go_wp2_with fail
          go_region
          all_goals
            go_wp2_with fail
            go_roundw
            case rel =>
              refine ⟨j + 1, by omega, by go_num, Lib.hid (fun q hq hq' hqj => ?_), Lib.hid (Below.drew HB.out)⟩
              by_cases e : q = j
              · subst e; rw [← HX.out, ← HY.out]
              · exact hall.out q hq hq' (by omega)
            case measure => simp [intOf]; omega
        · have HT : Hid (F = false) := Lib.hid (by
            rw [HF.out]
            refine decide_eq_false (fun h => he ?_)
            have e : L[j] = M[j] := by subst h; rfl
            rw [← HX.out, ← HY.out] at e
            exact e)
          go_wp2_with fail
          go_region
          all_goals
            go_wp2_with fail
            go_ret
            rw [HT.out]
            exact ⟨rfl, Below.drew HB.out⟩
      · have HT : Hid (F = true) := Lib.hid (by
          rw [HF.out]
          exact decide_eq_true (List.ext_getElem hlen (fun q h1 h2 => hall.out q h1 h2 (by omega))))
        obtain rfl : j = L.length := by omega
        go_wp2_with fail
        go_ret
        rw [HT.out]
        exact ⟨rfl, HB.out⟩
  · have HT : Hid (F = false) := Lib.hid (by rw [HF.out]; exact decide_eq_false (fun h => hlen (by rw [h])))
    have hnm : ¬ (L.length : Int) = (M.length : Int) := by omega
    go_enter Try.func40, Try.ntmps40
    go_wp2_with fail
    go_ret
    rw [HT.out]
    exact ⟨rfl, Below.refl _ _⟩
set_option maxRecDepth 100000 in
set_option maxHeartbeats 2000000 in
theorem ref_or (A B : Option Addr) (c d : Nat) (L M : List Int) (hl : L.length ≤ 9000) (hm : M.length ≤ 9000) (hA : A = none → L.length = 0 ∧ c = 0) (hB : B = none → M.length = 0 ∧ d = 0) (w : World) (hR : Rs w w.heap.size A (nC L)) (hQ : Rs w w.heap.size B (nC M)) :
    Calls Try.prog 36 #[.slice A L.length c, .slice B M.length d] w fun e w' => (∃ r, e = .returned r ∧ w'.ownsRow w.heap.size 3 1 r (bds (L ++ M)).length (nC (bds (L ++ M)))) ∧ Below w.heap.size w w' := by
  obtain ⟨i0, hi0, hz0, hz1, hz2⟩ := info_parts2 info_num
  have Hi0 := Lib.hid hi0
  have Hz0 := Lib.hid hz0
  have Hz1 := Lib.hid hz1
  have Hz2 := Lib.hid hz2
  have HA0 := Lib.hid hA
  have HB0 := Lib.hid hB
  have HRa := Lib.hid hR
  have HRb := Lib.hid hQ
  have CS := Lib.hid (fun A c W h => ref_sorted A c (L ++ M) (by simp; omega) W h)
  obtain ⟨T, hT⟩ : ∃ T, T = L ++ M := ⟨_, rfl⟩
  rw [← hT] at CS ⊢
  have hTl : 0 + L.length + M.length = T.length := by rw [hT, List.length_append]; omega
  have hTl2 : L.length + M.length = T.length := by omega
  have hTc : [] ++ nC L ++ nC M = nC T := by rw [hT]; unfold nC; simp
  have HTl := Lib.hid hTl
  have HTl2 := Lib.hid hTl2
  have HTc := Lib.hid hTc
  clear hi0 hz0 hz1 hz2 hR hQ hA hB hT hTl hTl2 hTc
  go_enter Try.func36, Try.ntmps36
  go_wp2_with (at_builtin; (first
    | (refine wpList_append_sized rfl (.tmp 5) (.tmp 6) 22 rfl w.heap.size 3 i0 _ 1 8 Try.underlying22 Hi0.out Hz0.out Hz1.out Hz2.out rfl (by decide) _ 0 [] rfl (own_emptyn (k := 1) (Deep.blk_alloc_new w _) (Nat.le_refl _)) A L.length c rfl (nC L) (by rw [nC_len, Nat.mul_one]) HA0.out (rs_news HRa.out ((Below.refl _ w).alloc (Nat.le_refl _) _)) (nC_one _) (by omega) (by omega) (by simp) ?_; intro v1 w2 hown1 hg1; have HO1 := Lib.hid hown1; have HBw := Lib.hid (below_grownk (B := w.heap.size) (a := w) ((Below.refl _ w).alloc (Nat.le_refl _) _) (own_emptyn (k := 1) (Deep.blk_alloc_new w _) (Nat.le_refl _)) hg1 (Nat.le_refl _) (Nat.le_refl _)); clear hown1 hg1)
    | (refine wpList_append_sized rfl (.tmp 7) (.tmp 8) 22 rfl w.heap.size 3 i0 _ 1 8 Try.underlying22 Hi0.out Hz0.out Hz1.out Hz2.out rfl (by decide) v1 (0 + L.length) ([] ++ nC L) rfl HO1.out B M.length d rfl (nC M) (by rw [nC_len, Nat.mul_one]) HB0.out (rs_news HRb.out HBw.out) (nC_one _) (by omega) (by omega) HBw.out.size ?_; intro v2 w3 hown2 hg2; have HBv := Lib.hid (below_grownk (B := w.heap.size) (a := w) HBw.out HO1.out hg2 (Nat.le_refl _) (Nat.le_refl _)); rw [HTl.out, HTc.out] at hown2; obtain ⟨A3, c3, rfl, _, hR3, _⟩ := rs_ownn hown2; have HR3 := Lib.hid hR3; clear hown2 hg2 hR3)))
  refine (CS.out _ _ _ HR3.out).mono ?_
  rintro e w4 ⟨⟨r, rfl, hown⟩, hb⟩
  have HO4 := Lib.hid (own_base hown HBv.out.size)
  have HB4 := Lib.hid (HBv.out.trans (hb.mono HBv.out.size))
  clear hb hown
  go_wp2_with fail
  go_ret
  exact ⟨⟨_, rfl, HO4.out⟩, HB4.out⟩
end Go.Proofs.Ytacgomhegjilgaa
