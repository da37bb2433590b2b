/- The law's is, where it is true. -/
import Derived.Test.YtacgomhegjilgaaGe
namespace Go.Proofs.Ytacgomhegjilgaa
open Go.ChangeShapes Go.WideShapes Go.ChangeAt Go.RowKit Ts

attribute [local go_sem ↓] Go.wp_at_zero Go.wp_at_succ
theorem bs_rc {n : Nat} {N : List Iv} (h : Bs n N) : Rc (rn N) := nrm_rn h.nrm h.row
set_option maxRecDepth 100000 in
set_option maxHeartbeats 4000000 in
theorem is_true {v : Value} {N : List Iv} (hN : Bs 80000 N) (A : Option Addr) (c : Nat) (l : List Int) (hl : l.length ≤ 80000) (hi : Inc l) (hm : ∀ n, n ∈ l ↔ In n N) (w : World) (hv : Sl w v (rn N)) (hR : Rs w w.heap.size A (nC l)) :
    Calls Try.prog 16 #[.agg #[v], .slice A l.length c] w fun e w' => e = .returned (.bool true) ∧ Below w.heap.size w w' := by
  have hrc := bs_rc hN
  have hrl : (rn N).length ≤ 90000 := by rw [rn_len]; have := hN.len; omega
  have hrows : rowsL (rn N) = l := rows_eq hN.nrm hi hm
  have hcnt : cnt (rn N) = (l.length : Int) := by rw [← rowsL_len hrc, hrows]
  have hruns : rsL l l.length = rn N := rsL_all hN.nrm hi hm
  have hbd : ∀ x ∈ l, -2000000 ≤ x ∧ x ≤ 2000000 := fun x hx => by
    have := (isR_iff x).1 (hN.row x ((hm x).1 hx))
    omega
  have C1 := Lib.hid (fun W h => rows_sl hrl hrc (by omega) W h (v := v))
  rw [hrows] at C1
  have C2 := Lib.hid (fun A1 c1 W h k => same_true A1 A c1 c l (by omega) W h k)
  have C3 := Lib.hid (fun W h => ref_runs A c l (by omega) hbd W h)
  rw [hruns] at C3
  have C4 := Lib.hid (fun A1 c1 W h k => law_runs (v := v) hrl A1 c1 (rn N) hrl W h k)
  rw [show decide (rn N = rn N) = true by simp] at C4
  have C5 := Lib.hid (fun W h => len_any (v := v) hrl (rc_rb hrc) W h)
  rw [hcnt] at C5
  have hB0 : Below w.heap.size w (w.alloc (.cells #[v] 26)) := (Below.refl _ _).alloc (Nat.le_refl _) _
  have H0 := Lib.hid ((((Hold.init hB0).addB (Deep.blk_alloc_new w _)).addV (hv.below hB0)).addN ((hR.below hB0).more hB0.size))
  have HL := Lib.hid (rn_len N)
  obtain ⟨z, hz⟩ : ∃ z, z = (rn N).length := ⟨_, rfl⟩
  obtain ⟨PA, pc, rfl, _, _, _, _⟩ := hv
  rw [← hz] at C1 C3 C4 C5 H0 ⊢
  have hc0 := H0.out.cell (.head _) 0
  clear hB0 hR hrows hruns hcnt hbd hrc hz
  go_enter Try.func16, Try.ntmps16
  go_wp2_with fail
  go_region_held3 (fun W => W.cell? ⟨w.heap.size, 0, none⟩ = some (.slice PA z pc))
    (first | exact H0.out.cell (.head _) 0 | exact H1.out.cell (.head _) 0 | exact H2.out.cell (.head _) 0 | exact H3.out.cell (.head _) 0 | exact H4.out.cell (.head _) 0 | exact H5.out.cell (.head _) 0 | assumption)
    ((first
      | (go_at_call 21; refine (C5.out _ (H4.out.set _ (.head _))).mono ?_; rintro e w5 ⟨rfl, hb⟩; have H5 := Lib.hid (H4.out.next hb); clear hb)
      | (go_at_call 20; refine (C4.out A3 c3 _ (H3.out.set _ (.head _)) HR3.out).mono ?_; rintro e w4 ⟨rfl, hb⟩; have H4 := Lib.hid (H3.out.next hb); clear hb)
      | (go_at_call 47; refine (C3.out _ (H2.out.row _ (.head _))).mono ?_; rintro e w3 ⟨⟨v3, rfl, hown⟩, hb⟩; have H3 := Lib.hid (H2.out.next hb); obtain ⟨A3, c3, rfl, _, hr3, _⟩ := rs_own hown; have HR3 := Lib.hid hr3; clear hb hown hr3)
      | (go_at_call 40; refine (C2.out A1 c1 _ HR1.out (H1.out.row _ (.head _))).mono ?_; rintro e w2 ⟨rfl, hb⟩; have H2 := Lib.hid (H1.out.next hb); clear hb)
      | (go_at_call 55; refine (C1.out _ (H0.out.drew.set _ (.head _))).mono ?_; rintro e w1 ⟨⟨v1, rfl, hown⟩, hb⟩; have H1 := Lib.hid (H0.out.drew.next hb); obtain ⟨A1, c1, rfl, _, hr1, _⟩ := rs_ownn hown; have HR1 := Lib.hid hr1; clear hb hown hr1)
      | fail))
  go_wp2_with fail
  go_ret
  exact ⟨rfl, H5.out.out⟩
end Go.Proofs.Ytacgomhegjilgaa
