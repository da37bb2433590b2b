/- HistogramOf: for any numbers the law returns true (written by wip/bin/gen_hof.py). -/
import Derived.Test.YtfjgdldjghdjhaaHk
import Derived.Test.YtfjgdldjghdjhaaHl
import Derived.Test.YtfjgdldjghdjhaaHm
import Derived.Test.YtfjgdldjghdjhaaHn
import Derived.Test.YtfjgdldjghdjhaaHo
import Derived.Test.YtfjgdldjghdjhaaHp
import Derived.Deep.RegionHeld3
namespace Go.Proofs.Ytfjgdldjghdjhaa.lawOf
open Go.Proofs.Ytfjgdldjghdjhaa Go.ChangeShapes Go.WideShapes Go.ChangeAt Go.RowKit Go.Joins

theorem laidOut : laidOutB Try.prog = true := by kernel_rfl
set_option maxRecDepth 100000 in
set_option maxHeartbeats 4000000 in
theorem walk_long (w : World) (A0 : Option Addr) (c0 : Nat) (L0 : List Int) (hl : 40 < L0.length) :
    Calls Try.prog 6 #[.slice A0 L0.length c0] w fun e w' => e = .returned (.bool true) ∧ Below w.heap.size w w' := by
  have hn : (40 : Int) < (L0.length : Int) := by omega
  go_enter Try.func6, Try.ntmps6
  go_wp2_with fail
  refine (known_any _).mono ?_
  rintro e w1 ⟨rfl, hb⟩
  have HB1 := Lib.hid hb
  clear hb
  go_wp2_with fail
  refine (known_any _).mono ?_
  rintro e w2 ⟨rfl, hb⟩
  have HB2 := Lib.hid (HB1.out.trans (hb.mono HB1.out.size))
  clear hb
  go_wp2_with fail
  go_ret
  exact ⟨rfl, HB2.out⟩
set_option maxRecDepth 100000 in
set_option maxHeartbeats 4000000 in
theorem walk_bad (w : World) (A0 : Option Addr) (c0 : Nat) (L0 : List Int) (hl : L0.length ≤ 40) (hV : ¬ ∀ x ∈ L0, Vl x) (hR0 : Rd (Value.int .i64) w A0 L0) :
    Calls Try.prog 6 #[.slice A0 L0.length c0] w fun e w' => e = .returned (.bool true) ∧ Below w.heap.size w w' := by
  have hn : ¬ (40 : Int) < (L0.length : Int) := by omega
  have HO := Lib.hid (fun W h => of_bad A0 c0 L0 (by omega) hV W h)
  have HG := Lib.hid (fun W h => right_any A0 c0 L0 hl false (by simp only [Bool.false_eq, decide_eq_false_iff_not]; exact hV) W h)
  have HR := Lib.hid (fun W (hb : Below w.heap.size w W) => hR0.below hb)
  clear hR0 hV
  go_enter Try.func6, Try.ntmps6
  go_wp2_with fail
  refine (known_any _).mono ?_
  rintro e w1 ⟨rfl, hb⟩
  have HB1 := Lib.hid hb
  clear hb
  go_wp2_with fail
  refine (HO.out _ (HR.out _ HB1.out)).mono ?_
  rintro e w2 ⟨rfl, hb⟩
  have HB2 := Lib.hid (HB1.out.trans (hb.mono HB1.out.size))
  have HBa := Lib.hid (HB2.out.alloc HB2.out.size (.cells #[.slice none 0 0] 33))
  have k0 := cell_of_row _ w2.heap.size 0 _ _ _ (Deep.blk_alloc_new w2 (.cells #[.slice none 0 0] 33))
  simp at k0
  clear hb
  go_wp2_with fail
  refine (HG.out _ (HR.out _ HBa.out)).mono ?_
  rintro e w3 ⟨rfl, rfl⟩
  go_wp2_with fail
  go_ret
  exact ⟨by first | rfl | simp, HBa.out⟩
set_option maxRecDepth 100000 in
set_option maxHeartbeats 4000000 in
theorem walk_ok (w : World) (A0 : Option Addr) (c0 : Nat) (L0 : List Int) (hl : L0.length ≤ 40) (hV : ∀ x ∈ L0, Vl x) (hR0 : Rd (Value.int .i64) w A0 L0) :
    Calls Try.prog 6 #[.slice A0 L0.length c0] w fun e w' => e = .returned (.bool true) ∧ Below w.heap.size w w' := by
  have hn : ¬ (40 : Int) < (L0.length : Int) := by omega
  have HO := Lib.hid (fun W h => of_ok A0 c0 L0 (by omega) hV W h)
  have HG := Lib.hid (fun W h => right_any A0 c0 L0 hl true (by simp only [Bool.true_eq, decide_eq_true_eq]; exact hV) W h)
  have HCt := Lib.hid (fun W h => count_any A0 c0 L0 (by omega) hV W h)
  have hvb := vb_of L0 (by omega)
  have hck := chk_of L0 (by omega) hV
  have htt := tot_of L0 hV
  have hiv := ivok_of L0 (by omega)
  have hbl := bkN_len (cvN L0 L0.length) 305
  have HR := Lib.hid (fun W (hb : Below w.heap.size w W) => hR0.below hb)
  clear hR0 hV
  obtain ⟨B, hB⟩ : ∃ B, B = bkN (cvN L0 L0.length) 305 := ⟨_, rfl⟩
  rw [← hB] at HO HCt hvb hck htt hiv hbl
  clear hB
  have HSm := Lib.hid (fun W A c D d h1 h2 => same_any A D c d B B (by omega) (by omega) W h1 h2)
  rw [show (decide (B = B)) = true by simp] at HSm
  have HCk := Lib.hid (fun W A c h => hcheck_any A c B hbl hiv W h)
  rw [hck] at HCk
  have HTt := Lib.hid (fun W A c h => total_any A c B hbl hvb W h)
  rw [htt] at HTt
  clear hvb hck htt hiv hbl
  go_enter Try.func6, Try.ntmps6
  go_wp2_with fail
  refine (known_any _).mono ?_
  rintro e w1 ⟨rfl, hb⟩
  have HB1 := Lib.hid hb
  clear hb
  go_wp2_with fail
  refine (HO.out _ (HR.out _ HB1.out)).mono ?_
  rintro e w2 ⟨⟨v, rfl, ho⟩, hb⟩
  obtain ⟨A, c, rfl, _, hrs, _⟩ := rs_own ho
  have HB2 := Lib.hid (HB1.out.trans (hb.mono HB1.out.size))
  have HRs := Lib.hid (fun W (hb : Below w2.heap.size w2 W) => (fun j hj => by
      obtain ⟨b, off, e, h1, h2⟩ := Rs.below hrs hb j hj
      exact ⟨b, off, e, Nat.lt_of_lt_of_le h1 hb.size, h2⟩ : Rs W W.heap.size A (ivCells B)))
  have HBa : Hid (Below w2.heap.size w2 (w2.alloc (.cells #[.slice A B.length c] 33))) := Lib.hid ((Below.refl _ _).alloc (Nat.le_refl _) _)
  have HKa := Lib.hid (Deep.blk_alloc_new w2 (.cells #[.slice A B.length c] 33))
  have k0 := cell_of_row _ w2.heap.size 0 _ _ _ HKa.out
  simp at k0
  clear ho hb hrs
  go_wp2_with fail
  refine (HG.out _ (HR.out _ (HB2.out.trans (HBa.out.mono HB2.out.size)))).mono ?_
  rintro e w3 ⟨rfl, rfl⟩
  go_wp2_with fail
  have HBd : Hid (∀ n, Below w2.heap.size w2 ((w2.alloc (.cells #[.slice A B.length c] 33)).drewN n)) := Lib.hid (fun n => below_drewN HBa.out n)
  have Hkd : Hid (∀ n, ((w2.alloc (.cells #[.slice A B.length c] 33)).drewN n).heap[w2.heap.size]? = some (.cells #[.slice A B.length c] 33 (0, 0))) := Lib.hid (fun n => HKa.out)
  go_region_held3 (fun W => W.cell? ⟨w2.heap.size, 0, none⟩ = some (.slice A B.length c))
    (first | exact cell_of_row _ w2.heap.size 0 _ _ _ HK7.out | exact cell_of_row _ w2.heap.size 0 _ _ _ HK6.out | exact cell_of_row _ w2.heap.size 0 _ _ _ HK5.out | exact cell_of_row _ w2.heap.size 0 _ _ _ HK4.out | exact cell_of_row _ w2.heap.size 0 _ _ _ (Hkd.out _) | assumption)
    ((first
      | (go_at_call 23; refine (HCt.out _ (HR.out _ (HB2.out.trans ((HBd.out _).mono HB2.out.size)))).mono ?_; rintro e w4 ⟨⟨v, rfl, ho⟩, hb⟩; obtain ⟨D, d, rfl, _, hrd, _⟩ := rs_own ho; have HB4 := Lib.hid ((HBd.out _).trans (hb.mono (HBd.out _).size)); have HK4 := Lib.hid ((hb.block w2.heap.size ((Array.getElem?_eq_some_iff.1 (Hkd.out _)).1)).trans (Hkd.out _)); have HRd := Lib.hid hrd; clear ho hb hrd)
      | (go_at_call 22; refine (HSm.out _ _ _ _ _ (HRs.out _ HB4.out) HRd.out).mono ?_; rintro e w5 ⟨rfl, hb⟩; have HB5 := Lib.hid (HB4.out.trans (hb.mono HB4.out.size)); have HK5 := Lib.hid ((hb.block w2.heap.size ((Array.getElem?_eq_some_iff.1 HK4.out).1)).trans HK4.out); clear hb)
      | (go_at_call 18; refine (HCk.out _ _ _ (HRs.out _ HB5.out)).mono ?_; rintro e w6 ⟨rfl, hb⟩; have HB6 := Lib.hid (HB5.out.trans (hb.mono HB5.out.size)); have HK6 := Lib.hid ((hb.block w2.heap.size ((Array.getElem?_eq_some_iff.1 HK5.out).1)).trans HK5.out); clear hb)
      | (go_at_call 24; refine (HTt.out _ _ _ (HRs.out _ HB6.out)).mono ?_; rintro e w7 ⟨rfl, hb⟩; have HB7 := Lib.hid (HB6.out.trans (hb.mono HB6.out.size)); have HK7 := Lib.hid ((hb.block w2.heap.size ((Array.getElem?_eq_some_iff.1 HK6.out).1)).trans HK6.out); clear hb)
      | fail))
  go_wp2_with fail
  go_ret
  exact ⟨by first | rfl | simp, HB2.out.trans (HB7.out.mono HB2.out.size)⟩
theorem walk (w : World) (A0 : Option Addr) (c0 : Nat) (L0 : List Int) (_hL0 : L0.length ≤ 9223372036854775807) (hR0 : Rd (Value.int .i64) w A0 L0) :
    Calls Try.prog 6 #[.slice A0 L0.length c0] w fun e w' => e = .returned (.bool true) ∧ Below w.heap.size w w' := by
  by_cases hl : L0.length ≤ 40
  · by_cases hV : ∀ x ∈ L0, Vl x
    · exact walk_ok w A0 c0 L0 hl hV hR0
    · exact walk_bad w A0 c0 L0 hl hV hR0
  · exact walk_long w A0 c0 L0 (by omega)
set_option maxRecDepth 100000 in
theorem lifted (os : Os) (started : os.Started) (H : Type) (enc : TypeId × Value → H) :
    ReturnsInHanded {} Try.checked os 6 .any (Rows.histogramOfSpec.pre6 enc Try.prog Try.f6 Rows.histogramOfRow.domain false) (Rows.histogramOfSpec.post enc Try.prog Try.f6 false true false false) := by
  refine returnsInHanded_of_change (C := Try.checked) own started (by kernel_rfl) Try.func6
    (ChangeSpec.witness6 (enc := enc) (C := Try.checked) false ⟨#[], #[.slice none 0 0], []⟩ 8 (by kernel_rfl) (by kernel_rfl) (by kernel_rfl) (by kernel_rfl)) ?_
  intro W base args ds gs before hval0 hW _ _
  have hval : ∀ (j : Nat) t v, Try.f6.params[j]? = some t → args[j]? = some v → Value.okWide Try.prog W .any base t v := hval0
  have hW' := hW
  obtain ⟨p, q, hA0, hV, rfl, _, _⟩ := hW
  have hA : DataW.TrodAll enc Try.prog W 0 (fun _ => true) true Try.f6.params.toList args.toList ds p := hA0
  rw [Try.params6] at hA hval
  obtain ⟨v0, vs0, d0, ds0, p0, q0, hargs0, rfl, rfl, h0, r0⟩ := trodAll_cons hA
  obtain ⟨rfl, rfl, rfl⟩ := trodAll_nil r0
  obtain rfl : args = #[v0] := by cases args; simp_all
  obtain ⟨rfl, rfl⟩ := trodVars_none hV
  have lt0 : ∀ x ∈ p0, x.block < W.heap.size := fun x hx => hW'.lt x (by simp [hx])
  obtain ⟨A0, c0, L0, rfl, hL0, hR0⟩ := open_nums (hval 0 36 v0 rfl rfl) h0 lt0
  clear hA0 hval0
  simp only [List.append_nil] at hW'
  refine (walk W A0 c0 L0 hL0 hR0).mono fun e W' ⟨he, hb⟩ => ?_
  subst he
  exact ⟨_, rfl, post_mem hW' hb (fun _ _ _ => trodAll_mk1 (shut_bool Try.underlying4 _)) (fun sp hsp => by
    have t := trodAll_cons_mk (carry laidOut (by kernel_rfl) (of_decide_eq_true (by kernel_rfl)) h0 hb lt0 sp (fun x hx => hsp x (by simp [hx]))) trodAll_mk0
    simp only [List.append_nil] at t
    exact t) (fun _ => rfl) (ok_one (by kernel_rfl) rfl (okWide_bool_mk Try.underlying4 _))⟩

theorem proved : Rows.HistogramOfSaid :=
  OpenClaim.holds_of_wide 6 Try.f6 rfl rfl rfl rfl rfl rfl rfl ⟨rfl, rfl, rfl, rfl, rfl⟩ rfl rfl rfl rfl rfl (by kernel_rfl) Try.func6 (by kernel_rfl)
    (of_decide_eq_true (by kernel_rfl)) (by unfold Func.isWrapper; first | (rw [if_pos (by decide +kernel)]; kernel_rfl) | (rw [if_neg (by decide +kernel)]; exact ⟨rfl, rfl⟩))
    (fun os started H enc _ => lifted os started H enc)

end Go.Proofs.Ytfjgdldjghdjhaa.lawOf
