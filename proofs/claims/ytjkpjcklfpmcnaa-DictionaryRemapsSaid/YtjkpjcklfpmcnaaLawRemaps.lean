/- The statement DictionaryRemaps: for any codes and any remap, the law returns true and changes nothing. No condition. -/
import Derived.Test.YtjkpjcklfpmcnaaRow
namespace Go.Proofs.Ytjkpjcklfpmcnaa.lawRemaps
open Go.Proofs.Ytjkpjcklfpmcnaa Go.ChangeShapes Go.WideShapes Go.ChangeAt Go.RowKit Go.Joins Dp

set_option maxRecDepth 100000 in
set_option maxHeartbeats 1000000 in
theorem walk (w : World) (B : Option Addr) (d : Nat) (M : List Int) (hM : M.length ≤ 9223372036854775807) (hR2 : Rd (Value.int .i64) w B M) (A : Option Addr) (c : Nat) (F : List Int) (hF : F.length ≤ 9223372036854775807) (hR : Rd (Value.int .i64) w A F) :
    Calls Try.prog 9 #[.slice B M.length d, .slice A F.length c] w fun e w' => e = .returned (.bool true) ∧ Below w.heap.size w w' := by
  have HR := Lib.hid hR
  have HR2 := Lib.hid hR2
  clear hR hR2
  by_cases h1 : M.length ≤ 100
  · by_cases h2 : F.length ≤ 100
    · have hra := fun W => remap_any A B c d M F (by omega) (by omega) W
      have hrr := fun W => rremap_any A B c d F M (by omega) (by omega) W
      obtain ⟨E, hE⟩ : ∃ E, E = fe (rmE F) M := ⟨_, rfl⟩
      obtain ⟨R, hRR⟩ : ∃ R, R = res (rmE F) (rmV F) M := ⟨_, rfl⟩
      rw [← hE, ← hRR] at hra hrr
      have hRl : R.length ≤ 100 := by
        rw [hRR]; unfold res; split
        · rw [List.length_map]; exact h1
        · simp
      have HA := Lib.hid hra
      have HB := Lib.hid hrr
      clear hE hRR hra hrr
      go_enter Try.func9, Try.ntmps9
      go_wp2_with fail
      refine (known_any w).mono ?_
      rintro e w1 ⟨rfl, hB1⟩
      have HB1 := Lib.hid hB1
      have K := Lib.hid (HR.out.below hB1)
      have K2 := Lib.hid (HR2.out.below hB1)
      clear hB1
      go_wp2_with fail
      refine (HA.out w1 K2.out K.out).mono ?_
      rintro e w2 ⟨⟨A1, c1, rfl, hc1, hr1⟩, hB2⟩
      have HB2 := Lib.hid (below_to HB1.out hB2)
      have K3 := Lib.hid (K.out.below hB2)
      have K4 := Lib.hid (K2.out.below hB2)
      have S1 := Lib.hid hr1
      clear hB2 hr1
      go_wp2_with fail
      refine (HB.out w2 K3.out K4.out).mono ?_
      rintro e w3 ⟨⟨A2, c2, rfl, hc2, hr2⟩, hB3⟩
      have HB3 := Lib.hid (below_to HB2.out hB3)
      have hs := sameInts_any A1 A2 c1 c2 R R (by omega) (by omega) w3 (S1.out.below hB3) hr2
      rw [decide_eq_true rfl] at hs
      clear hB3 hr2
      go_wp2_with fail
      refine hs.mono ?_
      rintro e w4 ⟨rfl, hB4⟩
      have HB4 := Lib.hid (below_to HB3.out hB4)
      clear hs hB4
      go_wp2_with fail
      go_ret
      exact ⟨by simp, HB4.out⟩
    · go_enter Try.func9, Try.ntmps9
      go_wp2_with fail
      refine (known_any w).mono ?_
      rintro e w1 ⟨rfl, hB1⟩
      have HB1 := Lib.hid hB1
      clear hB1
      go_wp2_with fail
      refine (known_any w1).mono ?_
      rintro e w2 ⟨rfl, hB2⟩
      have HB2 := Lib.hid (below_to HB1.out hB2)
      clear hB2
      go_wp2_with fail
      go_ret
      exact ⟨rfl, HB2.out⟩
  · go_enter Try.func9, Try.ntmps9
    go_wp2_with fail
    refine (known_any w).mono ?_
    rintro e w1 ⟨rfl, hB1⟩
    have HB1 := Lib.hid hB1
    clear hB1
    go_wp2_with fail
    refine (known_any w1).mono ?_
    rintro e w2 ⟨rfl, hB2⟩
    have HB2 := Lib.hid (below_to HB1.out hB2)
    clear hB2
    go_wp2_with fail
    go_ret
    exact ⟨rfl, HB2.out⟩

set_option maxRecDepth 100000 in
theorem lifted (os : Os) (started : os.Started) (H : Type) (enc : TypeId × Value → H) :
    ReturnsInHanded {} Try.checked os 9 .any (Rows.dictionaryRemapsSpec.pre6 enc Try.prog Try.f9 Rows.dictionaryRemapsRow.domain false) (Rows.dictionaryRemapsSpec.post enc Try.prog Try.f9 false true false false) := by
  refine returnsInHanded_of_change (C := Try.checked) own started (by kernel_rfl) Try.func9
    (ChangeSpec.witness6 (enc := enc) (C := Try.checked) false ⟨#[], #[.slice none 0 0, .slice none 0 0], []⟩ 8 (by kernel_rfl) (by kernel_rfl) (by kernel_rfl) (by kernel_rfl)) ?_
  intro W base args ds gs before hval0 hW _ _
  have hval : ∀ (j : Nat) t v, Try.f9.params[j]? = some t → args[j]? = some v → Value.okWide Try.prog W .any base t v := hval0
  have hW' := hW
  obtain ⟨p, q, hA0, hV, rfl, _, _⟩ := hW
  have hA : DataW.TrodAll enc Try.prog W 0 (fun _ => true) true Try.f9.params.toList args.toList ds p := hA0
  rw [Try.params9] at hA hval
  obtain ⟨v0, vs0, d0, ds0, p0, q0, hargs0, rfl, rfl, h0, r0⟩ := trodAll_cons hA
  obtain ⟨v1, vs1, d1, ds1, p1, q1, hargs1, rfl, rfl, h1, r1⟩ := trodAll_cons r0
  obtain ⟨rfl, rfl, rfl⟩ := trodAll_nil r1
  obtain rfl : args = #[v0, v1] := by cases args; simp_all
  obtain ⟨rfl, rfl⟩ := trodVars_none hV
  have lt0 : ∀ x ∈ p0, x.block < W.heap.size := fun x hx => hW'.lt x (by simp [hx])
  obtain ⟨A0, c0, L0, rfl, hL0, hR0⟩ := open_nums (hval 0 31 v0 rfl rfl) h0 lt0
  have lt1 : ∀ x ∈ p1, x.block < W.heap.size := fun x hx => hW'.lt x (by simp [hx])
  obtain ⟨A1, c1, L1, rfl, hL1, hR1⟩ := open_nums (hval 1 31 v1 rfl rfl) h1 lt1
  clear hA0 hval0
  simp only [List.append_nil] at hW'
  refine (walk W A0 c0 L0 hL0 hR0 A1 c1 L1 hL1 hR1).mono fun e W' ⟨he, hb⟩ => ?_
  subst he
  exact ⟨_, rfl, post_mem hW' hb (fun _ _ _ => trodAll_mk1 (shut_bool Try.underlying4 _)) (fun sp hsp => by
    have t := trodAll_cons_mk (carry laidOut (by kernel_rfl) (of_decide_eq_true (by kernel_rfl)) h0 hb lt0 sp (fun x hx => hsp x (by simp [hx]))) (trodAll_cons_mk (carry laidOut (by kernel_rfl) (of_decide_eq_true (by kernel_rfl)) h1 hb lt1 sp (fun x hx => hsp x (by simp [hx]))) trodAll_mk0)
    simp only [List.append_nil] at t
    exact t) (fun _ => rfl) (ok_one (by kernel_rfl) rfl (okWide_bool_mk Try.underlying4 _))⟩

theorem proved : Rows.DictionaryRemapsSaid :=
  OpenClaim.holds_of_wide 9 Try.f9 rfl rfl rfl rfl rfl rfl rfl ⟨rfl, rfl, rfl, rfl, rfl⟩ rfl rfl rfl rfl rfl (by kernel_rfl) Try.func9 (by kernel_rfl)
    (of_decide_eq_true (by kernel_rfl)) (by unfold Func.isWrapper; first | (rw [if_pos (by decide +kernel)]; kernel_rfl) | (rw [if_neg (by decide +kernel)]; exact ⟨rfl, rfl⟩))
    (fun os started H enc _ => lifted os started H enc)

end Go.Proofs.Ytjkpjcklfpmcnaa.lawRemaps
