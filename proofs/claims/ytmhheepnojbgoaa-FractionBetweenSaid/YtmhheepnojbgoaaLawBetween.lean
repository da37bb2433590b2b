/- The statement FractionBetween: for any two fractions, the law returns true and changes nothing. No condition. -/
import Derived.Test.YtmhheepnojbgoaaRow
import Derived.Test.YtmhheepnojbgoaaBetLaw
import Derived.Test.YtmhheepnojbgoaaBet
import Derived.Test.YtmhheepnojbgoaaBetN
import Derived.Test.YtmhheepnojbgoaaCoBase
namespace Go.Proofs.Ytmhheepnojbgoaa.lawBetween
open Go.Proofs.Ytmhheepnojbgoaa Go.ChangeShapes Go.WideShapes Go.ChangeAt Go.RowKit Go.Joins Pl

theorem law_best (n d p q X : Int) (D : Nat) (f3 : -1048576 ≤ n) (f4 : n ≤ 1048576) (f1 : 1 ≤ d) (f2 : d ≤ 1048576) (g3 : -1048576 ≤ p) (g4 : p ≤ 1048576) (g1 : 1 ≤ q) (g2 : q ≤ 1048576) (Bf : Hid (canonB n d = true)) (Bg : Hid (canonB p q = true))
    (Hs : Hid (sg (n * q) (p * d) = -1)) (b : Best n d p q X D) (hb : GB n d p q (mkN X D) (mkD X D) (mkE X D)) (w : World) :
    Calls Try.prog 10 #[.agg #[.int .i64 n, .int .i64 d], .agg #[.int .i64 p, .int .i64 q]] w fun e w' => e = .returned (.bool true) ∧ Below w.heap.size w w' := by
  have hD1 := b.D1
  have hX1 := b.X1
  have hX2 := b.X2
  rcases mkE_ne X D (by omega) with he | he
  · by_cases h200 : D ≤ 200
    · have hr : GR n d p q (mkN X D) (mkD X D) true := by
        intro w
        have := rbetween_found n d p q X D f3 f4 f1 f2 g3 g4 g1 g2 b.D1 h200 (Lib.hid b.no) b.fits b.pick (by omega) (by omega) w
        rw [decide_eq_true he] at this
        exact this
      rw [he] at hb
      exact law_found n d p q f3 f4 f1 f2 g3 g4 g1 g2 Bf Bg Hs _ _ hb hr w
    · have hr : GR n d p q 0 0 false := fun w => rbetween_none n d p q f3 f4 f1 f2 g3 g4 g1 g2 (Lib.hid (fun y hy hy2 => b.no y hy (by omega))) w
      obtain ⟨c1, c2⟩ := mk_cop b.D1 b.gcd he
      have hc := (mk_ok (x := X) (y := (D : Int)) (by omega) he).1
      rw [c1, c2] at hc
      rw [he, c1, c2] at hb
      have hcB : canonB X D = true := by simpa [canonB] using hc
      exact law_fine n d p q f3 f4 f1 f2 g3 g4 g1 g2 Bf Bg Hs X D hb hr (Lib.hid hcB) hc.2.2.1 hc.2.2.2.1 (by omega) hc.2.1 (Lib.hid (sg_lt b.less)) (Lib.hid (sg_lt b.more)) w
  · obtain ⟨z1, z2⟩ := mk_bad (x := X) (y := (D : Int)) (by omega)
    rw [he, z1, z2] at hb
    have hr : GR n d p q 0 0 false := by
      by_cases h200 : D ≤ 200
      · intro w
        have := rbetween_found n d p q X D f3 f4 f1 f2 g3 g4 g1 g2 b.D1 h200 (Lib.hid b.no) b.fits b.pick (by omega) (by omega) w
        rw [decide_eq_false (by omega), z1, z2] at this
        exact this
      · exact fun w => rbetween_none n d p q f3 f4 f1 f2 g3 g4 g1 g2 (Lib.hid (fun y hy hy2 => b.no y hy (by omega))) w
    exact law_over n d p q f3 f4 f1 f2 g3 g4 g1 g2 Bf Bg Hs hb hr w

theorem walk (n d : Int) (hn1 : -9223372036854775808 ≤ n) (hn2 : n ≤ 9223372036854775807) (hd1 : -9223372036854775808 ≤ d) (hd2 : d ≤ 9223372036854775807) (p q : Int) (hp1 : -9223372036854775808 ≤ p) (hp2 : p ≤ 9223372036854775807) (hq1 : -9223372036854775808 ≤ q) (hq2 : q ≤ 9223372036854775807) (w : World) :
    Calls Try.prog 10 #[.agg #[.int .i64 n, .int .i64 d], .agg #[.int .i64 p, .int .i64 q]] w fun e w' => e = .returned (.bool true) ∧ Below w.heap.size w w' := by
  by_cases hcan : canon n d ∧ canon p q
  · obtain ⟨cf, cg⟩ := hcan
    have Bf : Hid (canonB n d = true) := Lib.hid (by simpa [canonB] using cf)
    have Bg : Hid (canonB p q = true) := Lib.hid (by simpa [canonB] using cg)
    obtain ⟨f1, f2, f3, f4, -⟩ := cf
    obtain ⟨g1, g2, g3, g4, -⟩ := cg
    have hb := lawCompares.sg_bd (n * q) (p * d)
    have h3 : sg (n * q) (p * d) = -1 ∨ sg (n * q) (p * d) = 0 ∨ sg (n * q) (p * d) = 1 := by omega
    rcases h3 with hs | hs | hs
    · have Hs := Lib.hid hs
      have hlt := lawCompares.sg_neg hs
      by_cases hn : n < 0
      · have Hn := Lib.hid (sg_lt hn)
        by_cases hp : 0 < p
        · have Hp := Lib.hid (sg_gt hp)
          have bz := best_zero (n := n) (d := d) (p := p) (q := q) f1 g1 hn hp
          refine law_best n d p q 0 1 f3 f4 f1 f2 g3 g4 g1 g2 Bf Bg Hs bz ?_ w
          intro w
          have := between_zero n d p q f3 f4 f1 f2 g3 g4 g1 g2 Bf Bg Hs Hn Hp w
          rw [show mkN 0 ((1 : Nat) : Int) = 0 from by decide, show mkD 0 ((1 : Nat) : Int) = 1 from by decide, show mkE 0 ((1 : Nat) : Int) = 0 from by decide]
          exact this
        · have ho : okS (-p) q (-n) d := by
            refine ⟨by omega, g1, by omega, by omega, ?_⟩
            rw [Int.neg_mul, Int.neg_mul]; omega
          obtain ⟨D, hD, bb⟩ := best_neg ho f1 (by omega) (by omega)
          have hs0 := lawCompares.sg_bd p 0
          have hs1 : sg p 0 ≤ 0 := by
            rcases Int.lt_or_eq_of_le (show p ≤ 0 by omega) with h | h
            · rw [sg_lt h]; omega
            · rw [sg_eq h]; omega
          have i1 := bb.X1
          have i2 := bb.D1
          have i3 := bb.D2
          obtain ⟨q1, -⟩ := sim_spec 2097152 (-p) q (-n) d ho (by omega)
          refine law_best n d p q _ D f3 f4 f1 f2 g3 g4 g1 g2 Bf Bg Hs bb (fun w => ?_) w
          exact between_neg n d p q f3 f4 f1 f2 g3 g4 g1 g2 Bf Bg Hs Hn (sg p 0) (Lib.hid rfl) hs1 ho _ D (Lib.hid rfl) (Lib.hid hD) q1 (by omega) (by omega) (by omega) w
      · have hpd : 0 < p * d := by have := Int.mul_nonneg (show 0 ≤ n by omega) (show 0 ≤ q by omega); omega
        have hp : 0 < p := by
          apply Int.not_le.1; intro h
          have := Int.mul_nonpos_of_nonpos_of_nonneg h (show 0 ≤ d by omega); omega
        have ho : okS n d p q := ⟨by omega, f1, by omega, hp, hlt⟩
        obtain ⟨D, hD, bb⟩ := best_pos ho g1 (by omega) (by omega)
        have hs1 : 0 ≤ sg n 0 := by
          rcases Int.lt_or_eq_of_le (show 0 ≤ n by omega) with h | h
          · rw [sg_gt h]; omega
          · rw [sg_eq h.symm]; omega
        have i1 := bb.X2
        have i2 := bb.D1
        have i3 := bb.D2
        obtain ⟨q1, -⟩ := sim_spec 2097152 n d p q ho (by omega)
        refine law_best n d p q _ D f3 f4 f1 f2 g3 g4 g1 g2 Bf Bg Hs bb (fun w => ?_) w
        exact between_pos n d p q f3 f4 f1 f2 g3 g4 g1 g2 Bf Bg Hs (sg n 0) (Lib.hid rfl) hs1 ho _ D (Lib.hid rfl) (Lib.hid hD) q1 (by omega) (by omega) (by omega) w
    · exact law_ordera n d p q f3 f4 f1 f2 g3 g4 g1 g2 Bf Bg (Lib.hid hs) (fun w => between_ordera n d p q f3 f4 f1 f2 g3 g4 g1 g2 Bf Bg (Lib.hid hs) w) w
    · exact law_orderb n d p q f3 f4 f1 f2 g3 g4 g1 g2 Bf Bg (Lib.hid hs) (fun w => between_orderb n d p q f3 f4 f1 f2 g3 g4 g1 g2 Bf Bg (Lib.hid hs) w) w
  · exact law_bad n d p q hn1 hn2 hd1 hd2 hp1 hp2 hq1 hq2 hcan w

set_option maxRecDepth 100000 in
theorem lifted (os : Os) (started : os.Started) (H : Type) (enc : TypeId × Value → H) :
    ReturnsInHanded {} Try.checked os 10 .any (Rows.fractionBetweenSpec.pre6 enc Try.prog Try.f10 Rows.fractionBetweenRow.domain false) (Rows.fractionBetweenSpec.post enc Try.prog Try.f10 false true false false) := by
  refine returnsInHanded_of_change (C := Try.checked) own started (by kernel_rfl) Try.func10
    (ChangeSpec.witness6 (enc := enc) (C := Try.checked) false ⟨#[], #[.agg #[.int .i64 0, .int .i64 0], .agg #[.int .i64 0, .int .i64 0]], []⟩ 8 (by kernel_rfl) (by kernel_rfl) (by kernel_rfl) (by kernel_rfl)) ?_
  intro W base args ds gs before hval0 hW _ _
  have hval : ∀ (j : Nat) t v, Try.f10.params[j]? = some t → args[j]? = some v → Value.okWide Try.prog W .any base t v := hval0
  have hW' := hW
  obtain ⟨p, q, hA0, hV, rfl, _, _⟩ := hW
  have hA : DataW.TrodAll enc Try.prog W 0 (fun _ => true) true Try.f10.params.toList args.toList ds p := hA0
  rw [Try.params10] at hA hval
  obtain ⟨v0, vs0, d0, ds0, p0, q0, hargs0, rfl, rfl, h0, r0⟩ := trodAll_cons hA
  obtain ⟨v1, vs1, d1, ds1, p1, q1, hargs1, rfl, rfl, h1, r1⟩ := trodAll_cons r0
  obtain ⟨rfl, rfl, rfl⟩ := trodAll_nil r1
  obtain rfl : args = #[v0, v1] := by cases args; simp_all
  obtain ⟨rfl, rfl⟩ := trodVars_none hV
  obtain ⟨c0, e0, y0, z0, m0, rfl, rfl, rfl, hy0, hz0⟩ := open_agg2 Try.underlying23 (by kernel_rfl) cells_fr (hval 0 23 v0 rfl rfl) h0
  obtain ⟨a0, ea0, rfl, wa0⟩ := DataW.trod_int Try.underlying3 hy0
  obtain ⟨b0, eb0, rfl, wb0⟩ := DataW.trod_int Try.underlying3 hz0
  simp at ea0 eb0
  subst ea0 eb0
  obtain ⟨c1, e1, y1, z1, m1, rfl, rfl, rfl, hy1, hz1⟩ := open_agg2 Try.underlying23 (by kernel_rfl) cells_fr (hval 1 23 v1 rfl rfl) h1
  obtain ⟨a1, ea1, rfl, wa1⟩ := DataW.trod_int Try.underlying3 hy1
  obtain ⟨b1, eb1, rfl, wb1⟩ := DataW.trod_int Try.underlying3 hz1
  simp at ea1 eb1
  subst ea1 eb1
  clear hA0 hval0
  simp only [List.append_nil] at hW'
  refine (walk a0 b0 (bd64 wa0).1 (bd64 wa0).2 (bd64 wb0).1 (bd64 wb0).2 a1 b1 (bd64 wa1).1 (bd64 wa1).2 (bd64 wb1).1 (bd64 wb1).2 W).mono fun e W' ⟨he, hb⟩ => ?_
  subst he
  exact ⟨_, rfl, post_plain hW' hb (fun _ _ _ => trodAll_mk1 (shut_bool Try.underlying4 _)) (fun sp => trodAll_cons_mk (fr_reads wa0 wb0 _ sp) (trodAll_cons_mk (fr_reads wa1 wb1 _ sp) trodAll_mk0)) (fun _ => rfl) (ok_one (by kernel_rfl) rfl (okWide_bool_mk Try.underlying4 _))⟩

theorem proved : Rows.FractionBetweenSaid :=
  OpenClaim.holds_of_wide 10 Try.f10 rfl rfl rfl rfl rfl rfl rfl ⟨rfl, rfl, rfl, rfl, rfl⟩ rfl rfl rfl rfl rfl (by kernel_rfl) Try.func10 (by kernel_rfl)
    (of_decide_eq_true (by kernel_rfl)) (by unfold Func.isWrapper; first | (rw [if_pos (by decide +kernel)]; kernel_rfl) | (rw [if_neg (by decide +kernel)]; exact ⟨rfl, rfl⟩))
    (fun os started H enc _ => lifted os started H enc)
end Go.Proofs.Ytmhheepnojbgoaa.lawBetween
