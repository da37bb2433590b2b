/- The statement FractionCompares: for any two fractions, the law returns true and changes nothing. No condition. -/
import Derived.Test.YtmhheepnojbgoaaCoA
import Derived.Test.YtmhheepnojbgoaaCoB
import Derived.Test.YtmhheepnojbgoaaCoC
namespace Go.Proofs.Ytmhheepnojbgoaa.lawCompares
open Go.Proofs.Ytmhheepnojbgoaa Go.ChangeShapes Go.WideShapes Go.ChangeAt Go.RowKit Go.Joins Pl

set_option maxHeartbeats 2000000 in
theorem walk (n d : Int) (hn1 : -9223372036854775808 ≤ n) (hn2 : n ≤ 9223372036854775807) (hd1 : -9223372036854775808 ≤ d) (hd2 : d ≤ 9223372036854775807) (p q : Int) (hp1 : -9223372036854775808 ≤ p) (hp2 : p ≤ 9223372036854775807) (hq1 : -9223372036854775808 ≤ q) (hq2 : q ≤ 9223372036854775807) (w : World) :
    Calls Try.prog 5 #[.agg #[.int .i64 n, .int .i64 d], .agg #[.int .i64 p, .int .i64 q]] w fun e w' => e = .returned (.bool true) ∧ Below w.heap.size w w' := by
  by_cases cf : canon n d
  · by_cases cg : canon p q
    · have hb := sg_bd (n * q) (p * d)
      have h3 : sg (n * q) (p * d) = -1 ∨ sg (n * q) (p * d) = 0 ∨ sg (n * q) (p * d) = 1 := by omega
      rcases h3 with hs | hs | hs
      · exact walk_less n d hn1 hn2 hd1 hd2 p q hp1 hp2 hq1 hq2 cf cg hs w
      · exact walk_same n d hn1 hn2 hd1 hd2 p q hp1 hp2 hq1 hq2 cf cg hs w
      · exact walk_more n d hn1 hn2 hd1 hd2 p q hp1 hp2 hq1 hq2 cf cg hs w
    · have Bf : Hid (canonB n d = true) := Lib.hid (by simpa [canonB] using cf)
      have Bg : Hid (canonB p q = false) := Lib.hid (by simpa [canonB] using cg)
      clear cf cg
      go_enter Try.func5, Try.ntmps5
      go_wp2_with fail
      refine (known_any _).mono ?_
      rintro e w1 ⟨rfl, hbw1⟩
      obtain ⟨hchbw1, hfhbw1⟩ := bcell hbw1
      have hzhbw1 := hbw1.size
      try simp at hzhbw1
      have hzhbw10 : w.heap.size < w1.heap.size := by omega
      have hzhbw11 : w.heap.size + 1 < w1.heap.size := by omega
      have hBhbw1 : Below w.heap.size w w1 := Below.trans (by (repeat' (first | (with_reducible exact Below.refl _ _) | (with_reducible assumption) | (with_reducible refine Below.alloc ?_ ?_ _) | (with_reducible refine below_drewN ?_ _) | (with_reducible refine Below.drew ?_) | (with_reducible refine Below.setCell ?_ ?_ _) | go_size))) (hbw1.mono (by go_size))
      have hWhbw1 : w.heap.size ≤ w1.heap.size := hBhbw1.size
      clear hbw1 hzhbw1
      go_wp2_with fail
      refine (rcheck_any n d hn1 hn2 hd1 hd2 _).mono ?_
      rintro e w2 ⟨rfl, hbw2⟩
      obtain ⟨hchbw2, hfhbw2⟩ := bcell hbw2
      have hzhbw2 := hbw2.size
      try simp at hzhbw2
      have hzhbw20 : w.heap.size < w2.heap.size := by omega
      have hzhbw21 : w.heap.size + 1 < w2.heap.size := by omega
      have hBhbw2 : Below w.heap.size w w2 := Below.trans (by (repeat' (first | (with_reducible exact Below.refl _ _) | (with_reducible assumption) | (with_reducible refine Below.alloc ?_ ?_ _) | (with_reducible refine below_drewN ?_ _) | (with_reducible refine Below.drew ?_) | (with_reducible refine Below.setCell ?_ ?_ _) | go_size))) (hbw2.mono (by go_size))
      have hWhbw2 : w.heap.size ≤ w2.heap.size := hBhbw2.size
      clear hbw2 hzhbw2
      rw [Bf.out]
      go_wp2_with fail
      refine (rcheck_any p q hp1 hp2 hq1 hq2 _).mono ?_
      rintro e w3 ⟨rfl, hbw3⟩
      obtain ⟨hchbw3, hfhbw3⟩ := bcell hbw3
      have hzhbw3 := hbw3.size
      try simp at hzhbw3
      have hzhbw30 : w.heap.size < w3.heap.size := by omega
      have hzhbw31 : w.heap.size + 1 < w3.heap.size := by omega
      have hBhbw3 : Below w.heap.size w w3 := Below.trans (by (repeat' (first | (with_reducible exact Below.refl _ _) | (with_reducible assumption) | (with_reducible refine Below.alloc ?_ ?_ _) | (with_reducible refine below_drewN ?_ _) | (with_reducible refine Below.drew ?_) | (with_reducible refine Below.setCell ?_ ?_ _) | go_size))) (hbw3.mono (by go_size))
      have hWhbw3 : w.heap.size ≤ w3.heap.size := hBhbw3.size
      clear hbw3 hzhbw3
      rw [Bg.out]
      go_wp2_with fail
      refine (known_any _).mono ?_
      rintro e w4 ⟨rfl, hbw4⟩
      obtain ⟨hchbw4, hfhbw4⟩ := bcell hbw4
      have hzhbw4 := hbw4.size
      try simp at hzhbw4
      have hzhbw40 : w.heap.size < w4.heap.size := by omega
      have hzhbw41 : w.heap.size + 1 < w4.heap.size := by omega
      have hBhbw4 : Below w.heap.size w w4 := Below.trans (by (repeat' (first | (with_reducible exact Below.refl _ _) | (with_reducible assumption) | (with_reducible refine Below.alloc ?_ ?_ _) | (with_reducible refine below_drewN ?_ _) | (with_reducible refine Below.drew ?_) | (with_reducible refine Below.setCell ?_ ?_ _) | go_size))) (hbw4.mono (by go_size))
      have hWhbw4 : w.heap.size ≤ w4.heap.size := hBhbw4.size
      clear hbw4 hzhbw4
      go_wp2_with fail
      go_ret
      exact ⟨rfl, by (repeat' (first | (with_reducible exact Below.refl _ _) | (with_reducible assumption) | (with_reducible refine Below.alloc ?_ ?_ _) | (with_reducible refine below_drewN ?_ _) | (with_reducible refine Below.drew ?_) | (with_reducible refine Below.setCell ?_ ?_ _) | go_size))⟩
  · have Bf : Hid (canonB n d = false) := Lib.hid (by simpa [canonB] using cf)
    clear cf
    go_enter Try.func5, Try.ntmps5
    go_wp2_with fail
    refine (known_any _).mono ?_
    rintro e w1 ⟨rfl, hbw1⟩
    obtain ⟨hchbw1, hfhbw1⟩ := bcell hbw1
    have hzhbw1 := hbw1.size
    try simp at hzhbw1
    have hzhbw10 : w.heap.size < w1.heap.size := by omega
    have hzhbw11 : w.heap.size + 1 < w1.heap.size := by omega
    have hBhbw1 : Below w.heap.size w w1 := Below.trans (by (repeat' (first | (with_reducible exact Below.refl _ _) | (with_reducible assumption) | (with_reducible refine Below.alloc ?_ ?_ _) | (with_reducible refine below_drewN ?_ _) | (with_reducible refine Below.drew ?_) | (with_reducible refine Below.setCell ?_ ?_ _) | go_size))) (hbw1.mono (by go_size))
    have hWhbw1 : w.heap.size ≤ w1.heap.size := hBhbw1.size
    clear hbw1 hzhbw1
    go_wp2_with fail
    refine (rcheck_any n d hn1 hn2 hd1 hd2 _).mono ?_
    rintro e w2 ⟨rfl, hbw2⟩
    obtain ⟨hchbw2, hfhbw2⟩ := bcell hbw2
    have hzhbw2 := hbw2.size
    try simp at hzhbw2
    have hzhbw20 : w.heap.size < w2.heap.size := by omega
    have hzhbw21 : w.heap.size + 1 < w2.heap.size := by omega
    have hBhbw2 : Below w.heap.size w w2 := Below.trans (by (repeat' (first | (with_reducible exact Below.refl _ _) | (with_reducible assumption) | (with_reducible refine Below.alloc ?_ ?_ _) | (with_reducible refine below_drewN ?_ _) | (with_reducible refine Below.drew ?_) | (with_reducible refine Below.setCell ?_ ?_ _) | go_size))) (hbw2.mono (by go_size))
    have hWhbw2 : w.heap.size ≤ w2.heap.size := hBhbw2.size
    clear hbw2 hzhbw2
    rw [Bf.out]
    go_wp2_with fail
    refine (known_any _).mono ?_
    rintro e w4 ⟨rfl, hbw4⟩
    obtain ⟨hchbw4, hfhbw4⟩ := bcell hbw4
    have hzhbw4 := hbw4.size
    try simp at hzhbw4
    have hzhbw40 : w.heap.size < w4.heap.size := by omega
    have hzhbw41 : w.heap.size + 1 < w4.heap.size := by omega
    have hBhbw4 : Below w.heap.size w w4 := Below.trans (by (repeat' (first | (with_reducible exact Below.refl _ _) | (with_reducible assumption) | (with_reducible refine Below.alloc ?_ ?_ _) | (with_reducible refine below_drewN ?_ _) | (with_reducible refine Below.drew ?_) | (with_reducible refine Below.setCell ?_ ?_ _) | go_size))) (hbw4.mono (by go_size))
    have hWhbw4 : w.heap.size ≤ w4.heap.size := hBhbw4.size
    clear hbw4 hzhbw4
    go_wp2_with fail
    go_ret
    exact ⟨rfl, by (repeat' (first | (with_reducible exact Below.refl _ _) | (with_reducible assumption) | (with_reducible refine Below.alloc ?_ ?_ _) | (with_reducible refine below_drewN ?_ _) | (with_reducible refine Below.drew ?_) | (with_reducible refine Below.setCell ?_ ?_ _) | go_size))⟩

set_option maxRecDepth 100000 in
theorem lifted (os : Os) (started : os.Started) (H : Type) (enc : TypeId × Value → H) :
    ReturnsInHanded {} Try.checked os 5 .any (Rows.fractionComparesSpec.pre6 enc Try.prog Try.f5 Rows.fractionComparesRow.domain false) (Rows.fractionComparesSpec.post enc Try.prog Try.f5 false true false false) := by
  refine returnsInHanded_of_change (C := Try.checked) own started (by kernel_rfl) Try.func5
    (ChangeSpec.witness6 (enc := enc) (C := Try.checked) false ⟨#[], #[.agg #[.int .i64 0, .int .i64 0], .agg #[.int .i64 0, .int .i64 0]], []⟩ 8 (by kernel_rfl) (by kernel_rfl) (by kernel_rfl) (by kernel_rfl)) ?_
  intro W base args ds gs before hval0 hW _ _
  have hval : ∀ (j : Nat) t v, Try.f5.params[j]? = some t → args[j]? = some v → Value.okWide Try.prog W .any base t v := hval0
  have hW' := hW
  obtain ⟨p, q, hA0, hV, rfl, _, _⟩ := hW
  have hA : DataW.TrodAll enc Try.prog W 0 (fun _ => true) true Try.f5.params.toList args.toList ds p := hA0
  rw [Try.params5] at hA hval
  obtain ⟨v0, vs0, d0, ds0, p0, q0, hargs0, rfl, rfl, h0, r0⟩ := trodAll_cons hA
  obtain ⟨v1, vs1, d1, ds1, p1, q1, hargs1, rfl, rfl, h1, r1⟩ := trodAll_cons r0
  obtain ⟨rfl, rfl, rfl⟩ := trodAll_nil r1
  obtain rfl : args = #[v0, v1] := by cases args; simp_all
  obtain ⟨rfl, rfl⟩ := trodVars_none hV
  obtain ⟨c0, e0, y0, z0, m0, rfl, rfl, rfl, hy0, hz0⟩ := open_agg2 Try.underlying23 (by kernel_rfl) cells_fr (hval 0 23 v0 rfl rfl) h0
  obtain ⟨a0, ea0, rfl, wa0⟩ := DataW.trod_int Try.underlying3 hy0
  obtain ⟨b0, eb0, rfl, wb0⟩ := DataW.trod_int Try.underlying3 hz0
  simp at ea0 eb0
  subst ea0 eb0
  obtain ⟨c1, e1, y1, z1, m1, rfl, rfl, rfl, hy1, hz1⟩ := open_agg2 Try.underlying23 (by kernel_rfl) cells_fr (hval 1 23 v1 rfl rfl) h1
  obtain ⟨a1, ea1, rfl, wa1⟩ := DataW.trod_int Try.underlying3 hy1
  obtain ⟨b1, eb1, rfl, wb1⟩ := DataW.trod_int Try.underlying3 hz1
  simp at ea1 eb1
  subst ea1 eb1
  clear hA0 hval0
  simp only [List.append_nil] at hW'
  refine (walk a0 b0 (bd64 wa0).1 (bd64 wa0).2 (bd64 wb0).1 (bd64 wb0).2 a1 b1 (bd64 wa1).1 (bd64 wa1).2 (bd64 wb1).1 (bd64 wb1).2 W).mono fun e W' ⟨he, hb⟩ => ?_
  subst he
  exact ⟨_, rfl, post_plain hW' hb (fun _ _ _ => trodAll_mk1 (shut_bool Try.underlying4 _)) (fun sp => trodAll_cons_mk (fr_reads wa0 wb0 _ sp) (trodAll_cons_mk (fr_reads wa1 wb1 _ sp) trodAll_mk0)) (fun _ => rfl) (ok_one (by kernel_rfl) rfl (okWide_bool_mk Try.underlying4 _))⟩

theorem proved : Rows.FractionComparesSaid :=
  OpenClaim.holds_of_wide 5 Try.f5 rfl rfl rfl rfl rfl rfl rfl ⟨rfl, rfl, rfl, rfl, rfl⟩ rfl rfl rfl rfl rfl (by kernel_rfl) Try.func5 (by kernel_rfl)
    (of_decide_eq_true (by kernel_rfl)) (by unfold Func.isWrapper; first | (rw [if_pos (by decide +kernel)]; kernel_rfl) | (rw [if_neg (by decide +kernel)]; exact ⟨rfl, rfl⟩))
    (fun os started H enc _ => lifted os started H enc)
end Go.Proofs.Ytmhheepnojbgoaa.lawCompares
