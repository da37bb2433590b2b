/- The statement FractionMakes: for any two ints, the law returns true and changes nothing. No condition. -/
import Derived.Test.YtmhheepnojbgoaaRow
import Derived.Test.YtmhheepnojbgoaaKnown
import Derived.Test.YtmhheepnojbgoaaCmp
namespace Go.Proofs.Ytmhheepnojbgoaa.lawMakes
open Go.Proofs.Ytmhheepnojbgoaa Go.ChangeShapes Go.WideShapes Go.ChangeAt Go.RowKit Go.Joins Pl

theorem fromInt_any (x : Int) (h1 : -9223372036854775808 ≤ x) (h2 : x ≤ 9223372036854775807) (w : World) :
    Calls Try.prog 16 #[.int .i64 x] w fun e w' => e = .returned (.tuple #[.agg #[.int .i64 (mkN x 1), .int .i64 (mkD x 1)], .int .i64 (mkE x 1)]) ∧ Below w.heap.size w w' := by
  go_enter Try.func16, Try.ntmps16
  go_wp2_with fail
  refine (make_any x 1 h1 h2 (by omega) (by omega) (by omega) _).mono ?_
  rintro e w1 ⟨rfl, hbw1⟩
  obtain ⟨hchbw1, hfhbw1⟩ := bcell hbw1
  have hzhbw1 := hbw1.size
  try simp at hzhbw1
  have hzhbw10 : w.heap.size < w1.heap.size := by omega
  have hBhbw1 : Below w.heap.size w w1 := Below.trans (by (repeat' (first | (with_reducible exact Below.refl _ _) | (with_reducible assumption) | (with_reducible refine Below.alloc ?_ ?_ _) | (with_reducible refine below_drewN ?_ _) | (with_reducible refine Below.drew ?_) | (with_reducible refine Below.setCell ?_ ?_ _) | go_size))) (hbw1.mono (by go_size))
  have hWhbw1 : w.heap.size ≤ w1.heap.size := hBhbw1.size
  clear hbw1 hzhbw1
  go_wp2
  refine bodyPost_ret (v := .tuple #[.agg #[.int .i64 (mkN x 1), .int .i64 (mkD x 1)], .int .i64 (mkE x 1)]) (by simp [results, Try.results16, go_sem, *]) rfl ⟨rfl, by (repeat' (first | (with_reducible exact Below.refl _ _) | (with_reducible assumption) | (with_reducible refine Below.alloc ?_ ?_ _) | (with_reducible refine below_drewN ?_ _) | (with_reducible refine Below.drew ?_) | (with_reducible refine Below.setCell ?_ ?_ _) | go_size))⟩

/-- The law's helper 'is', where both results are the canonical form of the same two ints. -/
theorem is_mk (x y : Int) (hy : y ≠ 0) (w : World) :
    Calls Try.prog 17 #[.agg #[.int .i64 (mkN x y), .int .i64 (mkD x y)], .int .i64 (mkE x y), .agg #[.int .i64 (mkN x y), .int .i64 (mkD x y)], .bool (decide (mkE x y = 0))] w fun e' w' => e' = .returned (.bool true) ∧ Below w.heap.size w w' := by
  refine (is_any _ _ _ _ _ _ _).mono ?_
  rintro e w' ⟨rfl, hb⟩
  refine ⟨?_, hb⟩
  rcases mkE_ne x y hy with h | h
  · simp [h]
  · obtain ⟨h1, h2⟩ := mk_bad (x := x) (y := y) (by omega)
    simp [h, h1, h2]

set_option maxHeartbeats 1000000 in
theorem walk (x : Int) (h1 : -9223372036854775808 ≤ x) (h2 : x ≤ 9223372036854775807) (y : Int) (h3 : -9223372036854775808 ≤ y) (h4 : y ≤ 9223372036854775807) (w : World) :
    Calls Try.prog 4 #[.int .i64 x, .int .i64 y] w fun e w' => e = .returned (.bool true) ∧ Below w.heap.size w w' := by
  by_cases hy : y = 0
  · subst hy
    go_enter Try.func4, Try.ntmps4
    go_wp2_with fail
    refine (known_any _).mono ?_
    rintro e w1 ⟨rfl, hbw1⟩
    obtain ⟨hchbw1, hfhbw1⟩ := bcell hbw1
    have hzhbw1 := hbw1.size
    try simp at hzhbw1
    have hBhbw1 : Below w.heap.size w w1 := Below.trans (by (repeat' (first | (with_reducible exact Below.refl _ _) | (with_reducible assumption) | (with_reducible refine Below.alloc ?_ ?_ _) | (with_reducible refine below_drewN ?_ _) | (with_reducible refine Below.drew ?_) | (with_reducible refine Below.setCell ?_ ?_ _) | go_size))) (hbw1.mono (by go_size))
    have hWhbw1 : w.heap.size ≤ w1.heap.size := hBhbw1.size
    clear hbw1 hzhbw1
    go_wp2_with fail
    refine (rmake_any x 1 h1 h2 (by omega) (by omega) (by omega) _).mono ?_
    rintro e w2 ⟨rfl, hbw2⟩
    obtain ⟨hchbw2, hfhbw2⟩ := bcell hbw2
    have hzhbw2 := hbw2.size
    try simp at hzhbw2
    have hBhbw2 : Below w.heap.size w w2 := Below.trans (by (repeat' (first | (with_reducible exact Below.refl _ _) | (with_reducible assumption) | (with_reducible refine Below.alloc ?_ ?_ _) | (with_reducible refine below_drewN ?_ _) | (with_reducible refine Below.drew ?_) | (with_reducible refine Below.setCell ?_ ?_ _) | go_size))) (hbw2.mono (by go_size))
    have hWhbw2 : w.heap.size ≤ w2.heap.size := hBhbw2.size
    clear hbw2 hzhbw2
    go_wp2_with fail
    refine (fromInt_any x h1 h2 _).mono ?_
    rintro e w3 ⟨rfl, hbw3⟩
    obtain ⟨hchbw3, hfhbw3⟩ := bcell hbw3
    have hzhbw3 := hbw3.size
    try simp at hzhbw3
    have hzhbw30 : w2.heap.size < w3.heap.size := by omega
    have hBhbw3 : Below w.heap.size w w3 := Below.trans (by (repeat' (first | (with_reducible exact Below.refl _ _) | (with_reducible assumption) | (with_reducible refine Below.alloc ?_ ?_ _) | (with_reducible refine below_drewN ?_ _) | (with_reducible refine Below.drew ?_) | (with_reducible refine Below.setCell ?_ ?_ _) | go_size))) (hbw3.mono (by go_size))
    have hWhbw3 : w.heap.size ≤ w3.heap.size := hBhbw3.size
    clear hbw3 hzhbw3
    go_wp2_with fail
    refine (is_mk x 1 (by omega) _).mono ?_
    rintro e w4 ⟨rfl, hbw4⟩
    obtain ⟨hchbw4, hfhbw4⟩ := bcell hbw4
    have hzhbw4 := hbw4.size
    try simp at hzhbw4
    have hzhbw40 : w2.heap.size < w4.heap.size := by omega
    have hzhbw41 : w3.heap.size < w4.heap.size := by omega
    have hBhbw4 : Below w.heap.size w w4 := Below.trans (by (repeat' (first | (with_reducible exact Below.refl _ _) | (with_reducible assumption) | (with_reducible refine Below.alloc ?_ ?_ _) | (with_reducible refine below_drewN ?_ _) | (with_reducible refine Below.drew ?_) | (with_reducible refine Below.setCell ?_ ?_ _) | go_size))) (hbw4.mono (by go_size))
    have hWhbw4 : w.heap.size ≤ w4.heap.size := hBhbw4.size
    clear hbw4 hzhbw4
    go_wp2_with fail
    refine (make_zero x _).mono ?_
    rintro e w5 ⟨rfl, hbw5⟩
    obtain ⟨hchbw5, hfhbw5⟩ := bcell hbw5
    have hzhbw5 := hbw5.size
    try simp at hzhbw5
    have hzhbw50 : w2.heap.size < w5.heap.size := by omega
    have hzhbw51 : w3.heap.size < w5.heap.size := by omega
    have hBhbw5 : Below w.heap.size w w5 := Below.trans (by (repeat' (first | (with_reducible exact Below.refl _ _) | (with_reducible assumption) | (with_reducible refine Below.alloc ?_ ?_ _) | (with_reducible refine below_drewN ?_ _) | (with_reducible refine Below.drew ?_) | (with_reducible refine Below.setCell ?_ ?_ _) | go_size))) (hbw5.mono (by go_size))
    have hWhbw5 : w.heap.size ≤ w5.heap.size := hBhbw5.size
    clear hbw5 hzhbw5
    go_wp2
    go_ret
    exact ⟨rfl, by (repeat' (first | (with_reducible exact Below.refl _ _) | (with_reducible assumption) | (with_reducible refine Below.alloc ?_ ?_ _) | (with_reducible refine below_drewN ?_ _) | (with_reducible refine Below.drew ?_) | (with_reducible refine Below.setCell ?_ ?_ _) | go_size))⟩
  · have hy' : (y == 0) = false := by simpa using hy
    go_enter Try.func4, Try.ntmps4
    go_wp2_with fail
    refine (known_any _).mono ?_
    rintro e w1 ⟨rfl, hbw1⟩
    obtain ⟨hchbw1, hfhbw1⟩ := bcell hbw1
    have hzhbw1 := hbw1.size
    try simp at hzhbw1
    have hBhbw1 : Below w.heap.size w w1 := Below.trans (by (repeat' (first | (with_reducible exact Below.refl _ _) | (with_reducible assumption) | (with_reducible refine Below.alloc ?_ ?_ _) | (with_reducible refine below_drewN ?_ _) | (with_reducible refine Below.drew ?_) | (with_reducible refine Below.setCell ?_ ?_ _) | go_size))) (hbw1.mono (by go_size))
    have hWhbw1 : w.heap.size ≤ w1.heap.size := hBhbw1.size
    clear hbw1 hzhbw1
    go_wp2_with fail
    refine (rmake_any x 1 h1 h2 (by omega) (by omega) (by omega) _).mono ?_
    rintro e w2 ⟨rfl, hbw2⟩
    obtain ⟨hchbw2, hfhbw2⟩ := bcell hbw2
    have hzhbw2 := hbw2.size
    try simp at hzhbw2
    have hBhbw2 : Below w.heap.size w w2 := Below.trans (by (repeat' (first | (with_reducible exact Below.refl _ _) | (with_reducible assumption) | (with_reducible refine Below.alloc ?_ ?_ _) | (with_reducible refine below_drewN ?_ _) | (with_reducible refine Below.drew ?_) | (with_reducible refine Below.setCell ?_ ?_ _) | go_size))) (hbw2.mono (by go_size))
    have hWhbw2 : w.heap.size ≤ w2.heap.size := hBhbw2.size
    clear hbw2 hzhbw2
    go_wp2_with fail
    refine (fromInt_any x h1 h2 _).mono ?_
    rintro e w3 ⟨rfl, hbw3⟩
    obtain ⟨hchbw3, hfhbw3⟩ := bcell hbw3
    have hzhbw3 := hbw3.size
    try simp at hzhbw3
    have hzhbw30 : w2.heap.size < w3.heap.size := by omega
    have hBhbw3 : Below w.heap.size w w3 := Below.trans (by (repeat' (first | (with_reducible exact Below.refl _ _) | (with_reducible assumption) | (with_reducible refine Below.alloc ?_ ?_ _) | (with_reducible refine below_drewN ?_ _) | (with_reducible refine Below.drew ?_) | (with_reducible refine Below.setCell ?_ ?_ _) | go_size))) (hbw3.mono (by go_size))
    have hWhbw3 : w.heap.size ≤ w3.heap.size := hBhbw3.size
    clear hbw3 hzhbw3
    go_wp2_with fail
    refine (is_mk x 1 (by omega) _).mono ?_
    rintro e w4 ⟨rfl, hbw4⟩
    obtain ⟨hchbw4, hfhbw4⟩ := bcell hbw4
    have hzhbw4 := hbw4.size
    try simp at hzhbw4
    have hzhbw40 : w2.heap.size < w4.heap.size := by omega
    have hzhbw41 : w3.heap.size < w4.heap.size := by omega
    have hBhbw4 : Below w.heap.size w w4 := Below.trans (by (repeat' (first | (with_reducible exact Below.refl _ _) | (with_reducible assumption) | (with_reducible refine Below.alloc ?_ ?_ _) | (with_reducible refine below_drewN ?_ _) | (with_reducible refine Below.drew ?_) | (with_reducible refine Below.setCell ?_ ?_ _) | go_size))) (hbw4.mono (by go_size))
    have hWhbw4 : w.heap.size ≤ w4.heap.size := hBhbw4.size
    clear hbw4 hzhbw4
    go_wp2_with fail
    refine (make_any x y h1 h2 h3 h4 hy _).mono ?_
    rintro e w5 ⟨rfl, hbw5⟩
    obtain ⟨hchbw5, hfhbw5⟩ := bcell hbw5
    have hzhbw5 := hbw5.size
    try simp at hzhbw5
    have hzhbw50 : w2.heap.size < w5.heap.size := by omega
    have hzhbw51 : w3.heap.size < w5.heap.size := by omega
    have hBhbw5 : Below w.heap.size w w5 := Below.trans (by (repeat' (first | (with_reducible exact Below.refl _ _) | (with_reducible assumption) | (with_reducible refine Below.alloc ?_ ?_ _) | (with_reducible refine below_drewN ?_ _) | (with_reducible refine Below.drew ?_) | (with_reducible refine Below.setCell ?_ ?_ _) | go_size))) (hbw5.mono (by go_size))
    have hWhbw5 : w.heap.size ≤ w5.heap.size := hBhbw5.size
    clear hbw5 hzhbw5
    go_wp2_with fail
    refine (rmake_any x y h1 h2 h3 h4 hy _).mono ?_
    rintro e w6 ⟨rfl, hbw6⟩
    obtain ⟨hchbw6, hfhbw6⟩ := bcell hbw6
    have hzhbw6 := hbw6.size
    try simp at hzhbw6
    have hzhbw60 : w2.heap.size < w6.heap.size := by omega
    have hzhbw61 : w3.heap.size < w6.heap.size := by omega
    have hzhbw62 : w5.heap.size < w6.heap.size := by omega
    have hBhbw6 : Below w.heap.size w w6 := Below.trans (by (repeat' (first | (with_reducible exact Below.refl _ _) | (with_reducible assumption) | (with_reducible refine Below.alloc ?_ ?_ _) | (with_reducible refine below_drewN ?_ _) | (with_reducible refine Below.drew ?_) | (with_reducible refine Below.setCell ?_ ?_ _) | go_size))) (hbw6.mono (by go_size))
    have hWhbw6 : w.heap.size ≤ w6.heap.size := hBhbw6.size
    clear hbw6 hzhbw6
    have hv0 : w6.cell? ⟨w2.heap.size, 0, none⟩ = some (.int .i64 (mkN x 1)) := by simp [*, go_sem]
    have hv1 : w6.cell? ⟨w2.heap.size, 1, none⟩ = some (.int .i64 (mkD x 1)) := by simp [*, go_sem]
    go_wp2_with fail
    refine (is_mk x y hy _).mono ?_
    rintro e w7 ⟨rfl, hbw7⟩
    obtain ⟨hchbw7, hfhbw7⟩ := bcell hbw7
    have hzhbw7 := hbw7.size
    try simp at hzhbw7
    have hzhbw70 : w2.heap.size < w7.heap.size := by omega
    have hzhbw71 : w3.heap.size < w7.heap.size := by omega
    have hzhbw72 : w5.heap.size < w7.heap.size := by omega
    have hBhbw7 : Below w.heap.size w w7 := Below.trans (by (repeat' (first | (with_reducible exact Below.refl _ _) | (with_reducible assumption) | (with_reducible refine Below.alloc ?_ ?_ _) | (with_reducible refine below_drewN ?_ _) | (with_reducible refine Below.drew ?_) | (with_reducible refine Below.setCell ?_ ?_ _) | go_size))) (hbw7.mono (by go_size))
    have hWhbw7 : w.heap.size ≤ w7.heap.size := hBhbw7.size
    clear hbw7 hzhbw7
    go_wp2_with fail
    go_ret
    exact ⟨rfl, by (repeat' (first | (with_reducible exact Below.refl _ _) | (with_reducible assumption) | (with_reducible refine Below.alloc ?_ ?_ _) | (with_reducible refine below_drewN ?_ _) | (with_reducible refine Below.drew ?_) | (with_reducible refine Below.setCell ?_ ?_ _) | go_size))⟩

set_option maxRecDepth 100000 in
theorem lifted (os : Os) (started : os.Started) (H : Type) (enc : TypeId × Value → H) :
    ReturnsInHanded {} Try.checked os 4 .any (Rows.fractionMakesSpec.pre6 enc Try.prog Try.f4 Rows.fractionMakesRow.domain false) (Rows.fractionMakesSpec.post enc Try.prog Try.f4 false true false false) := by
  refine returnsInHanded_of_change (C := Try.checked) own started (by kernel_rfl) Try.func4
    (ChangeSpec.witness6 (enc := enc) (C := Try.checked) false ⟨#[], #[.int .i64 0, .int .i64 0], []⟩ 8 (by kernel_rfl) (by kernel_rfl) (by kernel_rfl) (by kernel_rfl)) ?_
  intro W base args ds gs before hval0 hW _ _
  have hval : ∀ (j : Nat) t v, Try.f4.params[j]? = some t → args[j]? = some v → Value.okWide Try.prog W .any base t v := hval0
  have hW' := hW
  obtain ⟨p, q, hA0, hV, rfl, _, _⟩ := hW
  have hA : DataW.TrodAll enc Try.prog W 0 (fun _ => true) true Try.f4.params.toList args.toList ds p := hA0
  rw [Try.params4] at hA hval
  obtain ⟨v0, vs0, d0, ds0, p0, q0, hargs0, rfl, rfl, h0, r0⟩ := trodAll_cons hA
  obtain ⟨v1, vs1, d1, ds1, p1, q1, hargs1, rfl, rfl, h1, r1⟩ := trodAll_cons r0
  obtain ⟨rfl, rfl, rfl⟩ := trodAll_nil r1
  obtain rfl : args = #[v0, v1] := by cases args; simp_all
  obtain ⟨rfl, rfl⟩ := trodVars_none hV
  obtain ⟨a0, rfl, rfl, rfl, wa0⟩ := open_int Try.underlying3 (hval 0 3 v0 rfl rfl) h0
  obtain ⟨a1, rfl, rfl, rfl, wa1⟩ := open_int Try.underlying3 (hval 1 3 v1 rfl rfl) h1
  clear hA0 hval0
  simp only [List.append_nil] at hW'
  refine (walk a0 (bd64 wa0).1 (bd64 wa0).2 a1 (bd64 wa1).1 (bd64 wa1).2 W).mono fun e W' ⟨he, hb⟩ => ?_
  subst he
  exact ⟨_, rfl, post_plain hW' hb (fun _ _ _ => trodAll_mk1 (shut_bool Try.underlying4 _)) (fun sp => trodAll_cons_mk (shut_int Try.underlying3 wa0) (trodAll_cons_mk (shut_int Try.underlying3 wa1) trodAll_mk0)) (fun _ => rfl) (ok_one (by kernel_rfl) rfl (okWide_bool_mk Try.underlying4 _))⟩

theorem proved : Rows.FractionMakesSaid :=
  OpenClaim.holds_of_wide 4 Try.f4 rfl rfl rfl rfl rfl rfl rfl ⟨rfl, rfl, rfl, rfl, rfl⟩ rfl rfl rfl rfl rfl (by kernel_rfl) Try.func4 (by kernel_rfl)
    (of_decide_eq_true (by kernel_rfl)) (by unfold Func.isWrapper; first | (rw [if_pos (by decide +kernel)]; kernel_rfl) | (rw [if_neg (by decide +kernel)]; exact ⟨rfl, rfl⟩))
    (fun os started H enc _ => lifted os started H enc)
end Go.Proofs.Ytmhheepnojbgoaa.lawMakes
