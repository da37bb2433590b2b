/- The statement FractionRounds: for any fraction and any int, the law returns true and changes nothing. No condition. -/
import Derived.Test.YtmhheepnojbgoaaRow
import Derived.Test.YtmhheepnojbgoaaKnown
import Derived.Deep.RegionHeld3
namespace Go.Proofs.Ytmhheepnojbgoaa.lawRounds
open Go.Proofs.Ytmhheepnojbgoaa Go.ChangeShapes Go.WideShapes Go.ChangeAt Go.RowKit Go.Joins Pl

/-- What a region reads of the one fraction, whatever order it takes its parts in. -/
def S1 (w : World) (n d : Int) (W : World) : Prop :=
  W.cell? ⟨w.heap.size, 0, none⟩ = some (.int .i64 n) ∧ W.cell? ⟨w.heap.size, 1, none⟩ = some (.int .i64 d) ∧ Below w.heap.size w W ∧ w.heap.size < W.heap.size
theorem S1.below {w : World} {n d : Int} {W W' : World} (h : S1 w n d W) (hb : Below W.heap.size W W') : S1 w n d W' := by
  obtain ⟨a1, a2, a9, a10⟩ := h
  obtain ⟨hc, hf⟩ := bcell hb
  have hz := hb.size
  exact ⟨by rw [hc _ _ (by omega)]; exact a1, by rw [hc _ _ (by omega)]; exact a2, a9.trans (hb.mono a9.size), by omega⟩

set_option maxHeartbeats 2000000 in
theorem walk (n d : Int) (hn1 : -9223372036854775808 ≤ n) (hn2 : n ≤ 9223372036854775807) (hd1 : -9223372036854775808 ≤ d) (hd2 : d ≤ 9223372036854775807) (m : Int) (hm1 : -9223372036854775808 ≤ m) (hm2 : m ≤ 9223372036854775807) (w : World) :
    Calls Try.prog 9 #[.agg #[.int .i64 n, .int .i64 d], .int .i64 m] w fun e w' => e = .returned (.bool true) ∧ Below w.heap.size w w' := by
  by_cases cf : canon n d
  · have Bf : Hid (canonB n d = true) := Lib.hid (by simpa [canonB] using cf)
    obtain ⟨f1, f2, f3, f4, -⟩ := cf
    by_cases hm : -1099511627776 ≤ m ∧ m ≤ 1099511627776
    · obtain ⟨m1, m2⟩ := hm
      have t1 : decide (m < -1099511627776) = false := by simp; omega
      have t2 : decide (1099511627776 < m) = false := by simp; omega
      have hb := ceil_le (m * n) d f1
      have en : -m * n = -(m * n) := Int.neg_mul _ _
      rw [← en] at hb
      obtain ⟨hb1, hb2⟩ := hb
      obtain ⟨p1, p2⟩ := prod_bd m1 m2 f3 f4
      obtain ⟨u1, u2⟩ := div_bd (m * n) d f1 (by omega) (by omega)
      obtain ⟨u3, u4⟩ := div_bd (-m * n) d f1 (by omega) (by omega)
      clear en p1 p2
      go_enter Try.func9, Try.ntmps9
      go_wp2_with fail
      refine (known_any _).mono ?_
      rintro e w1 ⟨rfl, hbw1⟩
      obtain ⟨hchbw1, hfhbw1⟩ := bcell hbw1
      have hzhbw1 := hbw1.size
      try simp at hzhbw1
      have hzhbw10 : w.heap.size < w1.heap.size := by omega
      have hBhbw1 : Below w.heap.size w w1 := Below.trans (by (repeat' (first | (with_reducible exact Below.refl _ _) | (with_reducible assumption) | (with_reducible refine Below.alloc ?_ ?_ _) | (with_reducible refine below_drewN ?_ _) | (with_reducible refine Below.drew ?_) | (with_reducible refine Below.setCell ?_ ?_ _) | go_size))) (hbw1.mono (by go_size))
      have hWhbw1 : w.heap.size ≤ w1.heap.size := hBhbw1.size
      clear hbw1 hzhbw1
      go_wp2_with fail
      refine (rcheck_any n d hn1 hn2 hd1 hd2 _).mono ?_
      rintro e w2 ⟨rfl, hbw2⟩
      obtain ⟨hchbw2, hfhbw2⟩ := bcell hbw2
      have hzhbw2 := hbw2.size
      try simp at hzhbw2
      have hzhbw20 : w.heap.size < w2.heap.size := by omega
      have hBhbw2 : Below w.heap.size w w2 := Below.trans (by (repeat' (first | (with_reducible exact Below.refl _ _) | (with_reducible assumption) | (with_reducible refine Below.alloc ?_ ?_ _) | (with_reducible refine below_drewN ?_ _) | (with_reducible refine Below.drew ?_) | (with_reducible refine Below.setCell ?_ ?_ _) | go_size))) (hbw2.mono (by go_size))
      have hWhbw2 : w.heap.size ≤ w2.heap.size := hBhbw2.size
      clear hbw2 hzhbw2
      rw [Bf.out]
      go_wp2_with fail
      have hs : S1 w n d w2 := ⟨by simp [*, go_sem], by simp [*, go_sem], by assumption, by assumption⟩
      go_region_held3 (fun W => W.cell? ⟨w.heap.size, 0, none⟩ = some (.int .i64 n) ∧ W.cell? ⟨w.heap.size, 1, none⟩ = some (.int .i64 d) ∧ Below w.heap.size w W ∧ w.heap.size < W.heap.size)
        (first | assumption | (first | exact S1.below hs ((Below.refl _ _).drew) | (refine S1.below (w := w) (n := n) (d := d) ?_ (by assumption); (first | exact S1.below hs ((Below.refl _ _).drew) | (refine S1.below (w := w) (n := n) (d := d) ?_ (by assumption); (first | exact S1.below hs ((Below.refl _ _).drew) | (refine S1.below (w := w) (n := n) (d := d) ?_ (by assumption); (first | exact S1.below hs ((Below.refl _ _).drew) | (refine S1.below (w := w) (n := n) (d := d) ?_ (by assumption); exact S1.below hs ((Below.refl _ _).drew))))))))))
        ((first | (go_at_call 34; refine (floor_any n d f3 f4 f1 f2 _).mono ?_; rintro e wr ⟨rfl, hr⟩) | (go_at_call 35; refine (rfloor1_any n d f3 f4 f1 f2 _).mono ?_; rintro e wr ⟨rfl, hr⟩) | (go_at_call 36; refine (ceil_any n d f3 f4 f1 f2 _).mono ?_; rintro e wr ⟨rfl, hr⟩) | (go_at_call 37; refine (rceil1_any n d f3 f4 f1 f2 _).mono ?_; rintro e wr ⟨rfl, hr⟩) | fail))
      have hS : S1 w n d wr := by assumption
      obtain ⟨k0, k1, hBr, hzr⟩ := hS
      have hWr : w.heap.size ≤ wr.heap.size := hBr.size
      clear hs hchbw1 hfhbw1 hchbw2 hfhbw2
      go_wp2_with fail
      refine (mulFloor_any m n d m1 m2 f3 f4 f1 f2 _).mono ?_
      rintro e w7 ⟨rfl, hbw7⟩
      obtain ⟨hchbw7, hfhbw7⟩ := bcell hbw7
      have hzhbw7 := hbw7.size
      try simp at hzhbw7
      have hzhbw70 : w.heap.size < w7.heap.size := by omega
      have hBhbw7 : Below w.heap.size w w7 := Below.trans (by (repeat' (first | (with_reducible exact Below.refl _ _) | (with_reducible assumption) | (with_reducible refine Below.alloc ?_ ?_ _) | (with_reducible refine below_drewN ?_ _) | (with_reducible refine Below.drew ?_) | (with_reducible refine Below.setCell ?_ ?_ _) | go_size))) (hbw7.mono (by go_size))
      have hWhbw7 : w.heap.size ≤ w7.heap.size := hBhbw7.size
      clear hbw7 hzhbw7
      go_wp2_with fail
      refine (mulCeil_any m n d m1 m2 f3 f4 f1 f2 _).mono ?_
      rintro e w8 ⟨rfl, hbw8⟩
      obtain ⟨hchbw8, hfhbw8⟩ := bcell hbw8
      have hzhbw8 := hbw8.size
      try simp at hzhbw8
      have hzhbw80 : w.heap.size < w8.heap.size := by omega
      have hBhbw8 : Below w.heap.size w w8 := Below.trans (by (repeat' (first | (with_reducible exact Below.refl _ _) | (with_reducible assumption) | (with_reducible refine Below.alloc ?_ ?_ _) | (with_reducible refine below_drewN ?_ _) | (with_reducible refine Below.drew ?_) | (with_reducible refine Below.setCell ?_ ?_ _) | go_size))) (hbw8.mono (by go_size))
      have hWhbw8 : w.heap.size ≤ w8.heap.size := hBhbw8.size
      clear hbw8 hzhbw8
      go_wp2_with fail
      refine (rmulFloor_any m n d m1 m2 f3 f4 f1 f2 _).mono ?_
      rintro e w9 ⟨rfl, hbw9⟩
      obtain ⟨hchbw9, hfhbw9⟩ := bcell hbw9
      have hzhbw9 := hbw9.size
      try simp at hzhbw9
      have hzhbw90 : w.heap.size < w9.heap.size := by omega
      have hBhbw9 : Below w.heap.size w w9 := Below.trans (by (repeat' (first | (with_reducible exact Below.refl _ _) | (with_reducible assumption) | (with_reducible refine Below.alloc ?_ ?_ _) | (with_reducible refine below_drewN ?_ _) | (with_reducible refine Below.drew ?_) | (with_reducible refine Below.setCell ?_ ?_ _) | go_size))) (hbw9.mono (by go_size))
      have hWhbw9 : w.heap.size ≤ w9.heap.size := hBhbw9.size
      clear hbw9 hzhbw9
      go_wp2_with fail
      refine (rmulCeil_any m n d m1 m2 f3 f4 f1 f2 _).mono ?_
      rintro e w10 ⟨rfl, hbw10⟩
      obtain ⟨hchbw10, hfhbw10⟩ := bcell hbw10
      have hzhbw10 := hbw10.size
      try simp at hzhbw10
      have hzhbw100 : w.heap.size < w10.heap.size := by omega
      have hBhbw10 : Below w.heap.size w w10 := Below.trans (by (repeat' (first | (with_reducible exact Below.refl _ _) | (with_reducible assumption) | (with_reducible refine Below.alloc ?_ ?_ _) | (with_reducible refine below_drewN ?_ _) | (with_reducible refine Below.drew ?_) | (with_reducible refine Below.setCell ?_ ?_ _) | go_size))) (hbw10.mono (by go_size))
      have hWhbw10 : w.heap.size ≤ w10.heap.size := hBhbw10.size
      clear hbw10 hzhbw10
      go_wp2_with fail
      go_ret
      exact ⟨rfl, by (repeat' (first | (with_reducible exact Below.refl _ _) | (with_reducible assumption) | (with_reducible refine Below.alloc ?_ ?_ _) | (with_reducible refine below_drewN ?_ _) | (with_reducible refine Below.drew ?_) | (with_reducible refine Below.setCell ?_ ?_ _) | go_size))⟩
    · have hm' : m < -1099511627776 ∨ 1099511627776 < m := by omega
      clear hm
      by_cases t1 : m < -1099511627776
      all_goals
        have Hm := Lib.hid hm'
        clear hm'
        try (have t2 : 1099511627776 < m := by have := Hm.out; omega)
        go_enter Try.func9, Try.ntmps9
        go_wp2_with fail
        refine (known_any _).mono ?_
        rintro e w1 ⟨rfl, hbw1⟩
        obtain ⟨hchbw1, hfhbw1⟩ := bcell hbw1
        have hzhbw1 := hbw1.size
        try simp at hzhbw1
        have hzhbw10 : w.heap.size < w1.heap.size := by omega
        have hBhbw1 : Below w.heap.size w w1 := Below.trans (by (repeat' (first | (with_reducible exact Below.refl _ _) | (with_reducible assumption) | (with_reducible refine Below.alloc ?_ ?_ _) | (with_reducible refine below_drewN ?_ _) | (with_reducible refine Below.drew ?_) | (with_reducible refine Below.setCell ?_ ?_ _) | go_size))) (hbw1.mono (by go_size))
        have hWhbw1 : w.heap.size ≤ w1.heap.size := hBhbw1.size
        clear hbw1 hzhbw1
        go_wp2_with fail
        refine (rcheck_any n d hn1 hn2 hd1 hd2 _).mono ?_
        rintro e w2 ⟨rfl, hbw2⟩
        obtain ⟨hchbw2, hfhbw2⟩ := bcell hbw2
        have hzhbw2 := hbw2.size
        try simp at hzhbw2
        have hzhbw20 : w.heap.size < w2.heap.size := by omega
        have hBhbw2 : Below w.heap.size w w2 := Below.trans (by (repeat' (first | (with_reducible exact Below.refl _ _) | (with_reducible assumption) | (with_reducible refine Below.alloc ?_ ?_ _) | (with_reducible refine below_drewN ?_ _) | (with_reducible refine Below.drew ?_) | (with_reducible refine Below.setCell ?_ ?_ _) | go_size))) (hbw2.mono (by go_size))
        have hWhbw2 : w.heap.size ≤ w2.heap.size := hBhbw2.size
        clear hbw2 hzhbw2
        rw [Bf.out]
        go_wp2_with fail
        have hs : S1 w n d w2 := ⟨by simp [*, go_sem], by simp [*, go_sem], by assumption, by assumption⟩
        go_region_held3 (fun W => W.cell? ⟨w.heap.size, 0, none⟩ = some (.int .i64 n) ∧ W.cell? ⟨w.heap.size, 1, none⟩ = some (.int .i64 d) ∧ Below w.heap.size w W ∧ w.heap.size < W.heap.size)
          (first | assumption | (first | exact S1.below hs ((Below.refl _ _).drew) | (refine S1.below (w := w) (n := n) (d := d) ?_ (by assumption); (first | exact S1.below hs ((Below.refl _ _).drew) | (refine S1.below (w := w) (n := n) (d := d) ?_ (by assumption); (first | exact S1.below hs ((Below.refl _ _).drew) | (refine S1.below (w := w) (n := n) (d := d) ?_ (by assumption); (first | exact S1.below hs ((Below.refl _ _).drew) | (refine S1.below (w := w) (n := n) (d := d) ?_ (by assumption); exact S1.below hs ((Below.refl _ _).drew))))))))))
          ((first | (go_at_call 34; refine (floor_any n d f3 f4 f1 f2 _).mono ?_; rintro e wr ⟨rfl, hr⟩) | (go_at_call 35; refine (rfloor1_any n d f3 f4 f1 f2 _).mono ?_; rintro e wr ⟨rfl, hr⟩) | (go_at_call 36; refine (ceil_any n d f3 f4 f1 f2 _).mono ?_; rintro e wr ⟨rfl, hr⟩) | (go_at_call 37; refine (rceil1_any n d f3 f4 f1 f2 _).mono ?_; rintro e wr ⟨rfl, hr⟩) | fail))
        have hS : S1 w n d wr := by assumption
        obtain ⟨k0, k1, hBr, hzr⟩ := hS
        have hWr : w.heap.size ≤ wr.heap.size := hBr.size
        clear hs hchbw1 hfhbw1 hchbw2 hfhbw2
        go_wp2_with fail
        refine (mulFloor_out m n d Hm.out _).mono ?_
        rintro e w7 ⟨rfl, hbw7⟩
        obtain ⟨hchbw7, hfhbw7⟩ := bcell hbw7
        have hzhbw7 := hbw7.size
        try simp at hzhbw7
        have hzhbw70 : w.heap.size < w7.heap.size := by omega
        have hBhbw7 : Below w.heap.size w w7 := Below.trans (by (repeat' (first | (with_reducible exact Below.refl _ _) | (with_reducible assumption) | (with_reducible refine Below.alloc ?_ ?_ _) | (with_reducible refine below_drewN ?_ _) | (with_reducible refine Below.drew ?_) | (with_reducible refine Below.setCell ?_ ?_ _) | go_size))) (hbw7.mono (by go_size))
        have hWhbw7 : w.heap.size ≤ w7.heap.size := hBhbw7.size
        clear hbw7 hzhbw7
        go_wp2_with fail
        refine (mulCeil_out m n d Hm.out _).mono ?_
        rintro e w8 ⟨rfl, hbw8⟩
        obtain ⟨hchbw8, hfhbw8⟩ := bcell hbw8
        have hzhbw8 := hbw8.size
        try simp at hzhbw8
        have hzhbw80 : w.heap.size < w8.heap.size := by omega
        have hBhbw8 : Below w.heap.size w w8 := Below.trans (by (repeat' (first | (with_reducible exact Below.refl _ _) | (with_reducible assumption) | (with_reducible refine Below.alloc ?_ ?_ _) | (with_reducible refine below_drewN ?_ _) | (with_reducible refine Below.drew ?_) | (with_reducible refine Below.setCell ?_ ?_ _) | go_size))) (hbw8.mono (by go_size))
        have hWhbw8 : w.heap.size ≤ w8.heap.size := hBhbw8.size
        clear hbw8 hzhbw8
        go_wp2_with fail
        go_ret
        exact ⟨rfl, by (repeat' (first | (with_reducible exact Below.refl _ _) | (with_reducible assumption) | (with_reducible refine Below.alloc ?_ ?_ _) | (with_reducible refine below_drewN ?_ _) | (with_reducible refine Below.drew ?_) | (with_reducible refine Below.setCell ?_ ?_ _) | go_size))⟩
  · have Bf : Hid (canonB n d = false) := Lib.hid (by simpa [canonB] using cf)
    clear cf
    go_enter Try.func9, Try.ntmps9
    go_wp2_with fail
    refine (known_any _).mono ?_
    rintro e w1 ⟨rfl, hbw1⟩
    obtain ⟨hchbw1, hfhbw1⟩ := bcell hbw1
    have hzhbw1 := hbw1.size
    try simp at hzhbw1
    have hzhbw10 : w.heap.size < w1.heap.size := by omega
    have hBhbw1 : Below w.heap.size w w1 := Below.trans (by (repeat' (first | (with_reducible exact Below.refl _ _) | (with_reducible assumption) | (with_reducible refine Below.alloc ?_ ?_ _) | (with_reducible refine below_drewN ?_ _) | (with_reducible refine Below.drew ?_) | (with_reducible refine Below.setCell ?_ ?_ _) | go_size))) (hbw1.mono (by go_size))
    have hWhbw1 : w.heap.size ≤ w1.heap.size := hBhbw1.size
    clear hbw1 hzhbw1
    go_wp2_with fail
    refine (rcheck_any n d hn1 hn2 hd1 hd2 _).mono ?_
    rintro e w2 ⟨rfl, hbw2⟩
    obtain ⟨hchbw2, hfhbw2⟩ := bcell hbw2
    have hzhbw2 := hbw2.size
    try simp at hzhbw2
    have hzhbw20 : w.heap.size < w2.heap.size := by omega
    have hBhbw2 : Below w.heap.size w w2 := Below.trans (by (repeat' (first | (with_reducible exact Below.refl _ _) | (with_reducible assumption) | (with_reducible refine Below.alloc ?_ ?_ _) | (with_reducible refine below_drewN ?_ _) | (with_reducible refine Below.drew ?_) | (with_reducible refine Below.setCell ?_ ?_ _) | go_size))) (hbw2.mono (by go_size))
    have hWhbw2 : w.heap.size ≤ w2.heap.size := hBhbw2.size
    clear hbw2 hzhbw2
    rw [Bf.out]
    go_wp2_with fail
    refine (known_any _).mono ?_
    rintro e w3 ⟨rfl, hbw3⟩
    obtain ⟨hchbw3, hfhbw3⟩ := bcell hbw3
    have hzhbw3 := hbw3.size
    try simp at hzhbw3
    have hzhbw30 : w.heap.size < w3.heap.size := by omega
    have hBhbw3 : Below w.heap.size w w3 := Below.trans (by (repeat' (first | (with_reducible exact Below.refl _ _) | (with_reducible assumption) | (with_reducible refine Below.alloc ?_ ?_ _) | (with_reducible refine below_drewN ?_ _) | (with_reducible refine Below.drew ?_) | (with_reducible refine Below.setCell ?_ ?_ _) | go_size))) (hbw3.mono (by go_size))
    have hWhbw3 : w.heap.size ≤ w3.heap.size := hBhbw3.size
    clear hbw3 hzhbw3
    go_wp2_with fail
    go_ret
    exact ⟨rfl, by (repeat' (first | (with_reducible exact Below.refl _ _) | (with_reducible assumption) | (with_reducible refine Below.alloc ?_ ?_ _) | (with_reducible refine below_drewN ?_ _) | (with_reducible refine Below.drew ?_) | (with_reducible refine Below.setCell ?_ ?_ _) | go_size))⟩

set_option maxRecDepth 100000 in
theorem lifted (os : Os) (started : os.Started) (H : Type) (enc : TypeId × Value → H) :
    ReturnsInHanded {} Try.checked os 9 .any (Rows.fractionRoundsSpec.pre6 enc Try.prog Try.f9 Rows.fractionRoundsRow.domain false) (Rows.fractionRoundsSpec.post enc Try.prog Try.f9 false true false false) := by
  refine returnsInHanded_of_change (C := Try.checked) own started (by kernel_rfl) Try.func9
    (ChangeSpec.witness6 (enc := enc) (C := Try.checked) false ⟨#[], #[.agg #[.int .i64 0, .int .i64 0], .int .i64 0], []⟩ 8 (by kernel_rfl) (by kernel_rfl) (by kernel_rfl) (by kernel_rfl)) ?_
  intro W base args ds gs before hval0 hW _ _
  have hval : ∀ (j : Nat) t v, Try.f9.params[j]? = some t → args[j]? = some v → Value.okWide Try.prog W .any base t v := hval0
  have hW' := hW
  obtain ⟨p, q, hA0, hV, rfl, _, _⟩ := hW
  have hA : DataW.TrodAll enc Try.prog W 0 (fun _ => true) true Try.f9.params.toList args.toList ds p := hA0
  rw [Try.params9] at hA hval
  obtain ⟨v0, vs0, d0, ds0, p0, q0, hargs0, rfl, rfl, h0, r0⟩ := trodAll_cons hA
  obtain ⟨v1, vs1, d1, ds1, p1, q1, hargs1, rfl, rfl, h1, r1⟩ := trodAll_cons r0
  obtain ⟨rfl, rfl, rfl⟩ := trodAll_nil r1
  obtain rfl : args = #[v0, v1] := by cases args; simp_all
  obtain ⟨rfl, rfl⟩ := trodVars_none hV
  obtain ⟨c0, e0, y0, z0, m0, rfl, rfl, rfl, hy0, hz0⟩ := open_agg2 Try.underlying23 (by kernel_rfl) cells_fr (hval 0 23 v0 rfl rfl) h0
  obtain ⟨a0, ea0, rfl, wa0⟩ := DataW.trod_int Try.underlying3 hy0
  obtain ⟨b0, eb0, rfl, wb0⟩ := DataW.trod_int Try.underlying3 hz0
  simp at ea0 eb0
  subst ea0 eb0
  obtain ⟨a1, rfl, rfl, rfl, wa1⟩ := open_int Try.underlying3 (hval 1 3 v1 rfl rfl) h1
  clear hA0 hval0
  simp only [List.append_nil] at hW'
  refine (walk a0 b0 (bd64 wa0).1 (bd64 wa0).2 (bd64 wb0).1 (bd64 wb0).2 a1 (bd64 wa1).1 (bd64 wa1).2 W).mono fun e W' ⟨he, hb⟩ => ?_
  subst he
  exact ⟨_, rfl, post_plain hW' hb (fun _ _ _ => trodAll_mk1 (shut_bool Try.underlying4 _)) (fun sp => trodAll_cons_mk (fr_reads wa0 wb0 _ sp) (trodAll_cons_mk (shut_int Try.underlying3 wa1) trodAll_mk0)) (fun _ => rfl) (ok_one (by kernel_rfl) rfl (okWide_bool_mk Try.underlying4 _))⟩

theorem proved : Rows.FractionRoundsSaid :=
  OpenClaim.holds_of_wide 9 Try.f9 rfl rfl rfl rfl rfl rfl rfl ⟨rfl, rfl, rfl, rfl, rfl⟩ rfl rfl rfl rfl rfl (by kernel_rfl) Try.func9 (by kernel_rfl)
    (of_decide_eq_true (by kernel_rfl)) (by unfold Func.isWrapper; first | (rw [if_pos (by decide +kernel)]; kernel_rfl) | (rw [if_neg (by decide +kernel)]; exact ⟨rfl, rfl⟩))
    (fun os started H enc _ => lifted os started H enc)
end Go.Proofs.Ytmhheepnojbgoaa.lawRounds
