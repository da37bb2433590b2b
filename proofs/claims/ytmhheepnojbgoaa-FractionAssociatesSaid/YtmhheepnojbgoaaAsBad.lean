/- The law of association, where a fraction is not small. -/
import Derived.Test.YtmhheepnojbgoaaRow
import Derived.Test.YtmhheepnojbgoaaKnown
namespace Go.Proofs.Ytmhheepnojbgoaa.lawAssociates
open Go.Proofs.Ytmhheepnojbgoaa Go.ChangeShapes Go.WideShapes Go.ChangeAt Go.RowKit Go.Joins Pl

/-- What the law asks of each fraction. -/
def small (n d : Int) : Prop := canonB n d = true ∧ n ≤ 60 ∧ -60 ≤ n ∧ d ≤ 60

set_option maxHeartbeats 4000000 in
set_option maxRecDepth 100000 in
theorem walk_bad (n d : Int) (hn1 : -9223372036854775808 ≤ n) (hn2 : n ≤ 9223372036854775807) (hd1 : -9223372036854775808 ≤ d) (hd2 : d ≤ 9223372036854775807) (p q : Int) (hp1 : -9223372036854775808 ≤ p) (hp2 : p ≤ 9223372036854775807) (hq1 : -9223372036854775808 ≤ q) (hq2 : q ≤ 9223372036854775807) (k l : Int) (hk1 : -9223372036854775808 ≤ k) (hk2 : k ≤ 9223372036854775807) (hl1 : -9223372036854775808 ≤ l) (hl2 : l ≤ 9223372036854775807) (g : ¬ (small n d ∧ small p q ∧ small k l)) (w : World) :
    Calls Try.prog 8 #[.agg #[.int .i64 n, .int .i64 d], .agg #[.int .i64 p, .int .i64 q], .agg #[.int .i64 k, .int .i64 l]] w fun e w' => e = .returned (.bool true) ∧ Below w.heap.size w w' := by
  by_cases g0 : small n d
  · obtain ⟨B0, a01, a02, a03⟩ := g0
    have B0 := Lib.hid B0
    by_cases g1 : small p q
    · have g2 : ¬ small k l := fun h => g ⟨⟨B0.out, a01, a02, a03⟩, g1, h⟩
      obtain ⟨B1, a11, a12, a13⟩ := g1
      have B1 := Lib.hid B1
      clear g
      have hb : canonB k l = false ∨ (canonB k l = true ∧ 60 < k) ∨ (canonB k l = true ∧ k < -60 ∧ k ≤ 60) ∨ (canonB k l = true ∧ 60 < l ∧ k ≤ 60 ∧ -60 ≤ k) := by
        cases hB : canonB k l
        · exact Or.inl rfl
        · have := g2
          unfold small at this
          rw [hB] at this
          simp at this ⊢
          omega
      rcases hb with hB | ⟨hB, z1⟩ | ⟨hB, z1, z2⟩ | ⟨hB, z1, z2, z3⟩
      all_goals
        have B2 := Lib.hid hB
        clear hB g2
        go_enter Try.func8, Try.ntmps8
        go_wp2_with fail
        refine wp_loop_rounds 4 ?_
        rw [rounds_succ]
        go_wp2_with fail
        refine (rcheck_any n d hn1 hn2 hd1 hd2 _).mono ?_
        rintro e x0 ⟨rfl, hbx0⟩
        obtain ⟨hchbx0, hfhbx0⟩ := bcell hbx0
        have hzhbx0 := hbx0.size
        try simp at hzhbx0
        have hzhbx00 : w.heap.size < x0.heap.size := by omega
        have hzhbx01 : w.heap.size + 1 < x0.heap.size := by omega
        have hzhbx02 : w.heap.size + 1 + 1 < x0.heap.size := by omega
        have hzhbx03 : w.heap.size + 1 + 1 + 1 < x0.heap.size := by omega
        have hBhbx0 : Below w.heap.size w x0 := Below.trans (by (repeat' (first | (with_reducible exact Below.refl _ _) | (with_reducible assumption) | (with_reducible refine Below.alloc ?_ ?_ _) | (with_reducible refine below_drewN ?_ _) | (with_reducible refine Below.drew ?_) | (with_reducible refine Below.setCell ?_ ?_ _) | go_size))) (hbx0.mono (by go_size))
        have hWhbx0 : w.heap.size ≤ x0.heap.size := hBhbx0.size
        clear hbx0 hzhbx0
        rw [B0.out]
        go_wp2_with fail
        rw [rounds_succ]
        go_wp2_with fail
        refine (rcheck_any p q hp1 hp2 hq1 hq2 _).mono ?_
        rintro e x1 ⟨rfl, hbx1⟩
        obtain ⟨hchbx1, hfhbx1⟩ := bcell hbx1
        have hzhbx1 := hbx1.size
        try simp at hzhbx1
        have hzhbx10 : w.heap.size < x1.heap.size := by omega
        have hzhbx11 : w.heap.size + 1 < x1.heap.size := by omega
        have hzhbx12 : w.heap.size + 1 + 1 < x1.heap.size := by omega
        have hzhbx13 : w.heap.size + 1 + 1 + 1 < x1.heap.size := by omega
        have hBhbx1 : Below w.heap.size w x1 := Below.trans (by (repeat' (first | (with_reducible exact Below.refl _ _) | (with_reducible assumption) | (with_reducible refine Below.alloc ?_ ?_ _) | (with_reducible refine below_drewN ?_ _) | (with_reducible refine Below.drew ?_) | (with_reducible refine Below.setCell ?_ ?_ _) | go_size))) (hbx1.mono (by go_size))
        have hWhbx1 : w.heap.size ≤ x1.heap.size := hBhbx1.size
        clear hbx1 hzhbx1
        rw [B1.out]
        go_wp2_with fail
        rw [rounds_succ]
        go_wp2_with fail
        refine (rcheck_any k l hk1 hk2 hl1 hl2 _).mono ?_
        rintro e x2 ⟨rfl, hbx2⟩
        obtain ⟨hchbx2, hfhbx2⟩ := bcell hbx2
        have hzhbx2 := hbx2.size
        try simp at hzhbx2
        have hzhbx20 : w.heap.size < x2.heap.size := by omega
        have hzhbx21 : w.heap.size + 1 < x2.heap.size := by omega
        have hzhbx22 : w.heap.size + 1 + 1 < x2.heap.size := by omega
        have hzhbx23 : w.heap.size + 1 + 1 + 1 < x2.heap.size := by omega
        have hBhbx2 : Below w.heap.size w x2 := Below.trans (by (repeat' (first | (with_reducible exact Below.refl _ _) | (with_reducible assumption) | (with_reducible refine Below.alloc ?_ ?_ _) | (with_reducible refine below_drewN ?_ _) | (with_reducible refine Below.drew ?_) | (with_reducible refine Below.setCell ?_ ?_ _) | go_size))) (hbx2.mono (by go_size))
        have hWhbx2 : w.heap.size ≤ x2.heap.size := hBhbx2.size
        clear hbx2 hzhbx2
        rw [B2.out]
        go_wp2_with fail
        refine (known_any _).mono ?_
        rintro e y ⟨rfl, hby⟩
        obtain ⟨hchby, hfhby⟩ := bcell hby
        have hzhby := hby.size
        try simp at hzhby
        have hzhby0 : w.heap.size < y.heap.size := by omega
        have hzhby1 : w.heap.size + 1 < y.heap.size := by omega
        have hzhby2 : w.heap.size + 1 + 1 < y.heap.size := by omega
        have hzhby3 : w.heap.size + 1 + 1 + 1 < y.heap.size := by omega
        have hBhby : Below w.heap.size w y := Below.trans (by (repeat' (first | (with_reducible exact Below.refl _ _) | (with_reducible assumption) | (with_reducible refine Below.alloc ?_ ?_ _) | (with_reducible refine below_drewN ?_ _) | (with_reducible refine Below.drew ?_) | (with_reducible refine Below.setCell ?_ ?_ _) | go_size))) (hby.mono (by go_size))
        have hWhby : w.heap.size ≤ y.heap.size := hBhby.size
        clear hby hzhby
        go_wp2_with fail
        go_ret
        exact ⟨rfl, by (repeat' (first | (with_reducible exact Below.refl _ _) | (with_reducible assumption) | (with_reducible refine Below.alloc ?_ ?_ _) | (with_reducible refine below_drewN ?_ _) | (with_reducible refine Below.drew ?_) | (with_reducible refine Below.setCell ?_ ?_ _) | go_size))⟩
    · clear g
      have hb : canonB p q = false ∨ (canonB p q = true ∧ 60 < p) ∨ (canonB p q = true ∧ p < -60 ∧ p ≤ 60) ∨ (canonB p q = true ∧ 60 < q ∧ p ≤ 60 ∧ -60 ≤ p) := by
        cases hB : canonB p q
        · exact Or.inl rfl
        · have := g1
          unfold small at this
          rw [hB] at this
          simp at this ⊢
          omega
      rcases hb with hB | ⟨hB, z1⟩ | ⟨hB, z1, z2⟩ | ⟨hB, z1, z2, z3⟩
      all_goals
        have B1 := Lib.hid hB
        clear hB g1
        go_enter Try.func8, Try.ntmps8
        go_wp2_with fail
        refine wp_loop_rounds 4 ?_
        rw [rounds_succ]
        go_wp2_with fail
        refine (rcheck_any n d hn1 hn2 hd1 hd2 _).mono ?_
        rintro e x0 ⟨rfl, hbx0⟩
        obtain ⟨hchbx0, hfhbx0⟩ := bcell hbx0
        have hzhbx0 := hbx0.size
        try simp at hzhbx0
        have hzhbx00 : w.heap.size < x0.heap.size := by omega
        have hzhbx01 : w.heap.size + 1 < x0.heap.size := by omega
        have hzhbx02 : w.heap.size + 1 + 1 < x0.heap.size := by omega
        have hzhbx03 : w.heap.size + 1 + 1 + 1 < x0.heap.size := by omega
        have hBhbx0 : Below w.heap.size w x0 := Below.trans (by (repeat' (first | (with_reducible exact Below.refl _ _) | (with_reducible assumption) | (with_reducible refine Below.alloc ?_ ?_ _) | (with_reducible refine below_drewN ?_ _) | (with_reducible refine Below.drew ?_) | (with_reducible refine Below.setCell ?_ ?_ _) | go_size))) (hbx0.mono (by go_size))
        have hWhbx0 : w.heap.size ≤ x0.heap.size := hBhbx0.size
        clear hbx0 hzhbx0
        rw [B0.out]
        go_wp2_with fail
        rw [rounds_succ]
        go_wp2_with fail
        refine (rcheck_any p q hp1 hp2 hq1 hq2 _).mono ?_
        rintro e x1 ⟨rfl, hbx1⟩
        obtain ⟨hchbx1, hfhbx1⟩ := bcell hbx1
        have hzhbx1 := hbx1.size
        try simp at hzhbx1
        have hzhbx10 : w.heap.size < x1.heap.size := by omega
        have hzhbx11 : w.heap.size + 1 < x1.heap.size := by omega
        have hzhbx12 : w.heap.size + 1 + 1 < x1.heap.size := by omega
        have hzhbx13 : w.heap.size + 1 + 1 + 1 < x1.heap.size := by omega
        have hBhbx1 : Below w.heap.size w x1 := Below.trans (by (repeat' (first | (with_reducible exact Below.refl _ _) | (with_reducible assumption) | (with_reducible refine Below.alloc ?_ ?_ _) | (with_reducible refine below_drewN ?_ _) | (with_reducible refine Below.drew ?_) | (with_reducible refine Below.setCell ?_ ?_ _) | go_size))) (hbx1.mono (by go_size))
        have hWhbx1 : w.heap.size ≤ x1.heap.size := hBhbx1.size
        clear hbx1 hzhbx1
        rw [B1.out]
        go_wp2_with fail
        refine (known_any _).mono ?_
        rintro e y ⟨rfl, hby⟩
        obtain ⟨hchby, hfhby⟩ := bcell hby
        have hzhby := hby.size
        try simp at hzhby
        have hzhby0 : w.heap.size < y.heap.size := by omega
        have hzhby1 : w.heap.size + 1 < y.heap.size := by omega
        have hzhby2 : w.heap.size + 1 + 1 < y.heap.size := by omega
        have hzhby3 : w.heap.size + 1 + 1 + 1 < y.heap.size := by omega
        have hBhby : Below w.heap.size w y := Below.trans (by (repeat' (first | (with_reducible exact Below.refl _ _) | (with_reducible assumption) | (with_reducible refine Below.alloc ?_ ?_ _) | (with_reducible refine below_drewN ?_ _) | (with_reducible refine Below.drew ?_) | (with_reducible refine Below.setCell ?_ ?_ _) | go_size))) (hby.mono (by go_size))
        have hWhby : w.heap.size ≤ y.heap.size := hBhby.size
        clear hby hzhby
        go_wp2_with fail
        go_ret
        exact ⟨rfl, by (repeat' (first | (with_reducible exact Below.refl _ _) | (with_reducible assumption) | (with_reducible refine Below.alloc ?_ ?_ _) | (with_reducible refine below_drewN ?_ _) | (with_reducible refine Below.drew ?_) | (with_reducible refine Below.setCell ?_ ?_ _) | go_size))⟩
  · clear g
    have hb : canonB n d = false ∨ (canonB n d = true ∧ 60 < n) ∨ (canonB n d = true ∧ n < -60 ∧ n ≤ 60) ∨ (canonB n d = true ∧ 60 < d ∧ n ≤ 60 ∧ -60 ≤ n) := by
      cases hB : canonB n d
      · exact Or.inl rfl
      · have := g0
        unfold small at this
        rw [hB] at this
        simp at this ⊢
        omega
    rcases hb with hB | ⟨hB, z1⟩ | ⟨hB, z1, z2⟩ | ⟨hB, z1, z2, z3⟩
    all_goals
      have B0 := Lib.hid hB
      clear hB g0
      go_enter Try.func8, Try.ntmps8
      go_wp2_with fail
      refine wp_loop_rounds 4 ?_
      rw [rounds_succ]
      go_wp2_with fail
      refine (rcheck_any n d hn1 hn2 hd1 hd2 _).mono ?_
      rintro e x0 ⟨rfl, hbx0⟩
      obtain ⟨hchbx0, hfhbx0⟩ := bcell hbx0
      have hzhbx0 := hbx0.size
      try simp at hzhbx0
      have hzhbx00 : w.heap.size < x0.heap.size := by omega
      have hzhbx01 : w.heap.size + 1 < x0.heap.size := by omega
      have hzhbx02 : w.heap.size + 1 + 1 < x0.heap.size := by omega
      have hzhbx03 : w.heap.size + 1 + 1 + 1 < x0.heap.size := by omega
      have hBhbx0 : Below w.heap.size w x0 := Below.trans (by (repeat' (first | (with_reducible exact Below.refl _ _) | (with_reducible assumption) | (with_reducible refine Below.alloc ?_ ?_ _) | (with_reducible refine below_drewN ?_ _) | (with_reducible refine Below.drew ?_) | (with_reducible refine Below.setCell ?_ ?_ _) | go_size))) (hbx0.mono (by go_size))
      have hWhbx0 : w.heap.size ≤ x0.heap.size := hBhbx0.size
      clear hbx0 hzhbx0
      rw [B0.out]
      go_wp2_with fail
      refine (known_any _).mono ?_
      rintro e y ⟨rfl, hby⟩
      obtain ⟨hchby, hfhby⟩ := bcell hby
      have hzhby := hby.size
      try simp at hzhby
      have hzhby0 : w.heap.size < y.heap.size := by omega
      have hzhby1 : w.heap.size + 1 < y.heap.size := by omega
      have hzhby2 : w.heap.size + 1 + 1 < y.heap.size := by omega
      have hzhby3 : w.heap.size + 1 + 1 + 1 < y.heap.size := by omega
      have hBhby : Below w.heap.size w y := Below.trans (by (repeat' (first | (with_reducible exact Below.refl _ _) | (with_reducible assumption) | (with_reducible refine Below.alloc ?_ ?_ _) | (with_reducible refine below_drewN ?_ _) | (with_reducible refine Below.drew ?_) | (with_reducible refine Below.setCell ?_ ?_ _) | go_size))) (hby.mono (by go_size))
      have hWhby : w.heap.size ≤ y.heap.size := hBhby.size
      clear hby hzhby
      go_wp2_with fail
      go_ret
      exact ⟨rfl, by (repeat' (first | (with_reducible exact Below.refl _ _) | (with_reducible assumption) | (with_reducible refine Below.alloc ?_ ?_ _) | (with_reducible refine below_drewN ?_ _) | (with_reducible refine Below.drew ?_) | (with_reducible refine Below.setCell ?_ ?_ _) | go_size))⟩
end Go.Proofs.Ytmhheepnojbgoaa.lawAssociates
