/- What the reference's Between returns. -/
import Derived.Test.YtmhheepnojbgoaaRnd
namespace Go.Proofs.Ytmhheepnojbgoaa
open Go.ChangeShapes Go.WideShapes Go.ChangeAt Go.RowKit Pl
set_option linter.unusedVariables false

/-- What the search for a fraction keeps. -/
def RB (w : World) (n d p q : Int) (W : World) : Prop :=
  (W.cell? ⟨w.heap.size, 0, none⟩ = some (.int .i64 n) ∧ W.cell? ⟨w.heap.size, 1, none⟩ = some (.int .i64 d) ∧ W.cell? ⟨w.heap.size + 1, 0, none⟩ = some (.int .i64 p) ∧ W.cell? ⟨w.heap.size + 1, 1, none⟩ = some (.int .i64 q) ∧
  W.cell? ⟨w.heap.size + 1 + 1, 0, none⟩ = some (.int .i64 0) ∧ W.cell? ⟨w.heap.size + 1 + 1, 1, none⟩ = some (.int .i64 0)) ∧ (W.frozen? ⟨w.heap.size + 1 + 1, 0, none⟩ = false ∧ W.frozen? ⟨w.heap.size + 1 + 1, 1, none⟩ = false) ∧
  Below w.heap.size w W ∧ w.heap.size + 1 + 1 < W.heap.size
theorem RB.below {w : World} {n d p q : Int} {W W' : World} (h : RB w n d p q W) (hb : Below W.heap.size W W') : RB w n d p q W' := by
  obtain ⟨⟨a1, a2, a3, a4, a5, a6⟩, ⟨a7, a8⟩, a9, a10⟩ := h
  obtain ⟨hc, hf⟩ := bcell hb
  have hz := hb.size
  exact ⟨⟨by rw [hc _ _ (by omega)]; exact a1, by rw [hc _ _ (by omega)]; exact a2, by rw [hc _ _ (by omega)]; exact a3, by rw [hc _ _ (by omega)]; exact a4, by rw [hc _ _ (by omega)]; exact a5, by rw [hc _ _ (by omega)]; exact a6⟩, ⟨by rw [hf _ _ (by omega)]; exact a7, by rw [hf _ _ (by omega)]; exact a8⟩, a9.trans (hb.mono a9.size), by omega⟩

/-- The least and the greatest numerator between two fractions, with a denominator. -/
def lo (n d y : Int) : Int := y * n / d + 1
def hi (p q y : Int) : Int := -(-y * p / q) - 1
theorem lo_bd (n d y : Int) (h1 : -1048576 ≤ n) (h2 : n ≤ 1048576) (h3 : 1 ≤ d) (y1 : 0 ≤ y) (y2 : y ≤ 300) : -1152921504606846976 ≤ y * n / d ∧ y * n / d ≤ 1152921504606846976 := by
  obtain ⟨a1, a2⟩ := prod_bd (a := y) (A := 300) (by omega) y2 h1 h2
  exact div_bd _ _ h3 (by omega) (by omega)
theorem hi_bd (p q y : Int) (h1 : -1048576 ≤ p) (h2 : p ≤ 1048576) (h3 : 1 ≤ q) (y1 : 0 ≤ y) (y2 : y ≤ 300) : -1152921504606846976 ≤ -(-y * p / q) ∧ -(-y * p / q) ≤ 1152921504606846976 := by
  obtain ⟨a1, a2⟩ := prod_bd (a := -y) (A := 300) (by omega) (by omega) h1 h2
  obtain ⟨b1, b2⟩ := div_bd (-y * p) q h3 (by omega) (by omega)
  omega

set_option maxHeartbeats 4000000 in
/-- A denominator up to the limit has a numerator in between: the first one is taken. -/
theorem rbetween_found (n d p q X : Int) (D : Nat) (f3 : -1048576 ≤ n) (f4 : n ≤ 1048576) (f1 : 1 ≤ d) (f2 : d ≤ 1048576) (g3 : -1048576 ≤ p) (g4 : p ≤ 1048576) (g1 : 1 ≤ q) (g2 : q ≤ 1048576)
    (D1 : 1 ≤ D) (D2 : D ≤ 200) (hno : Hid (∀ y : Nat, 1 ≤ y → y < D → hi p q y < lo n d y)) (hl : lo n d D ≤ hi p q D)
    (hX : (lo n d D ≤ 0 ∧ 0 ≤ hi p q D ∧ X = 0) ∨ (lo n d D ≤ 0 ∧ hi p q D < 0 ∧ X = hi p q D) ∨ (0 < lo n d D ∧ X = lo n d D)) (x1 : -9223372036854775808 ≤ X) (x2 : X ≤ 9223372036854775807) (w : World) :
    Calls Try.prog 43 #[.agg #[.int .i64 n, .int .i64 d], .agg #[.int .i64 p, .int .i64 q], .int .i64 200] w fun e w' => e = .returned (.tuple #[.agg #[.int .i64 (mkN X D), .int .i64 (mkD X D)], .bool (decide (mkE X D = 0))]) ∧ Below w.heap.size w w' := by
  have Hl := Lib.hid hl
  have HX := Lib.hid hX
  clear hl hX
  go_enter Try.func43, Try.ntmps43
  go_wp2_with fail
  go_loopw [8] (fun v wr => ∃ y : Nat, 1 ≤ y ∧ y ≤ D ∧ v = .int .i64 y ∧ RB w n d p q wr) (fun v _ => D - (intOf v).toNat)
  case atStart => exact ⟨1, by omega, by omega, rfl, ⟨⟨by go_simp, by go_simp, by go_simp, by go_simp, by go_simp, by go_simp⟩, ⟨by go_simp, by go_simp⟩, by (repeat' (first | (with_reducible exact Below.refl _ _) | (with_reducible assumption) | (with_reducible refine Below.alloc ?_ ?_ _) | (with_reducible refine below_drewN ?_ _) | (with_reducible refine Below.drew ?_) | (with_reducible refine Below.setCell ?_ ?_ _) | go_size)), by simp⟩⟩
  case round =>
    obtain ⟨y, hy1, hy2, rfl, hR⟩ := hrel
    have HR := hR
    obtain ⟨⟨k0, k1, k2, k3, k4, k5⟩, ⟨k6, k7⟩, hBr, hzr⟩ := hR
    have hW := hBr.size
    obtain ⟨u1, u2⟩ := lo_bd n d y f3 f4 f1 (by omega) (by omega)
    obtain ⟨u3, u4⟩ := hi_bd p q y g3 g4 g1 (by omega) (by omega)
    obtain ⟨wo, rfl⟩ : ∃ wo : World, wo = wr := ⟨_, rfl⟩
    by_cases hlt : y < D
    · have hh := hno.out y hy1 hlt
      unfold lo hi at hh
      have t1 : -(-(y : Int) * p / q) - 1 < (y : Int) * n / d + 1 := hh
      clear hh
      go_wp2_with fail
      refine (rmulFloor_any (y : Int) n d (by omega) (by omega) f3 f4 f1 f2 _).mono ?_
      rintro e wa ⟨rfl, ha⟩
      have HRa := HR.below ha
      obtain ⟨⟨l0, l1, l2, l3, l4, l5⟩, ⟨l6, l7⟩, hBa, hza⟩ := HRa
      clear ha
      go_wp2_with fail
      refine (rmulCeil_any (y : Int) p q (by omega) (by omega) g3 g4 g1 g2 _).mono ?_
      rintro e wb ⟨rfl, hb⟩
      have HRb := RB.below (w := w) (n := n) (d := d) (p := p) (q := q) ⟨⟨l0, l1, l2, l3, l4, l5⟩, ⟨l6, l7⟩, hBa, hza⟩ hb
      clear hb
      go_wp2_with fail
      go_roundw
      case rel => exact ⟨y + 1, by omega, by omega, by go_num, HRb⟩
      case measure => simp [intOf]; omega
    · obtain rfl : y = D := by omega
      have hl := Hl.out
      have hX := HX.out
      unfold lo hi at hl hX
      generalize hF : (y : Int) * n / d = F at *
      generalize hG : -(-(y : Int) * p / q) = G at *
      have HF := Lib.hid hF
      have HG := Lib.hid hG
      clear hF hG
      rcases hX with ⟨z1, z2, rfl⟩ | ⟨z1, z2, rfl⟩ | ⟨z1, rfl⟩
      all_goals
        go_wp2_with fail
        refine (rmulFloor_any (y : Int) n d (by omega) (by omega) f3 f4 f1 f2 _).mono ?_
        rintro e wa ⟨rfl, ha⟩
        rw [HF.out]
        have HRa := HR.below ha
        obtain ⟨⟨l0, l1, l2, l3, l4, l5⟩, ⟨l6, l7⟩, hBa, hza⟩ := HRa
        clear ha
        go_wp2_with fail
        refine (rmulCeil_any (y : Int) p q (by omega) (by omega) g3 g4 g1 g2 _).mono ?_
        rintro e wb ⟨rfl, hb⟩
        rw [HG.out]
        have HRb := RB.below (w := w) (n := n) (d := d) (p := p) (q := q) ⟨⟨l0, l1, l2, l3, l4, l5⟩, ⟨l6, l7⟩, hBa, hza⟩ hb
        have HRc := HRb
        obtain ⟨⟨j0, j1, j2, j3, j4, j5⟩, ⟨j6, j7⟩, hBb, hzb⟩ := HRb
        clear hb
        go_wp2_with fail
        refine (rmake_any _ (y : Int) (by omega) (by omega) (by omega) (by omega) (by omega) _).mono ?_
        rintro e wc ⟨rfl, hc⟩
        have HRd := HRc.below hc
        obtain ⟨⟨i0, i1, i2, i3, i4, i5⟩, ⟨i6, i7⟩, hBc, hzc⟩ := HRd
        clear hc
        go_wp2_with fail
        refine bodyPost_ret (v := .tuple #[.agg #[.int .i64 (mkN _ y), .int .i64 (mkD _ y)], .bool (decide (mkE _ y = 0))]) (by simp [results, Try.results43, go_sem, *]; try rfl) rfl ⟨rfl, by (repeat' (first | (with_reducible exact Below.refl _ _) | (with_reducible assumption) | (with_reducible refine Below.alloc ?_ ?_ _) | (with_reducible refine below_drewN ?_ _) | (with_reducible refine Below.drew ?_) | (with_reducible refine Below.setCell ?_ ?_ _) | go_size))⟩

set_option maxHeartbeats 4000000 in
/-- No denominator up to the limit has a numerator in between. -/
theorem rbetween_none (n d p q : Int) (f3 : -1048576 ≤ n) (f4 : n ≤ 1048576) (f1 : 1 ≤ d) (f2 : d ≤ 1048576) (g3 : -1048576 ≤ p) (g4 : p ≤ 1048576) (g1 : 1 ≤ q) (g2 : q ≤ 1048576)
    (hno : Hid (∀ y : Nat, 1 ≤ y → y ≤ 200 → hi p q y < lo n d y)) (w : World) :
    Calls Try.prog 43 #[.agg #[.int .i64 n, .int .i64 d], .agg #[.int .i64 p, .int .i64 q], .int .i64 200] w fun e w' => e = .returned (.tuple #[.agg #[.int .i64 0, .int .i64 0], .bool false]) ∧ Below w.heap.size w w' := by
  go_enter Try.func43, Try.ntmps43
  go_wp2_with fail
  go_loopw [8] (fun v wr => ∃ y : Nat, 1 ≤ y ∧ y ≤ 201 ∧ v = .int .i64 y ∧ RB w n d p q wr) (fun v _ => 201 - (intOf v).toNat)
  case atStart => exact ⟨1, by omega, by omega, rfl, ⟨⟨by go_simp, by go_simp, by go_simp, by go_simp, by go_simp, by go_simp⟩, ⟨by go_simp, by go_simp⟩, by (repeat' (first | (with_reducible exact Below.refl _ _) | (with_reducible assumption) | (with_reducible refine Below.alloc ?_ ?_ _) | (with_reducible refine below_drewN ?_ _) | (with_reducible refine Below.drew ?_) | (with_reducible refine Below.setCell ?_ ?_ _) | go_size)), by simp⟩⟩
  case round =>
    obtain ⟨y, hy1, hy2, rfl, hR⟩ := hrel
    have HR := hR
    obtain ⟨⟨k0, k1, k2, k3, k4, k5⟩, ⟨k6, k7⟩, hBr, hzr⟩ := hR
    have hW := hBr.size
    obtain ⟨u1, u2⟩ := lo_bd n d y f3 f4 f1 (by omega) (by omega)
    obtain ⟨u3, u4⟩ := hi_bd p q y g3 g4 g1 (by omega) (by omega)
    obtain ⟨wo, rfl⟩ : ∃ wo : World, wo = wr := ⟨_, rfl⟩
    by_cases hlt : y ≤ 200
    · have hh := hno.out y hy1 hlt
      unfold lo hi at hh
      have t1 : -(-(y : Int) * p / q) - 1 < (y : Int) * n / d + 1 := hh
      clear hh
      go_wp2_with fail
      refine (rmulFloor_any (y : Int) n d (by omega) (by omega) f3 f4 f1 f2 _).mono ?_
      rintro e wa ⟨rfl, ha⟩
      have HRa := HR.below ha
      obtain ⟨⟨l0, l1, l2, l3, l4, l5⟩, ⟨l6, l7⟩, hBa, hza⟩ := HRa
      clear ha
      go_wp2_with fail
      refine (rmulCeil_any (y : Int) p q (by omega) (by omega) g3 g4 g1 g2 _).mono ?_
      rintro e wb ⟨rfl, hb⟩
      have HRb := RB.below (w := w) (n := n) (d := d) (p := p) (q := q) ⟨⟨l0, l1, l2, l3, l4, l5⟩, ⟨l6, l7⟩, hBa, hza⟩ hb
      clear hb
      go_wp2_with fail
      go_roundw
      case rel => exact ⟨y + 1, by omega, by omega, by go_num, HRb⟩
      case measure => simp [intOf]; omega
    · obtain rfl : y = 201 := by omega
      go_wp2_with fail
      refine bodyPost_ret (v := .tuple #[.agg #[.int .i64 0, .int .i64 0], .bool false]) (by simp [results, Try.results43, go_sem, *]) rfl ⟨rfl, by (repeat' (first | (with_reducible exact Below.refl _ _) | (with_reducible assumption) | (with_reducible refine Below.alloc ?_ ?_ _) | (with_reducible refine below_drewN ?_ _) | (with_reducible refine Below.drew ?_) | (with_reducible refine Below.setCell ?_ ?_ _) | go_size))⟩
end Go.Proofs.Ytmhheepnojbgoaa
