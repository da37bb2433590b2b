/- What the recursion for the simplest fraction returns. -/
import Derived.Test.YtmhheepnojbgoaaPlB
import Derived.Test.YtmhheepnojbgoaaCheck
namespace Go.Proofs.Ytmhheepnojbgoaa
open Go.ChangeShapes Go.WideShapes Go.ChangeAt Go.RowKit Pl

set_option maxHeartbeats 2000000 in
theorem simplest_any (f : Nat) : ∀ (a b c d : Int) (w : World), okS a b c d → b + d ≤ f → a ≤ 1048576 → b ≤ 1048576 → c ≤ 1048576 → d ≤ 1048576 →
    Calls Try.prog 53 #[.agg #[.int .i64 a, .int .i64 b], .agg #[.int .i64 c, .int .i64 d]] w fun e w' => e = .returned (.agg #[.int .i64 (sim f a b c d).1, .int .i64 (sim f a b c d).2]) ∧ Below w.heap.size w w' := by
  induction f with
  | zero => intro a b c d w h hf; obtain ⟨-, hb, hd, -⟩ := h; omega
  | succ f ih =>
    intro a b c d w h hf b1 b2 b3 b4
    have h' := h
    obtain ⟨ha, hb, hd, hc, hl⟩ := h
    have q0 : 0 ≤ a / b := Int.ediv_nonneg ha (by omega)
    have q1 : a / b ≤ a := Int.ediv_le_self _ ha
    have p1 := prod_bd (a := a / b + 1) (A := 1048577) (b := d) (B := 1048576) (by omega) (by omega) (by omega) b4
    obtain ⟨p1, p2⟩ := p1
    by_cases hn : (a / b + 1) * d < c
    · have hs : sim (f + 1) a b c d = (a / b + 1, 1) := by rw [sim, if_pos hn]
      rw [hs]
      clear hs ih h' hl
      go_enter Try.func53, Try.ntmps53
      go_wp2_with fail
      refine bodyPost_ret (v := .agg #[.int .i64 (a / b + 1), .int .i64 1]) (by simp [results, Try.results53, go_sem, *]) rfl ⟨rfl, by (repeat' (first | (with_reducible exact Below.refl _ _) | (with_reducible assumption) | (with_reducible refine Below.alloc ?_ ?_ _) | (with_reducible refine below_drewN ?_ _) | (with_reducible refine Below.drew ?_) | (with_reducible refine Below.setCell ?_ ?_ _) | go_size))⟩
    · obtain ⟨ho, d1, -, s1, s2, s3⟩ := step_ok h' hn
      have hs : sim (f + 1) a b c d = (a / b * (sim f d (c - a / b * d) b (a - a / b * b)).1 + (sim f d (c - a / b * d) b (a - a / b * b)).2, (sim f d (c - a / b * d) b (a - a / b * b)).1) := by rw [sim, if_neg hn]
      rw [hs]
      obtain ⟨i1, i2, -, -, i5, i6, -⟩ := sim_spec f d (c - a / b * d) b (a - a / b * b) ho (by omega)
      obtain ⟨x1, x2⟩ := prod_bd (a := a / b) (A := 1048576) (b := d) (B := 1048576) (by omega) (by omega) (by omega) b4
      obtain ⟨x3, x4⟩ := prod_bd (a := a / b) (A := 1048576) (b := b) (B := 1048576) (by omega) (by omega) (by omega) b2
      obtain ⟨x5, x6⟩ := prod_bd (a := a / b) (A := 1048576) (b := (sim f d (c - a / b * d) b (a - a / b * b)).1) (B := 2097152) (by omega) (by omega) (by omega) (by omega)
      have ho1 := ho.2.1
      have IH := fun w => ih d (c - a / b * d) b (a - a / b * b) w ho (by omega) (by omega) (by omega) (by omega) (by omega)
      have IH := Lib.hid IH
      clear ih h' hl hs ho
      generalize hS : (sim f d (c - a / b * d) b (a - a / b * b)).1 = S at *
      generalize hT : (sim f d (c - a / b * d) b (a - a / b * b)).2 = T at *
      clear hS hT
      go_enter Try.func53, Try.ntmps53
      go_wp2_with fail
      refine (IH.out _).mono ?_
      rintro e w1 ⟨rfl, hb1⟩
      obtain ⟨hchb1, hfhb1⟩ := bcell hb1
      have hzhb1 := hb1.size
      try simp at hzhb1
      have hzhb10 : w.heap.size < w1.heap.size := by omega
      have hzhb11 : w.heap.size + 1 < w1.heap.size := by omega
      have hzhb12 : w.heap.size + 1 + 1 < w1.heap.size := by omega
      have hBhb1 : Below w.heap.size w w1 := Below.trans (by (repeat' (first | (with_reducible exact Below.refl _ _) | (with_reducible assumption) | (with_reducible refine Below.alloc ?_ ?_ _) | (with_reducible refine below_drewN ?_ _) | (with_reducible refine Below.drew ?_) | (with_reducible refine Below.setCell ?_ ?_ _) | go_size))) (hb1.mono (by go_size))
      have hWhb1 : w.heap.size ≤ w1.heap.size := hBhb1.size
      clear hb1 hzhb1
      go_wp2_with fail
      refine bodyPost_ret (v := .agg #[.int .i64 (a / b * S + T), .int .i64 S]) (by simp [results, Try.results53, go_sem, *]) rfl ⟨rfl, by (repeat' (first | (with_reducible exact Below.refl _ _) | (with_reducible assumption) | (with_reducible refine Below.alloc ?_ ?_ _) | (with_reducible refine below_drewN ?_ _) | (with_reducible refine Below.drew ?_) | (with_reducible refine Below.setCell ?_ ?_ _) | go_size))⟩
end Go.Proofs.Ytmhheepnojbgoaa
