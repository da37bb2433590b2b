/- What Between returns for two fractions that are not positive. -/
import Derived.Test.YtmhheepnojbgoaaSimp
import Derived.Test.YtmhheepnojbgoaaCmp
import Derived.Test.YtmhheepnojbgoaaLawMakes
import Derived.Deep.RegionHeld3
import Derived.Test.YtmhheepnojbgoaaRBet
namespace Go.Proofs.Ytmhheepnojbgoaa
open Go.ChangeShapes Go.WideShapes Go.ChangeAt Go.RowKit Pl
set_option linter.unusedVariables false
theorem growN {W w1 : World} (hb : Below W.heap.size W w1) : ∀ b, b < W.heap.size → b < w1.heap.size := fun b h => Nat.lt_of_lt_of_le h hb.size

theorem RB.put {w : World} {n d p q : Int} {W : World} (h : RB w n d p q W) {b : Nat} (hb : w.heap.size + 1 + 1 < b) (o : Nat) (v : Value) : RB w n d p q (W.setCell ⟨b, o, none⟩ v) := by
  obtain ⟨⟨a1, a2, a3, a4, a5, a6⟩, ⟨a7, a8⟩, a9, a10⟩ := h
  have far : ∀ c i, c < b → (W.setCell ⟨b, o, none⟩ v).cell? ⟨c, i, none⟩ = W.cell? ⟨c, i, none⟩ := fun c i hc => World.cell?_setCell_far _ _ _ _ (by simp; omega)
  exact ⟨⟨by rw [far _ _ (by omega)]; exact a1, by rw [far _ _ (by omega)]; exact a2, by rw [far _ _ (by omega)]; exact a3, by rw [far _ _ (by omega)]; exact a4, by rw [far _ _ (by omega)]; exact a5, by rw [far _ _ (by omega)]; exact a6⟩, ⟨by simpa using a7, by simpa using a8⟩, a9.setCell (by simp; omega) _, by simpa using a10⟩

set_option maxHeartbeats 4000000 in
theorem between_neg (n d p q : Int) (f3 : -1048576 ≤ n) (f4 : n ≤ 1048576) (f1 : 1 ≤ d) (f2 : d ≤ 1048576) (g3 : -1048576 ≤ p) (g4 : p ≤ 1048576) (g1 : 1 ≤ q) (g2 : q ≤ 1048576) (Bf : Hid (canonB n d = true)) (Bg : Hid (canonB p q = true)) (Hs : Hid (sg (n * q) (p * d) = -1)) (Hn : Hid (sg n 0 = -1)) (s0 : Int) (Hp : Hid (sg p 0 = s0)) (h0 : s0 ≤ 0) (ho : okS (-p) q (-n) d) (N D : Int) (HN : Hid ((sim 2097152 (-p) q (-n) d).1 = N)) (HD : Hid ((sim 2097152 (-p) q (-n) d).2 = D)) (n1 : 1 ≤ N) (n2 : N ≤ 2097152) (d1 : 1 ≤ D) (d2 : D ≤ 2097152) (w : World) :
    Calls Try.prog 42 #[.agg #[.int .i64 n, .int .i64 d], .agg #[.int .i64 p, .int .i64 q]] w fun e w' => e = .returned (.tuple #[.agg #[.int .i64 (mkN (-N) D), .int .i64 (mkD (-N) D)], .int .i64 (mkE (-N) D)]) ∧ Below w.heap.size w w' := by
  have Ho := Lib.hid ho
  clear ho
  have simp_c : ∀ w : World, Calls Try.prog 53 #[.agg #[.int .i64 (-p), .int .i64 q], .agg #[.int .i64 (-n), .int .i64 d]] w fun e w' => e = .returned (.agg #[.int .i64 N, .int .i64 D]) ∧ Below w.heap.size w w' := by
    intro w
    have := simplest_any 2097152 (-p) q (-n) d w Ho.out (by omega) (by omega) g2 (by omega) f2
    rw [HN.out, HD.out] at this
    exact this
  have SC := Lib.hid simp_c
  clear simp_c
  go_enter Try.func42, Try.ntmps42
  go_wp2_with fail
  refine (check_any n d (by omega) (by omega) (by omega) (by omega) _).mono ?_
  rintro e w1 ⟨rfl, hbw1⟩
  obtain ⟨hchbw1, hfhbw1⟩ := bcell hbw1
  have hzhbw1 := hbw1.size
  try simp at hzhbw1
  have hzhbw10 : w.heap.size < w1.heap.size := by omega
  have hzhbw11 : w.heap.size + 1 < w1.heap.size := by omega
  have hzhbw12 : w.heap.size + 1 + 1 < w1.heap.size := by omega
  have hBhbw1 : Below w.heap.size w w1 := Below.trans (by (repeat' (first | (with_reducible exact Below.refl _ _) | (with_reducible assumption) | (with_reducible refine Below.alloc ?_ ?_ _) | (with_reducible refine below_drewN ?_ _) | (with_reducible refine Below.drew ?_) | (with_reducible refine Below.setCell ?_ ?_ _) | go_size))) (hbw1.mono (by go_size))
  have hWhbw1 : w.heap.size ≤ w1.heap.size := hBhbw1.size
  clear hbw1 hzhbw1
  rw [Bf.out]
  go_wp2_with fail
  refine (check_any p q (by omega) (by omega) (by omega) (by omega) _).mono ?_
  rintro e w2 ⟨rfl, hbw2⟩
  obtain ⟨hchbw2, hfhbw2⟩ := bcell hbw2
  have hzhbw2 := hbw2.size
  try simp at hzhbw2
  have hzhbw20 : w.heap.size < w2.heap.size := by omega
  have hzhbw21 : w.heap.size + 1 < w2.heap.size := by omega
  have hzhbw22 : w.heap.size + 1 + 1 < w2.heap.size := by omega
  have hBhbw2 : Below w.heap.size w w2 := Below.trans (by (repeat' (first | (with_reducible exact Below.refl _ _) | (with_reducible assumption) | (with_reducible refine Below.alloc ?_ ?_ _) | (with_reducible refine below_drewN ?_ _) | (with_reducible refine Below.drew ?_) | (with_reducible refine Below.setCell ?_ ?_ _) | go_size))) (hbw2.mono (by go_size))
  have hWhbw2 : w.heap.size ≤ w2.heap.size := hBhbw2.size
  clear hbw2 hzhbw2
  rw [Bg.out]
  go_wp2_with fail
  refine (compare_any n d p q f3 f4 f1 f2 g3 g4 g1 g2 _).mono ?_
  rintro e w3 ⟨rfl, hbw3⟩
  obtain ⟨hchbw3, hfhbw3⟩ := bcell hbw3
  have hzhbw3 := hbw3.size
  try simp at hzhbw3
  have hzhbw30 : w.heap.size < w3.heap.size := by omega
  have hzhbw31 : w.heap.size + 1 < w3.heap.size := by omega
  have hzhbw32 : w.heap.size + 1 + 1 < w3.heap.size := by omega
  have hBhbw3 : Below w.heap.size w w3 := Below.trans (by (repeat' (first | (with_reducible exact Below.refl _ _) | (with_reducible assumption) | (with_reducible refine Below.alloc ?_ ?_ _) | (with_reducible refine below_drewN ?_ _) | (with_reducible refine Below.drew ?_) | (with_reducible refine Below.setCell ?_ ?_ _) | go_size))) (hbw3.mono (by go_size))
  have hWhbw3 : w.heap.size ≤ w3.heap.size := hBhbw3.size
  clear hbw3 hzhbw3
  rw [Hs.out]
  have k0 : w3.cell? ⟨w.heap.size, 0, none⟩ = some (.int .i64 n) := by simp [*, go_sem]
  have k1 : w3.cell? ⟨w.heap.size, 1, none⟩ = some (.int .i64 d) := by simp [*, go_sem]
  have k2 : w3.cell? ⟨w.heap.size + 1, 0, none⟩ = some (.int .i64 p) := by simp [*, go_sem]
  have k3 : w3.cell? ⟨w.heap.size + 1, 1, none⟩ = some (.int .i64 q) := by simp [*, go_sem]
  have k4 : w3.cell? ⟨w.heap.size + 1 + 1, 0, none⟩ = some (.int .i64 0) := by simp [*, go_sem]
  have k5 : w3.cell? ⟨w.heap.size + 1 + 1, 1, none⟩ = some (.int .i64 0) := by simp [*, go_sem]
  have k6 : w3.frozen? ⟨w.heap.size + 1 + 1, 0, none⟩ = false := by simp [*, go_sem]
  have k7 : w3.frozen? ⟨w.heap.size + 1 + 1, 1, none⟩ = false := by simp [*, go_sem]
  clear hchbw1 hfhbw1 hchbw2 hfhbw2 hchbw3 hfhbw3
  go_wp2_with fail
  refine (sign_any n d _).mono ?_
  rintro e w4 ⟨rfl, hbw4⟩
  obtain ⟨hchbw4, hfhbw4⟩ := bcell hbw4
  have hzhbw4 := hbw4.size
  try simp at hzhbw4
  have hzhbw40 : w.heap.size < w4.heap.size := by omega
  have hzhbw41 : w.heap.size + 1 < w4.heap.size := by omega
  have hzhbw42 : w.heap.size + 1 + 1 < w4.heap.size := by omega
  have hBhbw4 : Below w.heap.size w w4 := Below.trans (by (repeat' (first | (with_reducible exact Below.refl _ _) | (with_reducible assumption) | (with_reducible refine Below.alloc ?_ ?_ _) | (with_reducible refine below_drewN ?_ _) | (with_reducible refine Below.drew ?_) | (with_reducible refine Below.setCell ?_ ?_ _) | go_size))) (hbw4.mono (by go_size))
  have hWhbw4 : w.heap.size ≤ w4.heap.size := hBhbw4.size
  clear hbw4 hzhbw4
  rw [Hn.out]
  go_wp2_with fail
  refine (sign_any p q _).mono ?_
  rintro e w5 ⟨rfl, hbw5⟩
  obtain ⟨hchbw5, hfhbw5⟩ := bcell hbw5
  have hzhbw5 := hbw5.size
  try simp at hzhbw5
  have hzhbw50 : w.heap.size < w5.heap.size := by omega
  have hzhbw51 : w.heap.size + 1 < w5.heap.size := by omega
  have hzhbw52 : w.heap.size + 1 + 1 < w5.heap.size := by omega
  have hBhbw5 : Below w.heap.size w w5 := Below.trans (by (repeat' (first | (with_reducible exact Below.refl _ _) | (with_reducible assumption) | (with_reducible refine Below.alloc ?_ ?_ _) | (with_reducible refine below_drewN ?_ _) | (with_reducible refine Below.drew ?_) | (with_reducible refine Below.setCell ?_ ?_ _) | go_size))) (hbw5.mono (by go_size))
  have hWhbw5 : w.heap.size ≤ w5.heap.size := hBhbw5.size
  clear hbw5 hzhbw5
  rw [Hp.out]
  go_wp2_with fail
  refine (sign_any n d _).mono ?_
  rintro e w6 ⟨rfl, hbw6⟩
  obtain ⟨hchbw6, hfhbw6⟩ := bcell hbw6
  have hzhbw6 := hbw6.size
  try simp at hzhbw6
  have hzhbw60 : w.heap.size < w6.heap.size := by omega
  have hzhbw61 : w.heap.size + 1 < w6.heap.size := by omega
  have hzhbw62 : w.heap.size + 1 + 1 < w6.heap.size := by omega
  have hBhbw6 : Below w.heap.size w w6 := Below.trans (by (repeat' (first | (with_reducible exact Below.refl _ _) | (with_reducible assumption) | (with_reducible refine Below.alloc ?_ ?_ _) | (with_reducible refine below_drewN ?_ _) | (with_reducible refine Below.drew ?_) | (with_reducible refine Below.setCell ?_ ?_ _) | go_size))) (hbw6.mono (by go_size))
  have hWhbw6 : w.heap.size ≤ w6.heap.size := hBhbw6.size
  clear hbw6 hzhbw6
  rw [Hn.out]
  have m0 : w6.cell? ⟨w.heap.size, 0, none⟩ = some (.int .i64 n) := by simp [*, go_sem]
  have m1 : w6.cell? ⟨w.heap.size, 1, none⟩ = some (.int .i64 d) := by simp [*, go_sem]
  have m2 : w6.cell? ⟨w.heap.size + 1, 0, none⟩ = some (.int .i64 p) := by simp [*, go_sem]
  have m3 : w6.cell? ⟨w.heap.size + 1, 1, none⟩ = some (.int .i64 q) := by simp [*, go_sem]
  have m4 : w6.cell? ⟨w.heap.size + 1 + 1, 0, none⟩ = some (.int .i64 0) := by simp [*, go_sem]
  have m5 : w6.cell? ⟨w.heap.size + 1 + 1, 1, none⟩ = some (.int .i64 0) := by simp [*, go_sem]
  have m6 : w6.frozen? ⟨w.heap.size + 1 + 1, 0, none⟩ = false := by simp [*, go_sem]
  have m7 : w6.frozen? ⟨w.heap.size + 1 + 1, 1, none⟩ = false := by simp [*, go_sem]
  clear hchbw4 hfhbw4 hchbw5 hfhbw5 hchbw6 hfhbw6 k0 k1 k2 k3 k4 k5 k6 k7
  go_wp2_with fail
  have hs : RB w n d p q w6 := ⟨⟨m0, m1, m2, m3, m4, m5⟩, ⟨m6, m7⟩, by assumption, by assumption⟩
  go_region_held3 (fun W => (W.cell? ⟨w.heap.size, 0, none⟩ = some (.int .i64 n) ∧ W.cell? ⟨w.heap.size, 1, none⟩ = some (.int .i64 d) ∧ W.cell? ⟨w.heap.size + 1, 0, none⟩ = some (.int .i64 p) ∧ W.cell? ⟨w.heap.size + 1, 1, none⟩ = some (.int .i64 q) ∧
  W.cell? ⟨w.heap.size + 1 + 1, 0, none⟩ = some (.int .i64 0) ∧ W.cell? ⟨w.heap.size + 1 + 1, 1, none⟩ = some (.int .i64 0)) ∧ (W.frozen? ⟨w.heap.size + 1 + 1, 0, none⟩ = false ∧ W.frozen? ⟨w.heap.size + 1 + 1, 1, none⟩ = false) ∧
  Below w.heap.size w W ∧ w.heap.size + 1 + 1 < W.heap.size)
    (first | assumption | (refine RB.put (w := w) (n := n) (d := d) (p := p) (q := q) (RB.put ?_ (by omega) _ _) (by omega) _ _; (repeat (first | exact hs | (refine RB.below (w := w) (n := n) (d := d) (p := p) (q := q) ?_ ((Below.refl _ _).drew)) | (refine RB.below (w := w) (n := n) (d := d) (p := p) (q := q) ?_ ((Below.refl _ _).alloc (Nat.le_refl _) _)) | (refine RB.below (w := w) (n := n) (d := d) (p := p) (q := q) ?_ (by assumption)))); done) | ((repeat (first | exact hs | (refine RB.below (w := w) (n := n) (d := d) (p := p) (q := q) ?_ ((Below.refl _ _).drew)) | (refine RB.below (w := w) (n := n) (d := d) (p := p) (q := q) ?_ ((Below.refl _ _).alloc (Nat.le_refl _) _)) | (refine RB.below (w := w) (n := n) (d := d) (p := p) (q := q) ?_ (by assumption)))); done))
    ((first | (go_at_call 25; ((with_reducible refine (neg_any p q g3 g4 _).mono ?_); rintro e wg ⟨rfl, hrwg⟩; have hzwg : w.heap.size + 1 + 1 < wg.heap.size := (by have := hrwg.size; (try simp at this); omega); (try (have ew60 : wg.cell? ⟨w6.heap.size, 0, none⟩ = some (.int .i64 0) := (by rw [(bcell hrwg).1 _ _ (by first | omega | (simp; done) | (simp; omega))]; simp [*, go_sem]; done))); (try (have gw60 : wg.frozen? ⟨w6.heap.size, 0, none⟩ = false := (by rw [(bcell hrwg).2 _ _ (by first | omega | (simp; done) | (simp; omega))]; simp [*, go_sem]; done))); (try (have ew61 : wg.cell? ⟨w6.heap.size, 1, none⟩ = some (.int .i64 0) := (by rw [(bcell hrwg).1 _ _ (by first | omega | (simp; done) | (simp; omega))]; simp [*, go_sem]; done))); (try (have gw61 : wg.frozen? ⟨w6.heap.size, 1, none⟩ = false := (by rw [(bcell hrwg).2 _ _ (by first | omega | (simp; done) | (simp; omega))]; simp [*, go_sem]; done))); (try (have hw6 : w6.heap.size < wg.heap.size := (by have := hrwg.size; (try simp at this); omega))); (try (have ewf0 : wg.cell? ⟨wf.heap.size, 0, none⟩ = some (.int .i64 0) := (by rw [(bcell hrwg).1 _ _ (by first | omega | (simp; done) | (simp; omega))]; simp [*, go_sem]; done))); (try (have gwf0 : wg.frozen? ⟨wf.heap.size, 0, none⟩ = false := (by rw [(bcell hrwg).2 _ _ (by first | omega | (simp; done) | (simp; omega))]; simp [*, go_sem]; done))); (try (have ewf1 : wg.cell? ⟨wf.heap.size, 1, none⟩ = some (.int .i64 0) := (by rw [(bcell hrwg).1 _ _ (by first | omega | (simp; done) | (simp; omega))]; simp [*, go_sem]; done))); (try (have gwf1 : wg.frozen? ⟨wf.heap.size, 1, none⟩ = false := (by rw [(bcell hrwg).2 _ _ (by first | omega | (simp; done) | (simp; omega))]; simp [*, go_sem]; done))); (try (have hwf : wf.heap.size < wg.heap.size := (by have := hrwg.size; (try simp at this); omega))); skip)) | (go_at_call 25; ((with_reducible refine (neg_any n d f3 f4 _).mono ?_); rintro e wf ⟨rfl, hrwf⟩; have hzwf : w.heap.size + 1 + 1 < wf.heap.size := (by have := hrwf.size; (try simp at this); omega); (try (have ew60 : wf.cell? ⟨w6.heap.size, 0, none⟩ = some (.int .i64 0) := (by rw [(bcell hrwf).1 _ _ (by first | omega | (simp; done) | (simp; omega))]; simp [*, go_sem]; done))); (try (have gw60 : wf.frozen? ⟨w6.heap.size, 0, none⟩ = false := (by rw [(bcell hrwf).2 _ _ (by first | omega | (simp; done) | (simp; omega))]; simp [*, go_sem]; done))); (try (have ew61 : wf.cell? ⟨w6.heap.size, 1, none⟩ = some (.int .i64 0) := (by rw [(bcell hrwf).1 _ _ (by first | omega | (simp; done) | (simp; omega))]; simp [*, go_sem]; done))); (try (have gw61 : wf.frozen? ⟨w6.heap.size, 1, none⟩ = false := (by rw [(bcell hrwf).2 _ _ (by first | omega | (simp; done) | (simp; omega))]; simp [*, go_sem]; done))); (try (have hw6 : w6.heap.size < wf.heap.size := (by have := hrwf.size; (try simp at this); omega))); (try (have ewg0 : wf.cell? ⟨wg.heap.size, 0, none⟩ = some (.int .i64 0) := (by rw [(bcell hrwf).1 _ _ (by first | omega | (simp; done) | (simp; omega))]; simp [*, go_sem]; done))); (try (have gwg0 : wf.frozen? ⟨wg.heap.size, 0, none⟩ = false := (by rw [(bcell hrwf).2 _ _ (by first | omega | (simp; done) | (simp; omega))]; simp [*, go_sem]; done))); (try (have ewg1 : wf.cell? ⟨wg.heap.size, 1, none⟩ = some (.int .i64 0) := (by rw [(bcell hrwf).1 _ _ (by first | omega | (simp; done) | (simp; omega))]; simp [*, go_sem]; done))); (try (have gwg1 : wf.frozen? ⟨wg.heap.size, 1, none⟩ = false := (by rw [(bcell hrwf).2 _ _ (by first | omega | (simp; done) | (simp; omega))]; simp [*, go_sem]; done))); (try (have hwg : wg.heap.size < wf.heap.size := (by have := hrwf.size; (try simp at this); omega))); skip)) | (go_at_call 53; ((with_reducible refine (SC.out _).mono ?_); rintro e ws ⟨rfl, hrws⟩; have hzws : w.heap.size + 1 + 1 < ws.heap.size := (by have := hrws.size; (try simp at this); omega); (try (have ew60 : ws.cell? ⟨w6.heap.size, 0, none⟩ = some (.int .i64 0) := (by rw [(bcell hrws).1 _ _ (by first | omega | (simp; done) | (simp; omega))]; simp [*, go_sem]; done))); (try (have gw60 : ws.frozen? ⟨w6.heap.size, 0, none⟩ = false := (by rw [(bcell hrws).2 _ _ (by first | omega | (simp; done) | (simp; omega))]; simp [*, go_sem]; done))); (try (have ew61 : ws.cell? ⟨w6.heap.size, 1, none⟩ = some (.int .i64 0) := (by rw [(bcell hrws).1 _ _ (by first | omega | (simp; done) | (simp; omega))]; simp [*, go_sem]; done))); (try (have gw61 : ws.frozen? ⟨w6.heap.size, 1, none⟩ = false := (by rw [(bcell hrws).2 _ _ (by first | omega | (simp; done) | (simp; omega))]; simp [*, go_sem]; done))); (try (have hw6 : w6.heap.size < ws.heap.size := (by have := hrws.size; (try simp at this); omega))); (try (have ewg0 : ws.cell? ⟨wg.heap.size, 0, none⟩ = some (.int .i64 0) := (by rw [(bcell hrws).1 _ _ (by first | omega | (simp; done) | (simp; omega))]; simp [*, go_sem]; done))); (try (have gwg0 : ws.frozen? ⟨wg.heap.size, 0, none⟩ = false := (by rw [(bcell hrws).2 _ _ (by first | omega | (simp; done) | (simp; omega))]; simp [*, go_sem]; done))); (try (have ewg1 : ws.cell? ⟨wg.heap.size, 1, none⟩ = some (.int .i64 0) := (by rw [(bcell hrws).1 _ _ (by first | omega | (simp; done) | (simp; omega))]; simp [*, go_sem]; done))); (try (have gwg1 : ws.frozen? ⟨wg.heap.size, 1, none⟩ = false := (by rw [(bcell hrws).2 _ _ (by first | omega | (simp; done) | (simp; omega))]; simp [*, go_sem]; done))); (try (have hwg : wg.heap.size < ws.heap.size := (by have := hrws.size; (try simp at this); omega))); (try (have ewf0 : ws.cell? ⟨wf.heap.size, 0, none⟩ = some (.int .i64 0) := (by rw [(bcell hrws).1 _ _ (by first | omega | (simp; done) | (simp; omega))]; simp [*, go_sem]; done))); (try (have gwf0 : ws.frozen? ⟨wf.heap.size, 0, none⟩ = false := (by rw [(bcell hrws).2 _ _ (by first | omega | (simp; done) | (simp; omega))]; simp [*, go_sem]; done))); (try (have ewf1 : ws.cell? ⟨wf.heap.size, 1, none⟩ = some (.int .i64 0) := (by rw [(bcell hrws).1 _ _ (by first | omega | (simp; done) | (simp; omega))]; simp [*, go_sem]; done))); (try (have gwf1 : ws.frozen? ⟨wf.heap.size, 1, none⟩ = false := (by rw [(bcell hrws).2 _ _ (by first | omega | (simp; done) | (simp; omega))]; simp [*, go_sem]; done))); (try (have hwf : wf.heap.size < ws.heap.size := (by have := hrws.size; (try simp at this); omega))); skip))))
  all_goals
    rename_i hS
    go_wp2_with fail
    refine (make_any (-N) D (by omega) (by omega) (by omega) (by omega) (by omega) _).mono ?_
    rintro e w7 ⟨rfl, h7⟩
    obtain ⟨⟨j0, j1, j2, j3, j4, j5⟩, ⟨j6, j7⟩, hB7, hz7⟩ := RB.below (w := w) (n := n) (d := d) (p := p) (q := q) hS h7
    clear h7
    go_wp2_with fail
    refine bodyPost_ret (v := .tuple #[.agg #[.int .i64 (mkN (-N) D), .int .i64 (mkD (-N) D)], .int .i64 (mkE (-N) D)]) (by simp [results, Try.results42, go_sem, *]) rfl ⟨rfl, by (repeat' (first | (with_reducible exact Below.refl _ _) | (with_reducible assumption) | (with_reducible refine Below.alloc ?_ ?_ _) | (with_reducible refine below_drewN ?_ _) | (with_reducible refine Below.drew ?_) | (with_reducible refine Below.setCell ?_ ?_ _) | go_size))⟩
end Go.Proofs.Ytmhheepnojbgoaa
