/- The law of comparison, where the first fraction is greater. -/
import Derived.Test.YtmhheepnojbgoaaCoBase
namespace Go.Proofs.Ytmhheepnojbgoaa.lawCompares
open Go.Proofs.Ytmhheepnojbgoaa Go.ChangeShapes Go.WideShapes Go.ChangeAt Go.RowKit Go.Joins Pl

set_option maxRecDepth 100000 in
set_option maxHeartbeats 8000000 in
theorem walk_more (n d : Int) (hn1 : -9223372036854775808 ≤ n) (hn2 : n ≤ 9223372036854775807) (hd1 : -9223372036854775808 ≤ d) (hd2 : d ≤ 9223372036854775807) (p q : Int) (hp1 : -9223372036854775808 ≤ p) (hp2 : p ≤ 9223372036854775807) (hq1 : -9223372036854775808 ≤ q) (hq2 : q ≤ 9223372036854775807)
    (cf : canon n d) (cg : canon p q) (hs : sg (n * q) (p * d) = 1) (w : World) :
    Calls Try.prog 5 #[.agg #[.int .i64 n, .int .i64 d], .agg #[.int .i64 p, .int .i64 q]] w fun e w' => e = .returned (.bool true) ∧ Below w.heap.size w w' := by
  have Bf : Hid (canonB n d = true) := Lib.hid (by simpa [canonB] using cf)
  have Bg : Hid (canonB p q = true) := Lib.hid (by simpa [canonB] using cg)
  have Hmin : Hid ((if sg (n * q) (p * d) = 1 then p else n) = p ∧ (if sg (n * q) (p * d) = 1 then q else d) = q) := Lib.hid (by have := sg_bd (n * q) (p * d); rw [if_pos (by omega), if_pos (by omega)]; exact ⟨rfl, rfl⟩)
  have Hmax : Hid ((if sg (n * q) (p * d) = -1 then p else n) = n ∧ (if sg (n * q) (p * d) = -1 then q else d) = d) := Lib.hid (by rw [if_neg (by omega), if_neg (by omega)]; exact ⟨rfl, rfl⟩)
  obtain ⟨f1, f2, f3, f4, f5⟩ := cf
  obtain ⟨g1, g2, g3, g4, g5⟩ := cg
  clear f5 g5
  have Hc := Lib.hid hs
  clear hs
  obtain ⟨g0, hg0⟩ : ∃ g0, sg n 0 = g0 := ⟨_, rfl⟩
  have Hg0 := Lib.hid hg0
  clear hg0
  have hw0 : IntKind.i64.wrap (0 - (1 : Int)) = -1 := by decide
  have hw2 : IntKind.i64.wrap (-1 : Int) = -1 := by decide
  have hw3 : wrap64 (-1 : Int) = -1 := IntWalk.wrap64_in _ ⟨by decide, by decide⟩
  have hw4 : wrap64 (0 - (1 : Int)) = -1 := IntWalk.wrap64_in _ ⟨by decide, by decide⟩
  go_enter Try.func5, Try.ntmps5
  go_wp2_with fail
  refine (known_any _).mono ?_
  rintro e w1 ⟨rfl, hbw1⟩
  obtain ⟨hchbw1, hfhbw1⟩ := bcell hbw1
  have hzhbw1 := hbw1.size
  try simp at hzhbw1
  have hzhbw10 : w.heap.size < w1.heap.size := by omega
  have hzhbw11 : w.heap.size + 1 < w1.heap.size := by omega
  have hBhbw1 : Below w.heap.size w w1 := Below.trans (by (repeat' (first | (with_reducible exact Below.refl _ _) | (with_reducible assumption) | (with_reducible refine Below.alloc ?_ ?_ _) | (with_reducible refine below_drewN ?_ _) | (with_reducible refine Below.drew ?_) | (with_reducible refine Below.setCell ?_ ?_ _) | go_size))) (hbw1.mono (by go_size))
  have hWhbw1 : w.heap.size ≤ w1.heap.size := hBhbw1.size
  clear hbw1 hzhbw1
  go_wp2_with fail
  refine (rcheck_any n d hn1 hn2 hd1 hd2 _).mono ?_
  rintro e w2 ⟨rfl, hbw2⟩
  obtain ⟨hchbw2, hfhbw2⟩ := bcell hbw2
  have hzhbw2 := hbw2.size
  try simp at hzhbw2
  have hzhbw20 : w.heap.size < w2.heap.size := by omega
  have hzhbw21 : w.heap.size + 1 < w2.heap.size := by omega
  have hBhbw2 : Below w.heap.size w w2 := Below.trans (by (repeat' (first | (with_reducible exact Below.refl _ _) | (with_reducible assumption) | (with_reducible refine Below.alloc ?_ ?_ _) | (with_reducible refine below_drewN ?_ _) | (with_reducible refine Below.drew ?_) | (with_reducible refine Below.setCell ?_ ?_ _) | go_size))) (hbw2.mono (by go_size))
  have hWhbw2 : w.heap.size ≤ w2.heap.size := hBhbw2.size
  clear hbw2 hzhbw2
  rw [Bf.out]
  go_wp2_with fail
  refine (rcheck_any p q hp1 hp2 hq1 hq2 _).mono ?_
  rintro e w3 ⟨rfl, hbw3⟩
  obtain ⟨hchbw3, hfhbw3⟩ := bcell hbw3
  have hzhbw3 := hbw3.size
  try simp at hzhbw3
  have hzhbw30 : w.heap.size < w3.heap.size := by omega
  have hzhbw31 : w.heap.size + 1 < w3.heap.size := by omega
  have hBhbw3 : Below w.heap.size w w3 := Below.trans (by (repeat' (first | (with_reducible exact Below.refl _ _) | (with_reducible assumption) | (with_reducible refine Below.alloc ?_ ?_ _) | (with_reducible refine below_drewN ?_ _) | (with_reducible refine Below.drew ?_) | (with_reducible refine Below.setCell ?_ ?_ _) | go_size))) (hbw3.mono (by go_size))
  have hWhbw3 : w.heap.size ≤ w3.heap.size := hBhbw3.size
  clear hbw3 hzhbw3
  rw [Bg.out]
  go_wp2_with fail
  refine (rcompare_any n d p q f3 f4 f1 f2 g3 g4 g1 g2 _).mono ?_
  rintro e w4 ⟨rfl, hbw4⟩
  obtain ⟨hchbw4, hfhbw4⟩ := bcell hbw4
  have hzhbw4 := hbw4.size
  try simp at hzhbw4
  have hzhbw40 : w.heap.size < w4.heap.size := by omega
  have hzhbw41 : w.heap.size + 1 < w4.heap.size := by omega
  have hBhbw4 : Below w.heap.size w w4 := Below.trans (by (repeat' (first | (with_reducible exact Below.refl _ _) | (with_reducible assumption) | (with_reducible refine Below.alloc ?_ ?_ _) | (with_reducible refine below_drewN ?_ _) | (with_reducible refine Below.drew ?_) | (with_reducible refine Below.setCell ?_ ?_ _) | go_size))) (hbw4.mono (by go_size))
  have hWhbw4 : w.heap.size ≤ w4.heap.size := hBhbw4.size
  clear hbw4 hzhbw4
  rw [Hc.out]
  have k0 : w4.cell? ⟨w.heap.size, 0, none⟩ = some (.int .i64 n) := by simp [*, go_sem]
  have k1 : w4.cell? ⟨w.heap.size, 1, none⟩ = some (.int .i64 d) := by simp [*, go_sem]
  have k2 : w4.cell? ⟨w.heap.size + 1, 0, none⟩ = some (.int .i64 p) := by simp [*, go_sem]
  have k3 : w4.cell? ⟨w.heap.size + 1, 1, none⟩ = some (.int .i64 q) := by simp [*, go_sem]
  clear hchbw1 hfhbw1 hchbw2 hfhbw2 hchbw3 hfhbw3 hchbw4 hfhbw4 hn1 hn2 hd1 hd2 hp1 hp2 hq1 hq2
  go_upto_region 4 with fail
  go_cut [6, 7] (fun s6 s7 wx => ∃ x y : Nat, s6 = .pointer (some ⟨x, 0, none⟩) ∧ s7 = .pointer (some ⟨y, 0, none⟩) ∧ Two w n d p q x y n d p q wx)
  case first =>
    go_region
    all_goals (go_wp2_with fail; go_meet; exact ⟨_, _, rfl, rfl, ⟨⟨by simp [*, go_sem], by simp [*, go_sem], by simp [*, go_sem], by simp [*, go_sem]⟩, ⟨by simp [*, go_sem], by simp [*, go_sem], by simp [*, go_sem], by simp [*, go_sem]⟩, ⟨by simp [*, go_sem], by simp [*, go_sem], by simp [*, go_sem], by simp [*, go_sem]⟩, ⟨by (repeat' (first | (with_reducible exact Below.refl _ _) | (with_reducible assumption) | (with_reducible refine Below.alloc ?_ ?_ _) | (with_reducible refine below_drewN ?_ _) | (with_reducible refine Below.drew ?_) | (with_reducible refine Below.setCell ?_ ?_ _) | go_size)), (by (first | omega | (simp; done) | (simp; omega))), (by (first | omega | (simp; done) | (simp; omega))), (by (first | omega | (simp; done) | (simp; omega))), (by (first | omega | (simp; done) | (simp; omega))), (by (first | omega | (simp; done) | (simp; omega))), (by (first | omega | (simp; done) | (simp; omega)))⟩⟩⟩)
  case rest =>
    obtain ⟨x, y, rfl, rfl, hT⟩ := hcut
    obtain ⟨⟨k00, k01, k10, k11⟩, ⟨x0, x1, y0, y1⟩, ⟨z1, z2, z3, z4⟩, ⟨hB, hw1, hx, hy, hxs, hys, hxy⟩⟩ := hT
    have hW := hB.size
    clear k0 k1 k2 k3
    go_upto_region 6 with fail
    go_cut [6, 7] (fun s6 s7 wx => s6 = .pointer (some ⟨x, 0, none⟩) ∧ s7 = .pointer (some ⟨y, 0, none⟩) ∧ Two w n d p q x y p q n d wx)
    case first =>
      go_region
      all_goals (go_wp2_with fail; go_meet; exact ⟨rfl, rfl, ⟨⟨by simp [*, go_sem], by simp [*, go_sem], by simp [*, go_sem], by simp [*, go_sem]⟩, ⟨by simp [*, go_sem], by simp [*, go_sem], by simp [*, go_sem], by simp [*, go_sem]⟩, ⟨by simp [*, go_sem], by simp [*, go_sem], by simp [*, go_sem], by simp [*, go_sem]⟩, ⟨by (repeat' (first | (with_reducible exact Below.refl _ _) | (with_reducible assumption) | (with_reducible refine Below.alloc ?_ ?_ _) | (with_reducible refine below_drewN ?_ _) | (with_reducible refine Below.drew ?_) | (with_reducible refine Below.setCell ?_ ?_ _) | go_size)), (by (first | omega | (simp; done) | (simp; omega))), (by (first | omega | (simp; done) | (simp; omega))), (by (first | omega | (simp; done) | (simp; omega))), (by (first | omega | (simp; done) | (simp; omega))), (by (first | omega | (simp; done) | (simp; omega))), (by (first | omega | (simp; done) | (simp; omega)))⟩⟩⟩)
    case rest =>
      obtain ⟨rfl, rfl, hT⟩ := hcut
      obtain ⟨⟨l00, l01, l10, l11⟩, ⟨u0, u1, v0, v1⟩, ⟨t1, t2, t3, t4⟩, ⟨hB2, hw2, hx2, hy2, hxs2, hys2, hxy2⟩⟩ := hT
      clear hxs hys hw1
      have hW2 := hB2.size
      generalize wc = W0 at *
      have hz0 : w.heap.size < W0.heap.size := by omega
      have hs3 : S3 w n d p q x y W0.heap.size p q n d (W0.alloc (Obj.cells #[.int .i64 (-n), .int .i64 d] 23)) := by
        refine ⟨by simp [*, go_sem], by simp [*, go_sem], by simp [*, go_sem], by simp [*, go_sem], by simp [*, go_sem], by simp [*, go_sem], by simp [*, go_sem], by simp [*, go_sem], by simp [go_sem], by simp [go_sem], by (repeat' (first | (with_reducible exact Below.refl _ _) | (with_reducible assumption) | (with_reducible refine Below.alloc ?_ ?_ _) | (with_reducible refine below_drewN ?_ _) | (with_reducible refine Below.drew ?_) | (with_reducible refine Below.setCell ?_ ?_ _) | go_size)), (by (first | omega | (simp; done) | (simp; omega))), (by (first | omega | (simp; done) | (simp; omega))), (by (first | omega | (simp; done) | (simp; omega))), by simp⟩
      go_wp2_with fail
      go_region_held3 (fun W => W.cell? ⟨w.heap.size, 0, none⟩ = some (.int .i64 n) ∧ W.cell? ⟨w.heap.size, 1, none⟩ = some (.int .i64 d) ∧ W.cell? ⟨w.heap.size + 1, 0, none⟩ = some (.int .i64 p) ∧ W.cell? ⟨w.heap.size + 1, 1, none⟩ = some (.int .i64 q) ∧ W.cell? ⟨x, 0, none⟩ = some (.int .i64 p) ∧ W.cell? ⟨x, 1, none⟩ = some (.int .i64 q) ∧ W.cell? ⟨y, 0, none⟩ = some (.int .i64 n) ∧ W.cell? ⟨y, 1, none⟩ = some (.int .i64 d) ∧ W.cell? ⟨W0.heap.size, 0, none⟩ = some (.int .i64 (-n)) ∧ W.cell? ⟨W0.heap.size, 1, none⟩ = some (.int .i64 d) ∧ Below w.heap.size w W ∧ w.heap.size + 1 < W.heap.size ∧ x < W.heap.size ∧ y < W.heap.size ∧ W0.heap.size < W.heap.size)
        (first | assumption | (first | exact S3.below hs3 ((Below.refl _ _).drew) | (refine S3.below (w := w) (n := n) (d := d) (p := p) (q := q) (x := x) (y := y) (z := W0.heap.size) (n1 := p) (d1 := q) (n2 := n) (d2 := d) ?_ (by assumption); (first | exact S3.below hs3 ((Below.refl _ _).drew) | (refine S3.below (w := w) (n := n) (d := d) (p := p) (q := q) (x := x) (y := y) (z := W0.heap.size) (n1 := p) (d1 := q) (n2 := n) (d2 := d) ?_ (by assumption); (first | exact S3.below hs3 ((Below.refl _ _).drew) | (refine S3.below (w := w) (n := n) (d := d) (p := p) (q := q) (x := x) (y := y) (z := W0.heap.size) (n1 := p) (d1 := q) (n2 := n) (d2 := d) ?_ (by assumption); (first | exact S3.below hs3 ((Below.refl _ _).drew) | (refine S3.below (w := w) (n := n) (d := d) (p := p) (q := q) (x := x) (y := y) (z := W0.heap.size) (n1 := p) (d1 := q) (n2 := n) (d2 := d) ?_ (by assumption); (first | exact S3.below hs3 ((Below.refl _ _).drew) | (refine S3.below (w := w) (n := n) (d := d) (p := p) (q := q) (x := x) (y := y) (z := W0.heap.size) (n1 := p) (d1 := q) (n2 := n) (d2 := d) ?_ (by assumption); (first | exact S3.below hs3 ((Below.refl _ _).drew) | (refine S3.below (w := w) (n := n) (d := d) (p := p) (q := q) (x := x) (y := y) (z := W0.heap.size) (n1 := p) (d1 := q) (n2 := n) (d2 := d) ?_ (by assumption); (first | exact S3.below hs3 ((Below.refl _ _).drew) | (refine S3.below (w := w) (n := n) (d := d) (p := p) (q := q) (x := x) (y := y) (z := W0.heap.size) (n1 := p) (d1 := q) (n2 := n) (d2 := d) ?_ (by assumption); (first | exact S3.below hs3 ((Below.refl _ _).drew) | (refine S3.below (w := w) (n := n) (d := d) (p := p) (q := q) (x := x) (y := y) (z := W0.heap.size) (n1 := p) (d1 := q) (n2 := n) (d2 := d) ?_ (by assumption); exact S3.below hs3 ((Below.refl _ _).drew))))))))))))))))))
        ((first | (go_at_call 20; ((with_reducible refine (cmp_c n d p q Hc.out f3 f4 f1 f2 g3 g4 g1 g2 _).mono ?_); rintro e wr ⟨rfl, hr⟩)) | (go_at_call 20; ((with_reducible refine (cmp_m n d p q Hc.out (show -(1) = (-1 : Int) from by decide) f3 f4 f1 f2 g3 g4 g1 g2 _).mono ?_); rintro e wr ⟨rfl, hr⟩)) | (go_at_call 21; ((with_reducible refine (sign_c n d Hg0.out _).mono ?_); rintro e wr ⟨rfl, hr⟩)) | (go_at_call 22; ((with_reducible refine (of01 _).mono ?_); rintro e wr ⟨rfl, hr⟩)) | (go_at_call 19; ((with_reducible refine (rcmp0_c n d Hg0.out f3 f4 f1 f2 _).mono ?_); rintro e wr ⟨rfl, hr⟩)) | (go_at_call 23; ((with_reducible refine (min_c n d p q Hmin.out f3 f4 f1 f2 g3 g4 g1 g2 _).mono ?_); rintro e wr ⟨rfl, hr⟩)) | (go_at_call 24; ((with_reducible refine (max_c n d p q Hmax.out f3 f4 f1 f2 g3 g4 g1 g2 _).mono ?_); rintro e wr ⟨rfl, hr⟩)) | (go_at_call 25; ((with_reducible refine (neg_any n d f3 f4 _).mono ?_); rintro e wr ⟨rfl, hr⟩))))
      have hS : S3 w n d p q x y W0.heap.size p q n d wr := by assumption
      have hBr : Below w.heap.size w wr := hS.2.2.2.2.2.2.2.2.2.2.1
      clear hS hs3
      go_wp2_with fail
      go_ret
      exact ⟨rfl, by (repeat' (first | (with_reducible exact Below.refl _ _) | (with_reducible assumption) | (with_reducible refine Below.alloc ?_ ?_ _) | (with_reducible refine below_drewN ?_ _) | (with_reducible refine Below.drew ?_) | (with_reducible refine Below.setCell ?_ ?_ _) | go_size))⟩
end Go.Proofs.Ytmhheepnojbgoaa.lawCompares
