/- What the law of comparison needs. -/
import Derived.Test.YtmhheepnojbgoaaRow
import Derived.Test.YtmhheepnojbgoaaKnown
import Derived.Test.YtmhheepnojbgoaaCmp
import Derived.RegionTactic
import Derived.Deep.RegionHeld3
import Derived.Deep.DeepCutAuto
namespace Go.Proofs.Ytmhheepnojbgoaa.lawCompares
open Go.Proofs.Ytmhheepnojbgoaa Go.ChangeShapes Go.WideShapes Go.ChangeAt Go.RowKit Go.Joins Pl

/-- Two blocks that hold a fraction each, beside those of the arguments. -/
def Two (w : World) (n d p q : Int) (x y : Nat) (n1 d1 n2 d2 : Int) (W : World) : Prop :=
  (W.cell? ⟨w.heap.size, 0, none⟩ = some (.int .i64 n) ∧ W.cell? ⟨w.heap.size, 1, none⟩ = some (.int .i64 d) ∧ W.cell? ⟨w.heap.size + 1, 0, none⟩ = some (.int .i64 p) ∧ W.cell? ⟨w.heap.size + 1, 1, none⟩ = some (.int .i64 q)) ∧
  (W.cell? ⟨x, 0, none⟩ = some (.int .i64 n1) ∧ W.cell? ⟨x, 1, none⟩ = some (.int .i64 d1) ∧ W.cell? ⟨y, 0, none⟩ = some (.int .i64 n2) ∧ W.cell? ⟨y, 1, none⟩ = some (.int .i64 d2)) ∧
  (W.frozen? ⟨x, 0, none⟩ = false ∧ W.frozen? ⟨x, 1, none⟩ = false ∧ W.frozen? ⟨y, 0, none⟩ = false ∧ W.frozen? ⟨y, 1, none⟩ = false) ∧
  (Below w.heap.size w W ∧ w.heap.size + 1 < W.heap.size ∧ w.heap.size + 1 < x ∧ w.heap.size + 1 < y ∧ x < W.heap.size ∧ y < W.heap.size ∧ x ≠ y)

/-- What the last statement of the law reads, whatever order it takes its parts in. -/
def S3 (w : World) (n d p q : Int) (x y z : Nat) (n1 d1 n2 d2 : Int) (W : World) : Prop :=
  W.cell? ⟨w.heap.size, 0, none⟩ = some (.int .i64 n) ∧ W.cell? ⟨w.heap.size, 1, none⟩ = some (.int .i64 d) ∧ W.cell? ⟨w.heap.size + 1, 0, none⟩ = some (.int .i64 p) ∧ W.cell? ⟨w.heap.size + 1, 1, none⟩ = some (.int .i64 q) ∧ W.cell? ⟨x, 0, none⟩ = some (.int .i64 n1) ∧ W.cell? ⟨x, 1, none⟩ = some (.int .i64 d1) ∧ W.cell? ⟨y, 0, none⟩ = some (.int .i64 n2) ∧ W.cell? ⟨y, 1, none⟩ = some (.int .i64 d2) ∧ W.cell? ⟨z, 0, none⟩ = some (.int .i64 (-n)) ∧ W.cell? ⟨z, 1, none⟩ = some (.int .i64 d) ∧ Below w.heap.size w W ∧ w.heap.size + 1 < W.heap.size ∧ x < W.heap.size ∧ y < W.heap.size ∧ z < W.heap.size
theorem S3.below {w : World} {n d p q : Int} {x y z : Nat} {n1 d1 n2 d2 : Int} {W W' : World} (h : S3 w n d p q x y z n1 d1 n2 d2 W) (hb : Below W.heap.size W W') : S3 w n d p q x y z n1 d1 n2 d2 W' := by
  obtain ⟨a1, a2, a3, a4, a5, a6, a7, a8, a9, a10, b1, b2, b3, b4, b5⟩ := h
  obtain ⟨hc, hf⟩ := bcell hb
  have hz := hb.size
  exact ⟨by rw [hc _ _ (by omega)]; exact a1, by rw [hc _ _ (by omega)]; exact a2, by rw [hc _ _ (by omega)]; exact a3, by rw [hc _ _ (by omega)]; exact a4, by rw [hc _ _ (by omega)]; exact a5, by rw [hc _ _ (by omega)]; exact a6, by rw [hc _ _ (by omega)]; exact a7, by rw [hc _ _ (by omega)]; exact a8, by rw [hc _ _ (by omega)]; exact a9, by rw [hc _ _ (by omega)]; exact a10, b1.trans (hb.mono b1.size), by omega, by omega, by omega, by omega⟩

theorem sg_swap (a b : Int) : sg b a = -sg a b := by
  unfold sg; split <;> split <;> (try split) <;> omega
theorem sg_bd (a b : Int) : -1 ≤ sg a b ∧ sg a b ≤ 1 := by
  unfold sg; split <;> (try split) <;> omega
theorem sg_zero {a b : Int} (h : sg a b = 0) : a = b := by
  unfold sg at h; split at h
  · omega
  · split at h <;> omega
theorem sg_neg {a b : Int} (h : sg a b = -1) : a < b := by
  unfold sg at h; split at h
  · assumption
  · split at h <;> omega
theorem same {n d p q : Int} (cf : canon n d) (cg : canon p q) (h : n * q = p * d) : n = p ∧ d = q := by
  obtain ⟨a1, a2, -⟩ := mk_canon cg
  obtain ⟨b1, b2, -⟩ := mk_cross (x := p) (y := q) (by have := cg.1; omega) cf h.symm
  exact ⟨by omega, by omega⟩

theorem cmp_c {c : Int} (n d p q : Int) (hc : sg (n * q) (p * d) = c) (f3 : -1048576 ≤ n) (f4 : n ≤ 1048576) (f1 : 1 ≤ d) (f2 : d ≤ 1048576) (g3 : -1048576 ≤ p) (g4 : p ≤ 1048576) (g1 : 1 ≤ q) (g2 : q ≤ 1048576) (w : World) :
    Calls Try.prog 20 #[.agg #[.int .i64 n, .int .i64 d], .agg #[.int .i64 p, .int .i64 q]] w fun e w' => e = .returned (.int .i64 c) ∧ Below w.heap.size w w' := by
  rw [← hc]; exact compare_any n d p q f3 f4 f1 f2 g3 g4 g1 g2 w
theorem cmp_m {c m : Int} (n d p q : Int) (hc : sg (n * q) (p * d) = c) (hm : -c = m) (f3 : -1048576 ≤ n) (f4 : n ≤ 1048576) (f1 : 1 ≤ d) (f2 : d ≤ 1048576) (g3 : -1048576 ≤ p) (g4 : p ≤ 1048576) (g1 : 1 ≤ q) (g2 : q ≤ 1048576) (w : World) :
    Calls Try.prog 20 #[.agg #[.int .i64 p, .int .i64 q], .agg #[.int .i64 n, .int .i64 d]] w fun e w' => e = .returned (.int .i64 m) ∧ Below w.heap.size w w' := by
  rw [← hm, ← hc, ← sg_swap]; exact compare_any p q n d g3 g4 g1 g2 f3 f4 f1 f2 w
theorem of01 (w : World) :
    Calls Try.prog 22 #[.int .i64 0, .int .i64 1] w fun e w' => e = .returned (.agg #[.int .i64 0, .int .i64 1]) ∧ Below w.heap.size w w' := by
  have := of_any 0 1 (by omega) (by omega) (by omega) (by omega) (by omega) w
  rw [show mkN 0 1 = 0 from by decide, show mkD 0 1 = 1 from by decide] at this
  exact this
theorem rcmp0 (n d : Int) (f3 : -1048576 ≤ n) (f4 : n ≤ 1048576) (f1 : 1 ≤ d) (f2 : d ≤ 1048576) (w : World) :
    Calls Try.prog 19 #[.agg #[.int .i64 n, .int .i64 d], .agg #[.int .i64 0, .int .i64 1]] w fun e w' => e = .returned (.int .i64 (sg n 0)) ∧ Below w.heap.size w w' := by
  have := rcompare_any n d 0 1 f3 f4 f1 f2 (by omega) (by omega) (by omega) (by omega) w
  rw [Int.mul_one, Int.zero_mul] at this
  exact this
theorem sign_c {c : Int} (n d : Int) (hc : sg n 0 = c) (w : World) :
    Calls Try.prog 21 #[.agg #[.int .i64 n, .int .i64 d]] w fun e w' => e = .returned (.int .i64 c) ∧ Below w.heap.size w w' := by
  rw [← hc]; exact sign_any n d w
theorem rcmp0_c {c : Int} (n d : Int) (hc : sg n 0 = c) (f3 : -1048576 ≤ n) (f4 : n ≤ 1048576) (f1 : 1 ≤ d) (f2 : d ≤ 1048576) (w : World) :
    Calls Try.prog 19 #[.agg #[.int .i64 n, .int .i64 d], .agg #[.int .i64 0, .int .i64 1]] w fun e w' => e = .returned (.int .i64 c) ∧ Below w.heap.size w w' := by
  rw [← hc]; exact rcmp0 n d f3 f4 f1 f2 w
theorem min_c {n1 d1 : Int} (n d p q : Int) (hm : (if sg (n * q) (p * d) = 1 then p else n) = n1 ∧ (if sg (n * q) (p * d) = 1 then q else d) = d1) (f3 : -1048576 ≤ n) (f4 : n ≤ 1048576) (f1 : 1 ≤ d) (f2 : d ≤ 1048576) (g3 : -1048576 ≤ p) (g4 : p ≤ 1048576) (g1 : 1 ≤ q) (g2 : q ≤ 1048576) (w : World) :
    Calls Try.prog 23 #[.agg #[.int .i64 n, .int .i64 d], .agg #[.int .i64 p, .int .i64 q]] w fun e w' => e = .returned (.agg #[.int .i64 n1, .int .i64 d1]) ∧ Below w.heap.size w w' := by
  rw [← hm.1, ← hm.2]; exact min_any n d p q f3 f4 f1 f2 g3 g4 g1 g2 w
theorem max_c {n2 d2 : Int} (n d p q : Int) (hm : (if sg (n * q) (p * d) = -1 then p else n) = n2 ∧ (if sg (n * q) (p * d) = -1 then q else d) = d2) (f3 : -1048576 ≤ n) (f4 : n ≤ 1048576) (f1 : 1 ≤ d) (f2 : d ≤ 1048576) (g3 : -1048576 ≤ p) (g4 : p ≤ 1048576) (g1 : 1 ≤ q) (g2 : q ≤ 1048576) (w : World) :
    Calls Try.prog 24 #[.agg #[.int .i64 n, .int .i64 d], .agg #[.int .i64 p, .int .i64 q]] w fun e w' => e = .returned (.agg #[.int .i64 n2, .int .i64 d2]) ∧ Below w.heap.size w w' := by
  rw [← hm.1, ← hm.2]; exact max_any n d p q f3 f4 f1 f2 g3 g4 g1 g2 w

end Go.Proofs.Ytmhheepnojbgoaa.lawCompares
