/- Quantile where it errs; fractions as arguments (written by wip/bin/gen_hqua.py). -/
import Derived.Test.YtolgcphmmghlbaaHu
import Derived.Test.YtolgcphmmghlbaaHv
namespace Go.Proofs.Ytolgcphmmghlbaa
open Go.ChangeShapes Go.WideShapes Go.ChangeAt Go.RowKit Go.Joins Pl

theorem cells_fr : Try.prog.cellsOf 58 = 2 := by kernel_rfl
theorem fr_reads {H : Type} {enc : TypeId × Value → H} {a b : Int} (wa : (Lit.int .i64 a).wf = true) (wb : (Lit.int .i64 b).wf = true) (W' : World) (sp : Nat → Bool) :
    DataW.Trod enc Try.prog W' 0 sp true 58 (.agg #[.int .i64 a, .int .i64 b]) (.agg [.lit (.int .i64 a), .lit (.int .i64 b)]) [] :=
  shut_agg2 (y0 := (.lit (.int .i64 a), [])) (y1 := (.lit (.int .i64 b), [])) Try.underlying58 (by kernel_rfl) cells_fr ⟨1, by simp [DataW.trod, Try.underlying3, wa]⟩ ⟨1, by simp [DataW.trod, Try.underlying3, wb]⟩
/-- The rank: rounded up, in both forms. -/
theorem rank_eq (x d : Int) (hx : 0 ≤ x) (hd : 1 ≤ d) : (x + d - 1).tdiv d = -(-x / d) := by
  rw [Int.tdiv_eq_ediv_of_nonneg (by omega)]
  have a1 := Int.mul_ediv_add_emod (x + d - 1) d
  have a2 := Int.emod_nonneg (x + d - 1) (show d ≠ 0 by omega)
  have a3 := Int.emod_lt_of_pos (x + d - 1) (show 0 < d by omega)
  have b1 := Int.mul_ediv_add_emod (-x) d
  have b2 := Int.emod_nonneg (-x) (show d ≠ 0 by omega)
  have b3 := Int.emod_lt_of_pos (-x) (show 0 < d by omega)
  obtain ⟨q, hq⟩ : ∃ q, q = (x + d - 1) / d := ⟨_, rfl⟩
  obtain ⟨k, hk⟩ : ∃ k, k = -x / d := ⟨_, rfl⟩
  rw [← hq] at a1 ⊢
  rw [← hk] at b1 ⊢
  have e : d * (q + k) = d * q + d * k := Int.mul_add ..
  have l1 : d * (q + k) < d * 1 := by rw [e, Int.mul_one]; omega
  have l2 : d * (-1) < d * (q + k) := by rw [e]; omega
  have m1 := Int.lt_of_mul_lt_mul_left l1 (by omega)
  have m2 := Int.lt_of_mul_lt_mul_left l2 (by omega)
  omega
theorem rank_bd (t a d : Int) (ht : 0 ≤ t) (ha : 0 ≤ a) (had : a ≤ d) (hd : 1 ≤ d) : 0 ≤ -(-(t * a) / d) ∧ -(-(t * a) / d) ≤ t := by
  have p1 : 0 ≤ t * a := Int.mul_nonneg ht ha
  have p2 : t * a ≤ t * d := Int.mul_le_mul_of_nonneg_left had ht
  constructor
  · have : -(t * a) / d ≤ 0 := Int.ediv_le_of_le_mul (by omega) (by omega)
    omega
  · have : -t ≤ -(t * a) / d := (Int.le_ediv_iff_mul_le (by omega)).2 (by rw [Int.neg_mul]; omega)
    omega
set_option maxRecDepth 100000 in
set_option maxHeartbeats 2000000 in
theorem quantile_bad (A : Option Addr) (c : Nat) (L : List Iv) (hl : L.length ≤ 305) (hV : VB L) (t : Int) (ht : ttN L L.length = t) (a d : Int) (ha1 : -9223372036854775808 ≤ a) (ha2 : a ≤ 9223372036854775807) (hd1 : -9223372036854775808 ≤ d) (hd2 : d ≤ 9223372036854775807)
    (k : Int) (hk : (canonB a d = false ∧ k = 3) ∨ (canonB a d = true ∧ a < 0 ∧ k = 2) ∨ (canonB a d = true ∧ 0 ≤ a ∧ d < a ∧ k = 2) ∨ (canonB a d = true ∧ 0 ≤ a ∧ a ≤ d ∧ t = 0 ∧ k = 7)) (w : World) (hR : Rs w w.heap.size A (ivCells L)) :
    Calls Try.prog 35 #[.agg #[.slice A L.length c], .agg #[.int .i64 a, .int .i64 d]] w fun e w' => e = .returned (.tuple #[.int .i64 0, .int .i64 0, .int .i64 k]) ∧ Below w.heap.size w w' := by
  have HT := Lib.hid (fun W (h : Rs W W.heap.size A (ivCells L)) => total_any A c L hl hV W h)
  rw [ht] at HT
  have HCk := Lib.hid (fun W => check_any a d ha1 ha2 hd1 hd2 W)
  have HR := Lib.hid (fun W (hb : Below w.heap.size w W) => (fun j hj => by
    obtain ⟨b, off, e, h1, h2⟩ := Rs.below hR hb j hj
    exact ⟨b, off, e, Nat.lt_of_lt_of_le h1 hb.size, h2⟩ : Rs W W.heap.size A (ivCells L)))
  have HB0 : Hid (Below w.heap.size w ((w.alloc (.cells #[.slice A L.length c] 33)).alloc (.cells #[.int .i64 a, .int .i64 d] 58))) := Lib.hid (((Below.refl _ _).alloc (Nat.le_refl _) _).alloc (by simp) _)
  have hz0 : ((w.alloc (.cells #[.slice A L.length c] 33)).alloc (.cells #[.int .i64 a, .int .i64 d] 58)).heap.size = w.heap.size + 1 + 1 := by simp
  have HK0 := Lib.hid (blk_under w (.cells #[.slice A L.length c] 33) (.cells #[.int .i64 a, .int .i64 d] 58))
  have HQ0 := Lib.hid (blk_over w (.cells #[.slice A L.length c] 33) (.cells #[.int .i64 a, .int .i64 d] 58))
  obtain ⟨ln, hln⟩ : ∃ ln, ln = L.length := ⟨_, rfl⟩
  rw [← hln] at HT HB0 HK0 HQ0 hz0 ⊢
  clear hR hV hl hln ht ha1 ha2 hd1 hd2
  go_enter Try.func35, Try.ntmps35
  go_wp2_with fail
  refine (HT.out _ (HR.out _ HB0.out)).mono ?_
  rintro e w1 ⟨rfl, hb⟩
  have HB1 := Lib.hid (HB0.out.trans (hb.mono HB0.out.size))
  have HQ1 := Lib.hid ((hb.block (w.heap.size + 1) (by rw [hz0]; omega)).trans HQ0.out)
  have q0 := cell_of_row w1 (w.heap.size + 1) 0 _ _ _ HQ1.out
  have q1 := cell_of_row w1 (w.heap.size + 1) 1 _ _ _ HQ1.out
  clear hb
  go_wp2_with fail
  refine (HCk.out _).mono ?_
  rintro e w2 ⟨rfl, hb⟩
  have HB2 := Lib.hid (HB1.out.trans (hb.mono HB1.out.size))
  have HQ2 := Lib.hid ((hb.block (w.heap.size + 1) ((Array.getElem?_eq_some_iff.1 HQ1.out).1)).trans HQ1.out)
  clear q0 q1 hb
  have q0 := cell_of_row w2 (w.heap.size + 1) 0 _ _ _ HQ2.out
  have q1 := cell_of_row w2 (w.heap.size + 1) 1 _ _ _ HQ2.out
  rcases hk with ⟨hc, rfl⟩ | ⟨hc, h1, rfl⟩ | ⟨hc, h1, h2, rfl⟩ | ⟨hc, h1, h2, rfl, rfl⟩
  · rw [if_neg (by rw [hc]; simp)]
    go_wp2_with fail
    go_ret3
    exact ⟨rfl, HB2.out⟩
  · rw [if_pos hc]
    have d1 : decide (a < 0) = true := by simpa using h1
    go_wp2_with fail
    go_ret3
    exact ⟨rfl, HB2.out⟩
  · rw [if_pos hc]
    have d1 : decide (a < 0) = false := by simpa using h1
    have d2 : decide (d < a) = true := by simpa using h2
    go_wp2_with fail
    go_ret3
    exact ⟨rfl, HB2.out⟩
  · rw [if_pos hc]
    have d1 : decide (a < 0) = false := by simpa using h1
    have d2 : decide (d < a) = false := by simpa using h2
    go_wp2_with fail
    go_ret3
    exact ⟨rfl, HB2.out⟩
end Go.Proofs.Ytolgcphmmghlbaa
