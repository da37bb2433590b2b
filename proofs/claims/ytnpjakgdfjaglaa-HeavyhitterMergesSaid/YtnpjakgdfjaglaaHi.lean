/- Bounds. -/
import Derived.Test.YtnpjakgdfjaglaaGx
import Derived.BigQuiet
namespace Go.Proofs.Ytnpjakgdfjaglaa
open Go.ChangeShapes Go.WideShapes Go.ChangeAt Go.RowKit Go.Joins

theorem bd_cl (gk : Nat) (key s : ByteArray) (n : Int) (w : World) (hg : w.cell? ⟨gk, 0, none⟩ = some (.string key)) (hl : gk < w.heap.size) :
    Calls Try.prog 47 #[.agg #[.string s, .int .i64 n], .pointer (some ⟨gk, 0, none⟩)] w fun e w' => e = .returned (.bool (s.toList == key.toList)) ∧ Below w.heap.size w w' := by
  have hg2 := ((Below.refl w.heap.size w).alloc (Nat.le_refl _) (.cells #[.string s, .int .i64 n] 27)).cell (p := ⟨gk, 0, none⟩) hl
  rw [hg] at hg2
  go_enter Try.func47, Try.ntmps47
  go_wp2_with fail
  go_ret
  exact ⟨rfl, (Below.refl _ _).alloc (Nat.le_refl _) _⟩
/-- The index of a key's counter, or -1. -/
def ixC (L : List Ct) (key : ByteArray) (k : Int) : Prop := (k = -1 ∧ gt L key = 0) ∨ ∃ j : Nat, ∃ h : j < L.length, k = (j : Int) ∧ L[j].2 = gt L key
set_option maxRecDepth 100000 in
set_option maxHeartbeats 2000000 in
theorem index_any (gk : Nat) (key : ByteArray) (A : Option Addr) (c : Nat) (L : List Ct) (hl : L.length ≤ 1000000) (w : World) (hR : CR w A L) (hg : w.cell? ⟨gk, 0, none⟩ = some (.string key)) (hgl : gk < w.heap.size) :
    Calls Try.prog 46 #[.slice A L.length c, .func (.func 47) #[] #[.pointer (some ⟨gk, 0, none⟩)]] w fun e w' => (∃ k : Int, e = .returned (.int .i64 k) ∧ ixC L key k) ∧ Below w.heap.size w w' := by
  have HR := Lib.hid hR
  have HC := Lib.hid (fun s n (W : World) (hW : Below w.heap.size w W) => bd_cl gk key s n W ((hW.cell (p := ⟨gk, 0, none⟩) hgl).trans hg) (Nat.lt_of_lt_of_le hgl hW.size))
  have HF : Hid (∀ j (hj : j < L.length), (∀ i (hi : i < L.length), i < j → L[i].1 ≠ key) → L[j].1 = key → ixC L key (j : Int)) := Lib.hid (fun j hj h e => .inr ⟨j, hj, rfl, (gt_first j hj h e).symm⟩)
  have HP : Hid ((∀ i (hi : i < L.length), L[i].1 ≠ key) → ixC L key (-1)) := Lib.hid (fun h => .inl ⟨rfl, gt_past h⟩)
  obtain ⟨G, hG⟩ : ∃ G, G = ixC L key := ⟨_, rfl⟩
  rw [← hG] at HF HP ⊢
  clear hR hg hgl hG
  go_enter Try.func46, Try.ntmps46
  go_wp2_with fail
  go_loopw [5, 8] (fun _v iv wr => ∃ j : Nat, j ≤ L.length ∧ iv = .int .i64 (j : Int) ∧ Hid (∀ i (hi : i < L.length), i < j → L[i].1 ≠ key) ∧ Hid (Below w.heap.size w wr)) (fun _ iv _ => L.length - (intOf iv).toNat)
  case atStart => exact ⟨0, Nat.zero_le _, rfl, Lib.hid (fun i _ h => absurd h (by omega)), Lib.hid (Below.refl _ _)⟩
  case round =>
    obtain ⟨j, hj, rfl, HN, HB⟩ := hrel
    by_cases hlt : j < L.length
    · obtain ⟨b, off, rfl, hb, h0, h1⟩ := (HR.out.below HB.out).at j hlt
      have HFx := Lib.hid (HF.out j hlt HN.out)
      have HNx : Hid (∀ x, x = L[j] → x.1 ≠ key → ∀ i (hi : i < L.length), i < j + 1 → L[i].1 ≠ key) := Lib.hid (fun x hx hne i hi h => by
        by_cases e : i = j
        · subst e; rw [← hx]; exact hne
        · exact HN.out i hi (by omega))
      obtain ⟨x, hx⟩ : ∃ x, x = L[j] := ⟨_, rfl⟩
      have HX := Lib.hid hx
      rw [← hx] at h0 h1 HFx
      clear hx
      obtain ⟨t, m⟩ := x
      dsimp only at h0 h1 HFx
      have HCx := Lib.hid (HC.out t m wr HB.out)
      have hjI : (j : Int) < (L.length : Int) := by omega
      have hj0 : (0 : Int) ≤ (j : Int) := by omega
      have hw1 : IntKind.i64.wrap ((j : Int) + 1) = (j : Int) + 1 := by simp only [IntKind.wrap_i64]; omega
      by_cases e : t = key
      · have he : (t.toList == key.toList) = true := by rw [e]; simp
        rw [he] at HCx
        have HG := Lib.hid (HFx.out e)
        clear e he
        go_wp2_with fail
        go_at_call 47
        refine HCx.out.mono ?_
        rintro e w1 ⟨rfl, hb1⟩
        have HB1 := Lib.hid (HB.out.trans (hb1.mono HB.out.size))
        clear hb1
        go_wp2_with fail
        go_ret
        exact ⟨⟨_, rfl, HG.out⟩, HB1.out⟩
      · have he : (t.toList == key.toList) = false := (Lib.bytes_beq_false_iff t key).2 e
        rw [he] at HCx
        have HN2 := Lib.hid (HNx.out _ HX.out e)
        clear e he
        go_wp2_with fail
        go_at_call 47
        refine HCx.out.mono ?_
        rintro e w1 ⟨rfl, hb1⟩
        have HB1 := Lib.hid (HB.out.trans (hb1.mono HB.out.size))
        clear hb1
        go_wp2_with fail
        go_roundw
        case rel => exact ⟨j + 1, by omega, by go_num, HN2, HB1⟩
        case measure => simp [intOf] <;> omega
    · have HG := Lib.hid (HP.out (fun i hi => HN.out i hi (by omega)))
      go_wp2_with fail
      go_ret
      exact ⟨⟨_, rfl, HG.out⟩, HB.out⟩
set_option maxRecDepth 100000 in
set_option maxHeartbeats 4000000 in
theorem bounds_any (v : Value) (s : Su) (key : ByteArray) (hl : s.cs.length ≤ 1000000) (hb : -9223372036854775808 ≤ gt s.cs key + s.lo ∧ gt s.cs key + s.lo ≤ 9223372036854775807) (w : World) (hv : SuV w v s) :
    Calls Try.prog 26 #[v, .string key] w fun e w' => e = .returned (.tuple #[.int .i64 (gt s.cs key), .int .i64 (gt s.cs key + s.lo)]) ∧ Below w.heap.size w w' := by
  obtain ⟨mo, to, lo, cs⟩ := s
  obtain ⟨x, rfl, hx⟩ := hv
  dsimp only at hl hx hb ⊢
  obtain ⟨A, c, rfl, _, _, hR⟩ := hx
  obtain ⟨W0, hW0⟩ : ∃ W0 : World, W0 = (w.alloc (.cells #[.int .i64 mo, .int .i64 to, .int .i64 lo, .slice A cs.length c] 24)).alloc (.cells #[.string key] 9) := ⟨_, rfl⟩
  have HB0 : Hid (Below w.heap.size w W0) := Lib.hid (by rw [hW0]; exact ((Below.refl _ _).alloc (Nat.le_refl _) _).alloc (by simp) _)
  have g0 : W0.heap[w.heap.size]? = some (.cells #[.int .i64 mo, .int .i64 to, .int .i64 lo, .slice A cs.length c] 24 (0, 0)) := by rw [hW0]; exact blk_under _ _ _
  have g1 : W0.heap[w.heap.size + 1]? = some (.cells #[.string key] 9 (0, 0)) := by rw [hW0]; exact blk_over _ _ _
  have HG0 := Lib.hid g0
  have hz0 : W0.heap.size = w.heap.size + 2 := by rw [hW0]; simp
  have HIx := Lib.hid (index_any (w.heap.size + 1) key A c cs hl W0 (hR.below HB0.out) (cell_of_row _ _ 0 _ _ _ g1) (by omega))
  have HR := Lib.hid hR
  have HW := Lib.hid hW0
  obtain ⟨ln, hln⟩ : ∃ ln, ln = cs.length := ⟨_, rfl⟩
  have HLn := Lib.hid hln
  rw [← hln] at HIx HG0 HW hl ⊢
  obtain ⟨y, hy⟩ : ∃ y, y = gt cs key := ⟨_, rfl⟩
  have HY := Lib.hid hy
  rw [← hy] at hb ⊢
  have hwy : IntKind.i64.wrap (y + lo) = y + lo := by simp only [IntKind.wrap_i64]; omega
  clear hR hW0 g0 g1 hln hy
  go_enter Try.func26, Try.ntmps26
  go_wp2_with fail
  rw [← HW.out]
  refine HIx.out.mono ?_
  rintro e w1 ⟨⟨k, rfl, hk⟩, hb1⟩
  have HB1 : Hid (Below w.heap.size w w1) := Lib.hid (HB0.out.trans (hb1.mono HB0.out.size))
  have g0 := (hb1.block w.heap.size (by omega)).trans HG0.out
  have c2 := cell_of_row _ _ 2 _ _ _ g0
  have c3 := cell_of_row _ _ 3 _ _ _ g0
  simp at c2 c3
  clear hb1 g0
  rcases hk with ⟨rfl, hk⟩ | ⟨j, hj, rfl, hk⟩
  · have hy0 : y = 0 := by rw [HY.out]; exact hk
    have HY0 := Lib.hid hy0
    have hwl : IntKind.i64.wrap lo = lo := by simp only [IntKind.wrap_i64]; omega
    clear hk HY hy0
    go_wp2_with fail
    go_quiet (fail)
    go_wp2_with fail
    refine bodyPost_ret (results_tmp2 rfl _ _ _) rfl ⟨?_, below_drewN HB1.out _⟩
    rw [HY0.out]; simp
  · obtain ⟨b, off, rfl, hbl, h0, h1⟩ := (HR.out.below HB1.out).at j hj
    rw [hk, ← HY.out] at h1
    have hjI : (j : Int) < (ln : Int) := by rw [HLn.out]; omega
    have hj0 : (0 : Int) ≤ (j : Int) := by omega
    clear hj hk h0 HY
    go_wp2_with fail
    go_quiet (fail)
    go_wp2_with fail
    exact bodyPost_ret (results_tmp2 rfl _ _ _) rfl ⟨rfl, below_drewN HB1.out _⟩
end Go.Proofs.Ytnpjakgdfjaglaa
