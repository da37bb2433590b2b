/- Select. -/
import Derived.Test.YtacgomhegjilgaaBw
namespace Go.Proofs.Ytacgomhegjilgaa
open Go.ChangeShapes Go.WideShapes Go.ChangeAt Go.RowKit Ts

/-- The row with a rank. -/
def sel (k : Int) : List Iv → Int × Bool
  | [] => (0, false)
  | x :: R => if k < x.2 - x.1 + 1 then (x.1 + k, true) else sel (k - (x.2 - x.1 + 1)) R
theorem sel_hit (k : Int) (R : List Iv) (j : Nat) (h : j < R.length) (hk : k < R[j].2 - R[j].1 + 1) : sel k (R.drop j) = (R[j].1 + k, true) := by
  rw [List.drop_eq_getElem_cons h]
  show (if _ then _ else _) = _
  rw [if_pos hk]
theorem sel_miss (k : Int) (R : List Iv) (j : Nat) (h : j < R.length) (hk : ¬ k < R[j].2 - R[j].1 + 1) : sel k (R.drop j) = sel (k - (R[j].2 - R[j].1 + 1)) (R.drop (j + 1)) := by
  rw [List.drop_eq_getElem_cons h]
  show (if _ then _ else _) = _
  rw [if_neg hk]
def selR (k : Int) (R : List Iv) : Int × Bool := if k < 0 then (0, false) else sel k R
/-- Runs in range that are not empty. -/
def Rc (L : List Iv) : Prop := ∀ x ∈ L, (0 ≤ x.1 ∧ x.1 < 1048576) ∧ (0 ≤ x.2 ∧ x.2 < 1048576) ∧ x.1 ≤ x.2
set_option maxRecDepth 100000 in
set_option maxHeartbeats 2000000 in
theorem select_sl {v : Value} {L : List Iv} (hL : L.length ≤ 90000) (hb : Rc L) (k : Int) (hk : k ≤ 9223372036854775807) (w : World) (hv : Sl w v L) :
    Calls Try.prog 27 #[.agg #[v], .int .i64 k] w fun e w' => e = .returned (.tuple #[.int .i64 (selR k L).1, .bool (selR k L).2]) ∧ Below w.heap.size w w' := by
  obtain ⟨A, c, rfl, hc1, hc2, hA, hR⟩ := hv
  have HA0 := Lib.hid ((Below.refl w.heap.size w).alloc (Nat.le_refl _) (.cells #[.slice A L.length c] 26))
  have HR := Lib.hid hR
  have HBd := Lib.hid hb
  by_cases h0 : k < 0
  · have HS : Hid (selR k L = (0, false)) := Lib.hid (by unfold selR; rw [if_pos h0])
    rw [HS.out]
    clear hR hb hA
    go_enter Try.func27, Try.ntmps27
    go_wp2_with fail
    go_ret2
    exact ⟨rfl, HA0.out⟩
  · have HS : Hid (selR k L = sel k L) := Lib.hid (by unfold selR; rw [if_neg h0])
    rw [HS.out]
    obtain ⟨S, hS⟩ : ∃ S, S = sel k L := ⟨_, rfl⟩
    rw [← hS]
    have HSS := Lib.hid hS
    clear hR hb hA hS
    have hk0 : 0 ≤ k := by omega
    go_enter Try.func27, Try.ntmps27
    go_wp2_with fail
    go_loopw [1, 4, 5, 13] (fun uv u4 u5 iv wr => ∃ (j : Nat) (q : Int), j ≤ L.length ∧ uv = .int .i64 q ∧ u4 = .int .i64 0 ∧ u5 = .bool false ∧ iv = .int .i64 (j : Int) ∧ Hid ((0 ≤ q ∧ q ≤ 9223372036854775807) ∧ S = sel q (L.drop j)) ∧ Hid (Below w.heap.size w wr)) (fun _ _ _ iv _ => L.length - (intOf iv).toNat)
    case atStart => exact ⟨0, k, Nat.zero_le _, rfl, rfl, rfl, rfl, Lib.hid ⟨⟨hk0, hk⟩, HSS.out⟩, HA0⟩
    case round =>
      obtain ⟨j, q, hj, rfl, rfl, rfl, rfl, HQ, HB⟩ := hrel
      by_cases hlt : j < L.length
      · obtain ⟨b, off, rfl, hb, h0, h1⟩ := iv_at (HR.out.below HB.out) j hlt
        have hbx := HBd.out _ (List.getElem_mem hlt)
        have Hhit := Lib.hid (sel_hit q L j hlt)
        have Hmiss := Lib.hid (sel_miss q L j hlt)
        obtain ⟨x, hx⟩ : ∃ x, x = L[j] := ⟨_, rfl⟩
        rw [← hx] at h0 h1 hbx Hhit Hmiss
        clear hx
        obtain ⟨x1, x2⟩ := x
        dsimp only at h0 h1 hbx Hhit Hmiss
        have hq := HQ.out.1
        obtain ⟨z, hz⟩ : ∃ z, x2 - x1 + 1 = z := ⟨_, rfl⟩
        have HZ := Lib.hid (fun W => size_any x1 x2 (by omega) (by omega) W)
        rw [hz] at HZ Hhit Hmiss
        have hzb : 1 ≤ z ∧ z ≤ 1048576 := by omega
        have hjI : (j : Int) < (L.length : Int) := by omega
        have hj0 : (0 : Int) ≤ (j : Int) := by omega
        have hw1 : IntKind.i64.wrap ((j : Int) + 1) = (j : Int) + 1 := by simp only [IntKind.wrap_i64]; omega
        have hbr : b < wr.heap.size := by have := HB.out.size; omega
        have HA := Lib.hid (HB.out.alloc HB.out.size (.cells #[.int .i64 x1, .int .i64 x2] 39))
        by_cases hlq : q < z
        · have hw2 : IntKind.i64.wrap (x1 + q) = x1 + q := by simp only [IntKind.wrap_i64]; omega
          have hS1 : Hid (S = (x1 + q, true)) := Lib.hid (by rw [HQ.out.2, Hhit.out hlq])
          clear hz hbx
          go_wp2_with fail
          refine (HZ.out _).mono ?_
          rintro e w1 ⟨rfl, hb1⟩
          have HB1 := Lib.hid (HA.out.trans (hb1.mono HA.out.size))
          have hk1 : w1.heap[wr.heap.size]? = some (.cells #[.int .i64 x1, .int .i64 x2] 39 (0, 0)) := (hb1.block wr.heap.size (by simp)).trans (Deep.blk_alloc_new wr _)
          have hc0 : w1.cell? ⟨wr.heap.size, 0, none⟩ = some (.int .i64 x1) := by simp [World.cell?, hk1]
          clear hb1 hk1
          go_wp2_with fail
          go_ret2
          exact ⟨by rw [hS1.out]; rfl, HB1.out⟩
        · have hw2 : IntKind.i64.wrap (q - z) = q - z := by simp only [IntKind.wrap_i64]; omega
          clear hz hbx
          go_wp2_with fail
          refine (HZ.out _).mono ?_
          rintro e w1 ⟨rfl, hb1⟩
          have HB1 := Lib.hid (HA.out.trans (hb1.mono HA.out.size))
          have hk1 : w1.heap[wr.heap.size]? = some (.cells #[.int .i64 x1, .int .i64 x2] 39 (0, 0)) := (hb1.block wr.heap.size (by simp)).trans (Deep.blk_alloc_new wr _)
          have hc0 : w1.cell? ⟨wr.heap.size, 0, none⟩ = some (.int .i64 x1) := by simp [World.cell?, hk1]
          have hc1' : w1.cell? ⟨wr.heap.size, 1, none⟩ = some (.int .i64 x2) := by simp [World.cell?, hk1]
          have hS2 : Hid (S = sel (q - z) (L.drop (j + 1))) := Lib.hid (by rw [HQ.out.2, Hmiss.out hlq])
          clear hb1 hk1
          go_wp2_with fail
          refine (HZ.out _).mono ?_
          rintro e w2 ⟨rfl, hb2⟩
          have HB2 := Lib.hid (HB1.out.trans (hb2.mono HB1.out.size))
          clear hb2
          go_wp2_with fail
          go_roundw
          case rel => exact ⟨j + 1, q - z, by omega, rfl, rfl, rfl, by go_num, Lib.hid ⟨by omega, hS2.out⟩, HB2⟩
          case measure => simp [intOf] <;> omega
      · obtain rfl : j = L.length := by omega
        have hS0 : Hid (S = (0, false)) := Lib.hid (by rw [HQ.out.2, List.drop_length]; rfl)
        go_wp2_with fail
        go_ret2
        exact ⟨by rw [hS0.out]; rfl, HB.out⟩
end Go.Proofs.Ytacgomhegjilgaa
