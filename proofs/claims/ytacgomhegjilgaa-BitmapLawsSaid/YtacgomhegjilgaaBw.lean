/- Contains, Rank, Select. -/
import Derived.Test.YtacgomhegjilgaaBx
namespace Go.Proofs.Ytacgomhegjilgaa
open Go.ChangeShapes Go.WideShapes Go.ChangeAt Go.RowKit Ts

/-- Whether a row belongs to runs. -/
def cns (n : Int) (R : List Iv) : Bool := match R[fnd n R]? with | some x => decide (x.1 ≤ n) | none => false
theorem sl_rs {w : World} {A : Option Addr} {c : Nat} {L : List Iv} (h : Sl w (.slice A L.length c) L) : Rs w w.heap.size A (ivCells L) := by
  obtain ⟨A', c', e, _, _, _, h⟩ := h
  cases e
  exact h
set_option maxRecDepth 100000 in
set_option maxHeartbeats 1000000 in
theorem contains_sl {v : Value} {L : List Iv} (hL : L.length ≤ 90000) (hS : Asc L) (n : Int) (w : World) (hv : Sl w v L) :
    Calls Try.prog 28 #[.agg #[v], .int .i64 n] w fun e w' => e = .returned (.bool (cns n L)) ∧ Below w.heap.size w w' := by
  have hv' := hv
  obtain ⟨A, c, rfl, _, _, _, _⟩ := hv
  have hA0 : Below w.heap.size w (w.alloc (.cells #[.slice A L.length c] 26)) := (Below.refl _ _).alloc (Nat.le_refl _) _
  have H := Lib.hid (find_any hL hS n _ (hv'.below hA0))
  have HB := Lib.hid hA0
  have HS := Lib.hid hv'
  have hle := fnd_le n L
  obtain ⟨F, hF⟩ : ∃ F, F = cns n L := ⟨_, rfl⟩
  rw [← hF]
  unfold cns at hF
  have HF := Lib.hid hF
  clear hv' hA0 hF
  obtain ⟨k, hk⟩ : ∃ k, k = fnd n L := ⟨_, rfl⟩
  rw [← hk] at H HF hle
  clear hk
  have hblk : (w.alloc (.cells #[.slice A L.length c] 26)).heap[w.heap.size]? = some (.cells #[.slice A L.length c] 26 (0, 0)) := Deep.blk_alloc_new w _
  have HK := Lib.hid hblk
  clear hblk
  go_enter Try.func28, Try.ntmps28
  go_wp2_with fail
  refine H.out.mono ?_
  rintro e w1 ⟨rfl, hb⟩
  have HB1 := Lib.hid (HB.out.trans (hb.mono HB.out.size))
  have hc0 : w1.cell? ⟨w.heap.size, 0, none⟩ = some (.slice A L.length c) := by
    have h := (hb.block w.heap.size (by simp)).trans HK.out
    simp [World.cell?, h]
  clear hb
  by_cases hlt : k < L.length
  · obtain ⟨b, off, rfl, hbb, h0, h1⟩ := iv_at (sl_rs (HS.out.below HB1.out)) k hlt
    rw [List.getElem?_eq_getElem hlt] at HF
    obtain ⟨x, hx⟩ : ∃ x, x = L[k] := ⟨_, rfl⟩
    rw [← hx] at h0 h1 HF
    clear hx
    obtain ⟨x1, x2⟩ := x
    dsimp only at h0 h1 HF
    have hkI : (k : Int) < (L.length : Int) := by omega
    have hk0 : (0 : Int) ≤ (k : Int) := by omega
    go_wp2_with fail
    go_ret
    exact ⟨by rw [HF.out]; rfl, HB1.out⟩
  · obtain rfl : k = L.length := by omega
    rw [List.getElem?_eq_none (Nat.le_refl _)] at HF
    go_wp2_with fail
    go_ret
    exact ⟨by rw [HF.out]; rfl, HB1.out⟩
/-- How many rows are less than a number. -/
def rkr (n : Int) (R : List Iv) : Int := cnt (R.take (fnd n R)) + (match R[fnd n R]? with | some x => if x.1 < n then n - x.1 else 0 | none => 0)
theorem rs_take {w : World} {B : Nat} {A : Option Addr} {L : List Iv} (h : Rs w B A (ivCells L)) (k : Nat) : Rs w B A (ivCells (L.take k)) := by
  have e : ivCells L = ivCells (L.take k) ++ ivCells (L.drop k) := by
    unfold ivCells
    rw [← List.flatMap_append, List.take_append_drop]
  intro j hj
  have hj2 : j < (ivCells L).length := by rw [e, List.length_append]; omega
  obtain ⟨b, off, e1, e2, e3⟩ := h j hj2
  refine ⟨b, off, e1, e2, ?_⟩
  rw [e3]
  simp only [e]
  rw [List.getElem_append_left hj]
set_option maxRecDepth 100000 in
set_option maxHeartbeats 1000000 in
theorem rank_sl {v : Value} {L : List Iv} (hL : L.length ≤ 90000) (hS : Asc L) (hb : Rb L) (n : Int) (w : World) (hv : Sl w v L) :
    Calls Try.prog 30 #[.agg #[v], .int .i64 n] w fun e w' => e = .returned (.int .i64 (rkr n L)) ∧ Below w.heap.size w w' := by
  have hv' := hv
  obtain ⟨A, c, rfl, hc1, hc2, hA, _⟩ := hv
  have hA0 : Below w.heap.size w (w.alloc (.cells #[.slice A L.length c] 26)) := (Below.refl _ _).alloc (Nat.le_refl _) _
  have H := Lib.hid (find_any hL hS n _ (hv'.below hA0))
  have HB := Lib.hid hA0
  have HS := Lib.hid hv'
  have hle := fnd_le n L
  obtain ⟨F, hF⟩ : ∃ F, F = rkr n L := ⟨_, rfl⟩
  rw [← hF]
  unfold rkr at hF
  have HF := Lib.hid hF
  clear hv' hA0 hF
  have hnk : ∀ x, L[fnd n L]? = some x → n ≤ x.2 := fun x h => by
    obtain ⟨h1, h2⟩ := List.getElem?_eq_some_iff.1 h
    have := fnd_at (n := n) hS (fnd n L) h1
    rw [h2] at this
    omega
  obtain ⟨k, hk⟩ : ∃ k, k = fnd n L := ⟨_, rfl⟩
  rw [← hk] at H HF hle hnk
  clear hk
  have hlk : (L.take k).length = k := by rw [List.length_take]; omega
  have HC := Lib.hid (fun W h => count_any A c (L.take k) (by omega) (fun y hy => hb y (List.mem_of_mem_take hy)) W h)
  rw [hlk] at HC
  have hcb := cnt_bd (L := L.take k) (fun y hy => hb y (List.mem_of_mem_take hy))
  rw [hlk] at hcb
  have hblk : (w.alloc (.cells #[.slice A L.length c] 26)).heap[w.heap.size]? = some (.cells #[.slice A L.length c] 26 (0, 0)) := Deep.blk_alloc_new w _
  have HK := Lib.hid hblk
  have hkI : (k : Int) ≤ (L.length : Int) := by omega
  have hkc : (k : Int) ≤ (c : Int) := by omega
  have hk0 : (0 : Int) ≤ (k : Int) := by omega
  clear hblk
  go_enter Try.func30, Try.ntmps30
  go_wp2_with fail
  refine H.out.mono ?_
  rintro e w1 ⟨rfl, hb1⟩
  have HB1 := Lib.hid (HB.out.trans (hb1.mono HB.out.size))
  have hc0 : w1.cell? ⟨w.heap.size, 0, none⟩ = some (.slice A L.length c) := by
    have h := (hb1.block w.heap.size (by simp)).trans HK.out
    simp [World.cell?, h]
  have HBk := Lib.hid ((hb1.block w.heap.size (by simp)).trans HK.out)
  have hlt1 : w.heap.size < w1.heap.size := by have := hb1.size; simp at this; omega
  clear hb1
  go_wp2_with fail
  refine (HC.out w1 (rs_take (sl_rs (HS.out.below HB1.out)) k)).mono ?_
  rintro e w2 ⟨rfl, hb2⟩
  have HB2 := Lib.hid (HB1.out.trans (hb2.mono HB1.out.size))
  have hc02 : w2.cell? ⟨w.heap.size, 0, none⟩ = some (.slice A L.length c) := by
    have h := (hb2.block w.heap.size hlt1).trans HBk.out
    simp [World.cell?, h]
  clear hb2 hc0
  obtain ⟨u, hu⟩ : ∃ u, u = cnt (L.take k) := ⟨_, rfl⟩
  rw [← hu] at HF hcb ⊢
  clear hu HC
  by_cases hlt : k < L.length
  · have hbx := hb _ (List.getElem_mem hlt)
    have hnx := hnk _ (List.getElem?_eq_getElem hlt)
    obtain ⟨b, off, rfl, hbb, h0, h1⟩ := iv_at (sl_rs (HS.out.below HB2.out)) k hlt
    rw [List.getElem?_eq_getElem hlt] at HF
    obtain ⟨x, hx⟩ : ∃ x, x = L[k] := ⟨_, rfl⟩
    rw [← hx] at h0 h1 HF hbx hnx
    clear hx
    obtain ⟨x1, x2⟩ := x
    dsimp only at h0 h1 HF hbx hnx
    have hkI2 : (k : Int) < (L.length : Int) := by omega
    by_cases hn : x1 < n
    · rw [if_pos hn] at HF
      have hw1 : IntKind.i64.wrap (n - x1) = n - x1 := by simp only [IntKind.wrap_i64]; omega
      have hw2 : IntKind.i64.wrap (u + (n - x1)) = u + (n - x1) := by simp only [IntKind.wrap_i64]; omega
      clear hnk hb
      go_wp2_with fail
      go_ret
      exact ⟨by rw [HF.out]; rfl, HB2.out⟩
    · rw [if_neg hn, Int.add_zero] at HF
      go_wp2_with fail
      go_ret
      exact ⟨by rw [HF.out]; rfl, HB2.out⟩
  · obtain rfl : k = L.length := by omega
    rw [List.getElem?_eq_none (Nat.le_refl _)] at HF
    dsimp only at HF
    rw [Int.add_zero] at HF
    go_wp2_with fail
    go_ret
    exact ⟨by rw [HF.out]; rfl, HB2.out⟩
end Go.Proofs.Ytacgomhegjilgaa
