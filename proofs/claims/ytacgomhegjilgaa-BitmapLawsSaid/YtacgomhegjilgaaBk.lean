/- count, size. -/
import Derived.Test.YtacgomhegjilgaaBg
namespace Go.Proofs.Ytacgomhegjilgaa
open Go.ChangeShapes Go.WideShapes Go.ChangeAt Go.RowKit Ts

def Rb (L : List Iv) : Prop := ∀ x ∈ L, (-2000000 ≤ x.1 ∧ x.1 ≤ 2000000) ∧ (-2000000 ≤ x.2 ∧ x.2 ≤ 2000000)
set_option maxRecDepth 100000 in
theorem size_any (a b : Int) (h1 : -2000000 ≤ a ∧ a ≤ 2000000) (h2 : -2000000 ≤ b ∧ b ≤ 2000000) (w : World) : Calls Try.prog 58 #[.agg #[.int .i64 a, .int .i64 b]] w fun e w' => e = .returned (.int .i64 (b - a + 1)) ∧ Below w.heap.size w w' := by
  have w1 : IntKind.i64.wrap (b - a) = b - a := by simp only [IntKind.wrap_i64]; omega
  have w2 : IntKind.i64.wrap (b - a + 1) = b - a + 1 := by simp only [IntKind.wrap_i64]; omega
  have HA := Lib.hid ((Below.refl w.heap.size w).alloc (Nat.le_refl _) (.cells #[.int .i64 a, .int .i64 b] 39))
  go_enter Try.func58, Try.ntmps58
  go_wp2_with fail
  go_ret
  exact ⟨rfl, HA.out⟩
theorem cnt_bd {L : List Iv} (h : Rb L) : -5000000 * (L.length : Int) ≤ cnt L ∧ cnt L ≤ 5000000 * (L.length : Int) := by
  induction L with
  | nil => exact ⟨by decide, by decide⟩
  | cons x L ih =>
    have h1 := h x (List.mem_cons_self ..)
    have h2 := ih (fun y hy => h y (List.mem_cons_of_mem _ hy))
    have e : cnt (x :: L) = (x.2 - x.1 + 1) + cnt L := by unfold cnt; rw [List.map_cons, List.sum_cons]
    rw [e, List.length_cons]
    constructor <;> push_cast <;> omega
set_option maxRecDepth 100000 in
set_option maxHeartbeats 1000000 in
theorem count_any (A : Option Addr) (c : Nat) (L : List Iv) (hl : L.length ≤ 1000000) (hb : Rb L) (w : World) (hR : Rs w w.heap.size A (ivCells L)) :
    Calls Try.prog 56 #[.slice A L.length c] w fun e w' => e = .returned (.int .i64 (cnt L)) ∧ Below w.heap.size w w' := by
  have HR := Lib.hid hR
  have HBd := Lib.hid hb
  have HAll := Lib.hid (show cnt (L.take L.length) = cnt L by rw [List.take_length])
  clear hR hb
  go_enter Try.func56, Try.ntmps56
  go_wp2_with fail
  go_loopw [3, 8] (fun uv iv wr => ∃ j : Nat, j ≤ L.length ∧ uv = .int .i64 (cnt (L.take j)) ∧ iv = .int .i64 (j : Int) ∧ Hid (Below w.heap.size w wr)) (fun _ iv _ => L.length - (intOf iv).toNat)
  case atStart => exact ⟨0, Nat.zero_le _, rfl, rfl, Lib.hid (Below.refl _ _)⟩
  case round =>
    obtain ⟨j, hj, rfl, rfl, HB⟩ := hrel
    by_cases hlt : j < L.length
    · obtain ⟨b, off, rfl, hb, h0, h1⟩ := iv_at (HR.out.below HB.out) j hlt
      have hbx := HBd.out _ (List.getElem_mem hlt)
      have hcs : cnt (L.take (j + 1)) = cnt (L.take j) + (L[j].2 - L[j].1 + 1) := by rw [take_snoc L j hlt, cnt_snoc]
      have hcb := cnt_bd (L := L.take j) (fun y hy => HBd.out y (List.mem_of_mem_take hy))
      have htl : (L.take j).length ≤ 1000000 := by rw [List.length_take]; omega
      obtain ⟨x, hx⟩ : ∃ x, x = L[j] := ⟨_, rfl⟩
      rw [← hx] at h0 h1 hbx hcs
      clear hx
      obtain ⟨x1, x2⟩ := x
      dsimp only at h0 h1 hbx hcs
      obtain ⟨u, hu⟩ : ∃ u, u = cnt (L.take j) := ⟨_, rfl⟩
      obtain ⟨z, hz⟩ : ∃ z, x2 - x1 + 1 = z := ⟨_, rfl⟩
      rw [← hu] at hcb ⊢
      rw [← hu, hz] at hcs
      have HS := Lib.hid (fun W => size_any x1 x2 hbx.1 hbx.2 W)
      rw [hz] at HS
      have HCS := Lib.hid hcs
      have hjI : (j : Int) < (L.length : Int) := by omega
      have hj0 : (0 : Int) ≤ (j : Int) := by omega
      have hw1 : IntKind.i64.wrap ((j : Int) + 1) = (j : Int) + 1 := by simp only [IntKind.wrap_i64]; omega
      have hw2 : IntKind.i64.wrap (u + z) = u + z := by simp only [IntKind.wrap_i64]; omega
      have hbr : b < wr.heap.size := by have := HB.out.size; omega
      have HA := Lib.hid (HB.out.alloc HB.out.size (.cells #[.int .i64 x1, .int .i64 x2] 39))
      clear hcs hcb htl hu hz hbx
      go_wp2_with fail
      refine (HS.out _).mono ?_
      rintro e w1 ⟨rfl, hb1⟩
      have HB1 := Lib.hid (HA.out.trans (hb1.mono HA.out.size))
      clear hb1
      go_wp2_with fail
      go_roundw
      case rel => exact ⟨j + 1, by omega, by rw [HCS.out], by go_num, HB1⟩
      case measure => simp [intOf] <;> omega
    · obtain rfl : j = L.length := by omega
      rw [HAll.out]
      go_wp2_with fail
      go_ret
      exact ⟨rfl, HB.out⟩
end Go.Proofs.Ytacgomhegjilgaa
