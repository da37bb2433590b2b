/- The program's Rank. -/
import Derived.Test.YtkjpficpkpfkdaaRb
namespace Go.Proofs.Ytkjpficpkpfkdaa
open Go.ChangeShapes Go.WideShapes Go.ChangeAt Go.RowKit Ts

theorem rs_take {w : World} {B : Nat} {A : Option Addr} {L : List Iv} (h : Rs w B A (ivCells L)) (k : Nat) : Rs w B A (ivCells (L.take k)) := fun j hj => by
  have e : ivCells L = ivCells (L.take k) ++ ivCells (L.drop k) := by
    unfold ivCells
    rw [← List.flatMap_append, List.take_append_drop]
  have hj2 : j < (ivCells L).length := by rw [e, List.length_append]; omega
  obtain ⟨b, off, ea, hb, hc⟩ := h j hj2
  refine ⟨b, off, ea, hb, hc.trans ?_⟩
  congr 1
  have h1 : (ivCells L)[j]? = (ivCells (L.take k))[j]? := by rw [e, List.getElem?_append_left hj]
  rw [List.getElem?_eq_getElem hj2, List.getElem?_eq_getElem hj] at h1
  exact Option.some.inj h1
set_option maxRecDepth 100000 in
set_option maxHeartbeats 1000000 in
theorem rank_any (A : Option Addr) (c : Nat) (L : List Iv) (hN : Nrm L) (hb : Bnd L) (hl : L.length ≤ 1000) (hcap : L.length ≤ c) (hc9 : c ≤ 9223372036854775807) (n : Int) (w : World) (hR : Rs w w.heap.size A (ivCells L)) :
    Calls Try.prog 31 #[.slice A L.length c, .int .i64 n] w fun e w' => e = .returned (.int .i64 (rk n L)) ∧ Below w.heap.size w w' := by
  have Hc := Lib.hid (ended_by A c L hN (by omega) n w hR)
  have HR := Lib.hid hR
  have hrk := rk_cE hN n
  have hk := cw_le (fun x => decide (x.2 ≤ n)) L
  obtain ⟨k, hkk⟩ : ∃ k, k = cE n L := ⟨_, rfl⟩
  have hk' : k ≤ L.length := by rw [hkk]; exact hk
  obtain ⟨F, hF⟩ : ∃ F, F = rk n L := ⟨_, rfl⟩
  rw [← hF]
  have HF : Hid (F = len (L.take k) + (if hi : k < L.length then (if L[k].1 < n then n - L[k].1 else 0) else 0)) := Lib.hid (by rw [hF, hrk]; simp only [hkk])
  rw [← hkk] at Hc
  have hlen : 0 ≤ len (L.take k) := len_nonneg (fun x hx => hN.1 x (List.mem_of_mem_take hx))
  have hlb := rk_bound (n := 1125899906842624) (L := L.take k) (fun x hx => hN.1 x (List.mem_of_mem_take hx)) (fun x hx => hb x (List.mem_of_mem_take hx))
  rw [rk_full 1125899906842624 _ (fun x hx => ⟨hN.1 x (List.mem_of_mem_take hx), by have := (hb x (List.mem_of_mem_take hx)).2; omega⟩), List.length_take] at hlb
  have hmk : min k L.length = k := by omega
  rw [hmk] at hlb
  have HL := Lib.hid (fun W h => length_any A c (L.take k) (fun x hx => hN.1 x (List.mem_of_mem_take hx)) (fun x hx => hb x (List.mem_of_mem_take hx)) (by rw [List.length_take]; omega) W h)
  rw [List.length_take, hmk] at HL
  obtain ⟨s, hs⟩ : ∃ s, s = len (L.take k) := ⟨_, rfl⟩
  rw [← hs] at HF HL hlen hlb
  have hnx : ∀ hi : k < L.length, n < L[k].2 := fun hi => by
    have := cE_at (n := n) (L := L) (by rw [← hkk]; exact hi)
    simp only [← hkk] at this
    exact this
  clear hR hrk hk hF hkk hs hmk
  have hkc : (k : Int) ≤ (c : Int) := by omega
  by_cases hlt : k < L.length
  · have hbx := hb _ (List.getElem_mem hlt)
    have hn2 := hnx hlt
    obtain ⟨x, hx⟩ : ∃ x, x = L[k] := ⟨_, rfl⟩
    have HF2 : Hid (F = s + (if x.1 < n then n - x.1 else 0)) := Lib.hid (by rw [HF.out, dif_pos hlt, hx])
    rw [← hx] at hbx hn2
    have HX := Lib.hid hx
    clear hx HF hb hnx
    obtain ⟨x1, x2⟩ := x
    dsimp only at HF2 hbx hn2
    have hlt' : (k : Int) < (L.length : Int) := by omega
    have hk0 : (0 : Int) ≤ (k : Int) := by omega
    go_enter Try.func31, Try.ntmps31
    go_wp2_with fail
    refine Hc.out.mono ?_
    rintro e w1 ⟨rfl, hb1⟩
    have HB1 := Lib.hid hb1
    clear hb1
    go_wp2_with fail
    refine (HL.out w1 ((rs_take (HR.out.below HB1.out) k).more HB1.out.size)).mono ?_
    rintro e w2 ⟨rfl, hb2⟩
    have HB2 := Lib.hid (HB1.out.trans (hb2.mono HB1.out.size))
    clear hb2
    obtain ⟨b, off, rfl, hb', h0, h1⟩ := iv_at (HR.out.below HB2.out) k hlt
    rw [← HX.out] at h0 h1
    dsimp only at h0 h1
    by_cases hn : x1 < n
    · have HT : Hid (F = s + (n - x1)) := Lib.hid (by rw [HF2.out, if_pos hn])
      have hw1 : IntKind.i64.wrap (n - x1) = n - x1 := by simp only [IntKind.wrap_i64]; omega
      have hw2 : IntKind.i64.wrap (s + (n - x1)) = s + (n - x1) := by simp only [IntKind.wrap_i64]; omega
      go_wp2_with fail
      go_ret
      rw [HT.out]
      exact ⟨rfl, HB2.out⟩
    · have HT : Hid (F = s) := Lib.hid (by rw [HF2.out, if_neg hn]; omega)
      go_wp2_with fail
      go_ret
      rw [HT.out]
      exact ⟨rfl, HB2.out⟩
  · have HT : Hid (F = s) := Lib.hid (by rw [HF.out, dif_neg hlt]; omega)
    have hlt' : ¬ (k : Int) < (L.length : Int) := by omega
    clear HF hb hnx
    go_enter Try.func31, Try.ntmps31
    go_wp2_with fail
    refine Hc.out.mono ?_
    rintro e w1 ⟨rfl, hb1⟩
    have HB1 := Lib.hid hb1
    clear hb1
    go_wp2_with fail
    refine (HL.out w1 ((rs_take (HR.out.below HB1.out) k).more HB1.out.size)).mono ?_
    rintro e w2 ⟨rfl, hb2⟩
    have HB2 := Lib.hid (HB1.out.trans (hb2.mono HB1.out.size))
    clear hb2
    go_wp2_with fail
    go_ret
    rw [HT.out]
    exact ⟨rfl, HB2.out⟩
end Go.Proofs.Ytkjpficpkpfkdaa
