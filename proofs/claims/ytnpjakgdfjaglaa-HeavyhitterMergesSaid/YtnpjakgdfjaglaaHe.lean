/- The law's less. -/
import Derived.Test.YtnpjakgdfjaglaaHc
import Derived.Test.YtnpjakgdfjaglaaGz
import Derived.Deep.RegionLaw
namespace Go.Proofs.Ytnpjakgdfjaglaa
open Go.ChangeShapes Go.WideShapes Go.ChangeAt Go.RowKit Go.Joins

theorem cr_one (w : World) (k : ByteArray) (n : Int) : CR (w.alloc (.cells #[.string k, .int .i64 n] 27)).drew (some ⟨w.heap.size, 0, none⟩) [(k, n)] := fun j hj => by
  obtain rfl : j = 0 := by simpa using hj
  exact ⟨w.heap.size, 0, _, rfl, Deep.blk_alloc_new w _, rfl, rfl⟩
theorem lo_take {L : List Ct} {j : Nat} (hj : j < L.length) (d : Int) : loC (L.take (j + 1)) d = loC (L.take j) d ++ (if 0 < L[j].2 - d then [(L[j].1, L[j].2 - d)] else []) := by
  rw [List.take_succ_eq_append_getElem hj, loC_snoc]
set_option maxRecDepth 100000 in
set_option maxHeartbeats 4000000 in
theorem less_any (v : Value) (L : List Ct) (d : Int) (hl : L.length ≤ 100000) (hb : ∀ p ∈ L, 0 ≤ p.2 ∧ p.2 ≤ 1152921504606846976) (hd : 0 ≤ d ∧ d ≤ 1152921504606846976) (w : World) (hv : SlV w v L) :
    Calls Try.prog 45 #[v, .int .i64 d] w fun e w' => (∃ u, e = .returned u ∧ w'.ownsRow w.heap.size 27 2 u (loC L d).length (ctCells (loC L d))) ∧ Below w.heap.size w w' := by
  obtain ⟨A, c, rfl, hlc, hnl, hR⟩ := hv
  have HR := Lib.hid hR
  have HBd := Lib.hid hb
  obtain ⟨d0, d1⟩ := hd
  obtain ⟨ln, hln⟩ : ∃ ln, ln = L.length := ⟨_, rfl⟩
  have HLn := Lib.hid hln
  rw [← hln] at hl ⊢
  clear hR hb hln hnl hlc
  go_enter Try.func45, Try.ntmps45
  go_wp2_with fail
  go_loopw [5, 6] (fun u iv wr => ∃ j : Nat, j ≤ ln ∧ iv = .int .i64 (j : Int) ∧ Hid (wr.ownsRow w.heap.size 27 2 u (loC (L.take j) d).length (ctCells (loC (L.take j) d))) ∧ Hid (Below w.heap.size w wr)) (fun _ iv _ => ln - (intOf iv).toNat)
  case atStart => exact ⟨0, Nat.zero_le _, rfl, Lib.hid (by rw [List.take_zero]; exact own_nilc _ _), Lib.hid (Below.refl _ _)⟩
  case round =>
    obtain ⟨j, hj, rfl, HO, HB⟩ := hrel
    by_cases hlt : j < ln
    · have hj2 : j < L.length := by rw [← HLn.out]; exact hlt
      obtain ⟨b, off, rfl, hbl, h0, h1⟩ := (HR.out.below HB.out).at j hj2
      have hcb := HBd.out L[j] (List.getElem_mem hj2)
      have HS := Lib.hid (lo_take hj2 d)
      have HLe : Hid ((loC (L.take j) d).length ≤ 100000) := Lib.hid (Nat.le_trans (len_loC _ _) (by rw [List.length_take]; omega))
      obtain ⟨x, hx⟩ : ∃ x, x = L[j] := ⟨_, rfl⟩
      rw [← hx] at h0 h1 hcb HS
      clear hx hj2
      obtain ⟨t, m⟩ := x
      dsimp only at h0 h1 hcb HS
      have hjI : (j : Int) < (ln : Int) := by omega
      have hj0 : (0 : Int) ≤ (j : Int) := by omega
      have hw1 : IntKind.i64.wrap ((j : Int) + 1) = (j : Int) + 1 := by simp only [IntKind.wrap_i64]; omega
      obtain ⟨c0, c1⟩ := hcb
      by_cases hdm : d < m
      · have hS := HS.out
        rw [if_pos (by omega)] at hS
        have HS2 := Lib.hid hS
        obtain ⟨y, hy⟩ : ∃ y, y = m - d := ⟨_, rfl⟩
        rw [← hy] at HS2
        have hw2 : IntKind.i64.wrap (m - d) = y := by rw [hy]; simp only [IntKind.wrap_i64]; omega
        obtain ⟨N, hN⟩ : ∃ N, N = loC (L.take j) d := ⟨_, rfl⟩
        rw [← hN] at HO HLe HS2
        obtain ⟨q, hq⟩ : ∃ q, q = N.length := ⟨_, rfl⟩
        have HQ := Lib.hid hq
        rw [← hq] at HO HLe
        have HB1 : Hid (Below wr.heap.size wr (wr.alloc (.cells #[.string t, .int .i64 y] 27)).drew) := Lib.hid ((Below.refl _ _).alloc (Nat.le_refl _) _).drew
        have HO2 : Hid (∀ u, wr.ownsRow w.heap.size 27 2 u q (ctCells N) → (wr.alloc (.cells #[.string t, .int .i64 y] 27)).drew.ownsRow w.heap.size 27 2 u q (ctCells N)) := Lib.hid (fun u h => h.alloc _)
        have HX := Lib.hid (cr_one wr t y)
        clear hS hy hN hq HS
        go_wp2_with fail
        go_region_law ((first
          | (refine step_append_ct rfl (.tmp 20) (.tmp 34) rfl w.heap.size u5 q N (by rfl) (HO2.out _ HO.out) (some ⟨wr.heap.size, 0, none⟩) 1 1 (by rfl) [(t, y)] rfl (fun e => nomatch e) (Nat.le_refl _) HX.out (by have := HLe.out; omega) (Nat.le_trans HB.out.size HB1.out.size) ?_; intro v2 w2 hown hg; have HO3 := Lib.hid hown; have HB3 := Lib.hid (below_grownk (B := w.heap.size) (a := w) (HB.out.trans (HB1.out.mono HB.out.size)) (HO2.out _ HO.out) hg (Nat.le_refl _) (Nat.le_refl _)); clear hown hg)
          | fail))
        all_goals
          go_wp2_with fail
          go_roundw
          case rel => exact ⟨j + 1, by omega, by go_num, Lib.hid (by rw [HS2.out, List.length_append, ← HQ.out]; exact HO3.out), HB3⟩
          case measure => simp [intOf] <;> omega
      · have hS := HS.out
        rw [if_neg (by omega), List.append_nil] at hS
        have HS2 := Lib.hid hS
        clear hS HS
        go_wp2_with fail
        go_roundw
        case rel => exact ⟨j + 1, by omega, by go_num, Lib.hid (by rw [HS2.out]; exact HO.out), HB⟩
        case measure => simp [intOf] <;> omega
    · have hT : L.take j = L := List.take_of_length_le (by rw [← HLn.out]; omega)
      rw [hT] at HO
      clear hT
      go_wp2_with fail
      go_ret
      exact ⟨⟨_, rfl, HO.out⟩, HB.out⟩
end Go.Proofs.Ytnpjakgdfjaglaa
