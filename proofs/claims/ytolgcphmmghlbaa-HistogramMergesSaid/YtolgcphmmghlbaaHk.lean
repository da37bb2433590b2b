/- The program's Check. -/
import Derived.Test.YtolgcphmmghlbaaHj
namespace Go.Proofs.Ytolgcphmmghlbaa
open Go.ChangeShapes Go.WideShapes Go.ChangeAt Go.RowKit Go.Joins

set_option maxRecDepth 100000 in
set_option maxHeartbeats 8000000 in
theorem hcheck_any (A : Option Addr) (c : Nat) (L : List Iv) (hl : L.length ≤ 305) (hs : ∀ x ∈ L, IvOk x) (w : World) (hR : Rs w w.heap.size A (ivCells L)) :
    Calls Try.prog 18 #[.agg #[.slice A L.length c]] w fun e w' => e = .returned (.int .i64 (chkL none 0 L)) ∧ Below w.heap.size w w' := by
  have HR := Lib.hid hR
  have HS := Lib.hid hs
  obtain ⟨F, hF⟩ : ∃ F, F = chkL none 0 L := ⟨_, rfl⟩
  rw [← hF]
  have HF := Lib.hid hF
  clear hR hF hs
  go_enter Try.func18, Try.ntmps18
  have HK0 := Lib.hid (Deep.blk_alloc_new w (.cells #[.slice A L.length c] 33))
  go_wp2_with fail
  go_loopw [3, 9] (fun tv iv wr => ∃ (j : Nat) (t : Int), j ≤ L.length ∧ iv = .int .i64 (j : Int) ∧ tv = .int .i64 t ∧ 0 ≤ t ∧ t ≤ 1048576 * (j : Int) ∧ Hid (F = chkL (prevE L j) t (L.drop j)) ∧ Hid (Below w.heap.size w wr) ∧ Hid (wr.heap[w.heap.size]? = some (.cells #[.slice A L.length c] 33 (0, 0)))) (fun _ iv _ => L.length - (intOf iv).toNat)
  case atStart => exact ⟨0, 0, Nat.zero_le _, rfl, rfl, Int.le_refl _, Int.le_refl _, HF, Lib.hid ((Below.refl _ _).alloc (Nat.le_refl _) _), HK0⟩
  case round =>
    obtain ⟨j, t, hj, rfl, rfl, ht0, ht1, HE, HB, HK⟩ := hrel
    have hsz := HB.out.size
    by_cases hlt : j < L.length
    · have he := HE.out
      rw [chk_step L t j hlt] at he
      obtain ⟨b, off, rfl, hb, h0, h1⟩ := iv_at (Rs.below HR.out HB.out) j hlt
      have hprev : j = 0 ∨ ∃ m, j = m + 1 ∧ m < L.length := by
        cases j with
        | zero => exact .inl rfl
        | succ m => exact .inr ⟨m, rfl, by omega⟩
      have hq := HS.out _ (List.getElem_mem hlt)
      obtain ⟨x, hx⟩ : ∃ x, x = L[j] := ⟨_, rfl⟩
      rw [← hx] at h0 h1 he hq
      clear hx
      obtain ⟨x1, x2⟩ := x
      dsimp only at h0 h1 he
      obtain ⟨⟨q1, q2⟩, q3, q4⟩ := hq
      dsimp only at q1 q2 q3 q4
      have hjl : (j : Int) < (L.length : Int) := by omega
      have hj0 : (0 : Int) ≤ (j : Int) := by omega
      have hw1 : IntKind.i64.wrap ((j : Int) + 1) = (j : Int) + 1 := by simp only [IntKind.wrap_i64]; omega
      have ht2 : t ≤ 400000000 := by omega
      have hbr : b < wr.heap.size := by omega
      have HC := Lib.hid (fun W => isIndex_any x1 W)
      have HBa := Lib.hid (HB.out.alloc hsz (.cells #[.int .i64 x1, .int .i64 x2] 66))
      have HKa := Lib.hid (Deep.blk_alloc_new wr (.cells #[.int .i64 x1, .int .i64 x2] 66))
      obtain ⟨bl, hbl⟩ : ∃ bl, bl = (decide (0 ≤ x1) && decide (x1 < 305)) := ⟨_, rfl⟩
      rw [← hbl] at HC he
      have HE2 := Lib.hid he
      clear hbl he HE
      go_wp2_with fail
      refine (HC.out _).mono ?_
      rintro e w1 ⟨rfl, hw⟩
      have HB1 : Hid (Below w.heap.size w w1) := Lib.hid (by rw [← hw]; exact HBa.out)
      have HA1 : Hid (Below wr.heap.size wr w1) := Lib.hid (by rw [← hw]; exact (Below.refl _ _).alloc (Nat.le_refl _) _)
      have HK1 : Hid (w1.heap[w.heap.size]? = some (.cells #[.slice (some ⟨b, off, none⟩) L.length c] 33 (0, 0))) := Lib.hid ((HA1.out.block w.heap.size ((Array.getElem?_eq_some_iff.1 HK.out).1)).trans HK.out)
      have HX1 : Hid (w1.heap[wr.heap.size]? = some (.cells #[.int .i64 x1, .int .i64 x2] 66 (0, 0))) := Lib.hid (by rw [← hw]; exact HKa.out)
      have k0 := cell_of_row w1 wr.heap.size 0 _ _ _ HX1.out
      have k1 := cell_of_row w1 wr.heap.size 1 _ _ _ HX1.out
      have kk := cell_of_row w1 w.heap.size 0 _ _ _ HK1.out
      have hz1 : wr.heap.size < w1.heap.size := (Array.getElem?_eq_some_iff.1 HX1.out).1
      simp at k0 k1 kk
      clear hw h0 h1
      cases bl with
      | false =>
        have HT : Hid (F = 2) := Lib.hid (by rw [HE2.out, if_pos rfl])
        go_wp2_with fail
        go_ret
        rw [HT.out]
        exact ⟨rfl, HB1.out⟩
      | true =>
        rcases hprev with rfl | ⟨m, rfl, hm⟩
        · skip
          skip
          by_cases c1 : x2 < 1
          · have HT : Hid (F = 2) := Lib.hid (by rw [HE2.out, if_neg (by decide), if_neg (by simp [prevE]), if_pos (.inl c1)])
            have c2 : ¬ 1048576 < x2 := by omega
            go_wp2_with fail
            go_region
            go_wp2_with fail
            go_ret
            rw [HT.out]
            exact ⟨rfl, HB1.out.drew⟩
          · by_cases c2 : 1048576 < x2
            · have HT : Hid (F = 2) := Lib.hid (by rw [HE2.out, if_neg (by decide), if_neg (by simp [prevE]), if_pos (.inr c2)])
              have c3 : 1 ≤ x2 := by omega
              clear c1
              go_wp2_with fail
              go_region
              go_wp2_with fail
              go_ret
              rw [HT.out]
              exact ⟨rfl, HB1.out.drew⟩
            · have HE3 : Hid (F = chkL (prevE L (0 + 1)) (t + x2) (L.drop (0 + 1))) := Lib.hid (by rw [HE2.out, if_neg (by decide), if_neg (by simp [prevE]), if_neg (by omega)])
              have c3 : 1 ≤ x2 := by omega
              have c4 : x2 ≤ 1048576 := by omega
              have hwt : IntKind.i64.wrap (t + x2) = t + x2 := by simp only [IntKind.wrap_i64]; omega
              clear c1 c2
              go_wp2_with fail
              go_region
              go_wp2_with fail
              go_roundw
              case rel => exact ⟨0 + 1, t + x2, by omega, by go_num, rfl, by omega, by omega, HE3, Lib.hid HB1.out.drew, HK1⟩
              case measure => simp [intOf] <;> omega
        · obtain ⟨b', off', e, _, g1, _⟩ := iv_at (Rs.below HR.out HB.out) m hm
          simp only [Option.some.injEq, Addr.mk.injEq, and_true] at e
          obtain ⟨rfl, rfl⟩ := e
          have hpe : prevE L (m + 1) = some L[m].1 := by show (L[m]?).map Prod.fst = _; rw [List.getElem?_eq_getElem hm]; rfl
          obtain ⟨y, hy⟩ : ∃ y, y = L[m].1 := ⟨_, rfl⟩
          rw [← hy] at g1 hpe
          have g2 := (HA1.out.cell (p := ⟨b, off + m * 2, none⟩) hbr).trans g1
          have HPE := Lib.hid hpe
          have hm0 : (0 : Int) ≤ (m : Int) := by omega
          have hml : (m : Int) < (L.length : Int) := by omega
          have hw2 : IntKind.i64.wrap ((m : Int) + 1 - 1) = (m : Int) := by simp only [IntKind.wrap_i64]; omega
          have hw3 : IntKind.i64.wrap (m : Int) = (m : Int) := by simp only [IntKind.wrap_i64]; omega
          have hw5 : IntKind.i64.wrap ((m : Int) + 1 + 1) = (m : Int) + 1 + 1 := by simp only [IntKind.wrap_i64]; omega
          have hpos : (0 : Int) < (m : Int) + 1 := by omega
          have em : ((m + 1 : Nat) : Int) = (m : Int) + 1 := by omega
          clear hy hpe g1
          by_cases hord : x1 ≤ y
          · have HT : Hid (F = 8) := Lib.hid (by rw [HE2.out, if_neg (by decide), HPE.out, if_pos (by simp; exact hord)])
            clear hjl hj0 hw1
            rw [em]
            go_wp2_with fail
            go_region
            go_wp2_with fail
            go_ret
            rw [HT.out]
            exact ⟨rfl, HB1.out.drew⟩
          · have hno : y < x1 := by omega
            clear hjl hj0 hw1
            rw [em]
            by_cases c1 : x2 < 1
            · have HT : Hid (F = 2) := Lib.hid (by rw [HE2.out, if_neg (by decide), HPE.out, if_neg (by simp; omega), if_pos (.inl c1)])
              have c2 : ¬ 1048576 < x2 := by omega
              go_wp2_with fail
              go_region
              go_wp2_with fail
              go_ret
              rw [HT.out]
              exact ⟨rfl, HB1.out.drew⟩
            · by_cases c2 : 1048576 < x2
              · have HT : Hid (F = 2) := Lib.hid (by rw [HE2.out, if_neg (by decide), HPE.out, if_neg (by simp; omega), if_pos (.inr c2)])
                have c3 : 1 ≤ x2 := by omega
                clear c1
                go_wp2_with fail
                go_region
                go_wp2_with fail
                go_ret
                rw [HT.out]
                exact ⟨rfl, HB1.out.drew⟩
              · have HE3 : Hid (F = chkL (prevE L (m + 1 + 1)) (t + x2) (L.drop (m + 1 + 1))) := Lib.hid (by rw [HE2.out, if_neg (by decide), HPE.out, if_neg (by simp; omega), if_neg (by omega)])
                have c3 : 1 ≤ x2 := by omega
                have c4 : x2 ≤ 1048576 := by omega
                have hwt : IntKind.i64.wrap (t + x2) = t + x2 := by simp only [IntKind.wrap_i64]; omega
                clear c1 c2
                go_wp2_with fail
                go_region
                go_wp2_with fail
                go_roundw
                case rel => exact ⟨m + 1 + 1, t + x2, by omega, by go_num, rfl, by omega, by omega, HE3, Lib.hid HB1.out.drew, HK1⟩
                case measure => simp [intOf] <;> omega
    · obtain rfl : j = L.length := by omega
      have he := HE.out
      rw [List.drop_length] at he
      have he2 : F = if 1048576 < t then 20 else 0 := he
      have ht2 : t ≤ 400000000 := by omega
      clear he HE
      by_cases hov : 1048576 < t
      · rw [if_pos hov] at he2
        subst he2
        go_wp2_with fail
        go_ret
        exact ⟨rfl, HB.out⟩
      · rw [if_neg hov] at he2
        subst he2
        go_wp2_with fail
        go_ret
        exact ⟨rfl, HB.out⟩
end Go.Proofs.Ytolgcphmmghlbaa
