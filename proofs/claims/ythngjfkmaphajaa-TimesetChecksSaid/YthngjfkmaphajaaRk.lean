/- The reference's Check; Check of too long a list. -/
import Derived.Test.YthngjfkmaphajaaRn
namespace Go.Proofs.Ythngjfkmaphajaa
open Go.ChangeShapes Go.WideShapes Go.ChangeAt Go.RowKit Ts

set_option maxRecDepth 100000 in
theorem check_long {v : Value} {L : List Iv} (hl : 4096 < L.length) (w : World) (hv : Sl w v L) :
    Calls Try.prog 14 #[v] w fun e w' => e = .returned (.int .i64 6) ∧ Below w.heap.size w w' := by
  obtain ⟨A, c, rfl, _, _, _, hR⟩ := hv
  clear hR
  have hl4 : (4096 : Int) < (L.length : Int) := by omega
  go_enter Try.func14, Try.ntmps14
  go_wp2_with fail
  go_ret
  exact ⟨rfl, Below.refl _ _⟩
set_option maxRecDepth 100000 in
set_option maxHeartbeats 2000000 in
theorem ref_check {v : Value} {L : List Iv} (hl : L.length ≤ 4096) (w : World) (hv : Sl w v L) :
    Calls Try.prog 15 #[v] w fun e w' => e = .returned (.int .i64 (chkL none L)) ∧ Below w.heap.size w w' := by
  obtain ⟨A, c, rfl, _, _, _, hR⟩ := hv
  have HR := Lib.hid hR
  obtain ⟨F, hF⟩ : ∃ F, F = chkL none L := ⟨_, rfl⟩
  rw [← hF]
  have HF := Lib.hid hF
  have hl4 : ¬ (4096 : Int) < (L.length : Int) := by omega
  clear hR hF
  go_enter Try.func15, Try.ntmps15
  go_wp2_with fail
  go_loopw [3] (fun iv wr => ∃ j : Nat, j ≤ L.length ∧ iv = .int .i64 (j : Int) ∧ Hid (F = chkL (prevE L j) (L.drop j)) ∧ Hid (Below w.heap.size w wr)) (fun iv _ => L.length - (intOf iv).toNat)
  case atStart => exact ⟨0, Nat.zero_le _, rfl, HF, Lib.hid (Below.refl _ _)⟩
  case round =>
    obtain ⟨j, hj, rfl, HE, HB⟩ := hrel
    by_cases hlt : j < L.length
    · have he := HE.out
      rw [chk_step L j hlt] at he
      obtain ⟨b, off, rfl, hb, h0, h1⟩ := iv_at (HR.out.below HB.out) j hlt
      have hprev : j = 0 ∨ ∃ m, j = m + 1 ∧ m < L.length := by
        cases j with
        | zero => exact .inl rfl
        | succ m => exact .inr ⟨m, rfl, by omega⟩
      obtain ⟨x, hx⟩ : ∃ x, x = L[j] := ⟨_, rfl⟩
      rw [← hx] at h0 h1 he
      clear hx
      obtain ⟨x1, x2⟩ := x
      dsimp only at h0 h1 he
      have hjl : (j : Int) < (L.length : Int) := by omega
      have hj0 : (0 : Int) ≤ (j : Int) := by omega
      have hw1 : IntKind.i64.wrap ((j : Int) + 1) = (j : Int) + 1 := by simp only [IntKind.wrap_i64]; omega
      rw [wi_in] at he
      dsimp only at he
      obtain ⟨p, hp⟩ : ∃ p, p = wi x1 := ⟨_, rfl⟩
      obtain ⟨q, hq⟩ : ∃ q, q = wi x2 := ⟨_, rfl⟩
      have H1 := Lib.hid (within_any x1 wr)
      have H2 := Lib.hid (within_any x2 wr)
      rw [← hp] at H1 he
      rw [← hq] at H2 he
      have HE2 := Lib.hid he
      clear hp hq he HE
      go_wp2_with fail
      refine H1.out.mono ?_
      rintro e w1 ⟨rfl, hw⟩
      have hw2 := hw.symm
      subst hw2
      clear hw
      cases p with
      | false =>
        have HT : Hid (F = 2) := Lib.hid (by rw [HE2.out, if_pos (by simp)])
        go_wp2_with fail
        go_ret
        rw [HT.out]
        exact ⟨rfl, HB.out⟩
      | true =>
        go_wp2_with fail
        refine H2.out.mono ?_
        rintro e w1 ⟨rfl, hw⟩
        have hw2 := hw.symm
        subst hw2
        clear hw
        cases q with
        | false =>
          have HT : Hid (F = 2) := Lib.hid (by rw [HE2.out, if_pos (by simp)])
          go_wp2_with fail
          go_ret
          rw [HT.out]
          exact ⟨rfl, HB.out⟩
        | true =>
          by_cases hle : x2 ≤ x1
          · have HT : Hid (F = 7) := Lib.hid (by rw [HE2.out, if_neg (by decide), if_pos hle])
            go_wp2_with fail
            go_region
            go_wp2_with fail
            go_ret
            rw [HT.out]
            exact ⟨rfl, HB.out.drew⟩
          · have hlt2 : x1 < x2 := by omega
            rcases hprev with rfl | ⟨m, rfl, hm⟩
            · rw [Nat.zero_mul, Nat.add_zero] at h0 h1
              have HE3 : Hid (F = chkL (prevE L (0 + 1)) (L.drop (0 + 1))) := Lib.hid (by rw [HE2.out, if_neg (by decide), if_neg hle, if_neg (by simp [prevE])])
              go_wp2_with fail
              go_region
              go_wp2_with fail
              go_region
              go_wp2_with fail
              go_roundw
              case rel => exact ⟨0 + 1, by omega, by go_num, HE3, Lib.hid HB.out.drew.drew⟩
              case measure => simp [intOf] <;> omega
            · obtain ⟨b', off', e, _, _, g1⟩ := iv_at (HR.out.below HB.out) m hm
              simp only [Option.some.injEq, Addr.mk.injEq, and_true] at e
              obtain ⟨rfl, rfl⟩ := e
              have hpe : prevE L (m + 1) = some L[m].2 := by show (L[m]?).map Prod.snd = _; rw [List.getElem?_eq_getElem hm]; rfl
              obtain ⟨y, hy⟩ : ∃ y, y = L[m].2 := ⟨_, rfl⟩
              rw [← hy] at g1 hpe
              have HPE := Lib.hid hpe
              have hm0 : (0 : Int) ≤ (m : Int) := by omega
              have hml : (m : Int) < (L.length : Int) := by omega
              have hw2 : IntKind.i64.wrap ((m : Int) + 1 - 1) = (m : Int) := by simp only [IntKind.wrap_i64]; omega
              have hw3 : IntKind.i64.wrap (m : Int) = (m : Int) := by simp only [IntKind.wrap_i64]; omega
              have hpos : (0 : Int) < (m : Int) + 1 := by omega
              have hpos0 : (0 : Int) ≤ (m : Int) + 1 := by omega
              have em : ((m + 1 : Nat) : Int) = (m : Int) + 1 := by omega
              have hml1 : (m : Int) + 1 < (L.length : Int) := by omega
              have hnat : ((m : Int) + 1).toNat = m + 1 := by omega
              clear hy hpe
              by_cases hord : x1 ≤ y
              · have HT : Hid (F = 8) := Lib.hid (by rw [HE2.out, if_neg (by decide), if_neg hle, HPE.out, if_pos (by simp; exact hord)])
                clear hjl hj0 hw1
                rw [em]
                go_wp2_with fail
                go_region
                go_wp2_with fail
                go_region
                go_wp2_with fail
                go_ret
                rw [HT.out]
                exact ⟨rfl, HB.out.drew.drew⟩
              · have HE3 : Hid (F = chkL (prevE L (m + 1 + 1)) (L.drop (m + 1 + 1))) := Lib.hid (by rw [HE2.out, if_neg (by decide), if_neg hle, HPE.out, if_neg (by simp; omega)])
                have hno : y < x1 := by omega
                have hw5 : IntKind.i64.wrap ((m : Int) + 1 + 1) = (m : Int) + 1 + 1 := by simp only [IntKind.wrap_i64]; omega
                clear hjl hj0 hw1
                rw [em]
                go_wp2_with fail
                go_region
                go_wp2_with fail
                go_region
                go_wp2_with fail
                go_roundw
                case rel => exact ⟨m + 1 + 1, by omega, by go_num, HE3, Lib.hid HB.out.drew.drew⟩
                case measure => simp [intOf] <;> omega
    · obtain rfl : j = L.length := by omega
      have HT : Hid (F = 0) := Lib.hid (by rw [HE.out, List.drop_length]; rfl)
      go_wp2_with fail
      go_ret
      rw [HT.out]
      exact ⟨rfl, HB.out⟩
end Go.Proofs.Ythngjfkmaphajaa
