/- The program's Check. -/
import Derived.Test.YtkjpficpkpfkdaaAl
namespace Go.Proofs.Ytkjpficpkpfkdaa
open Go.ChangeShapes Go.WideShapes Go.ChangeAt Go.RowKit Ts

/-- The first error of a list, behind an end. -/
def chkL (p : Option Int) : List Iv → Int
  | [] => 0
  | x :: L => if inR x = false then 2 else if x.2 ≤ x.1 then 7 else if (p.any fun q => decide (x.1 ≤ q)) = true then 8 else chkL (some x.2) L
theorem chk_zero (L : List Iv) (p : Option Int) (hin : ∀ x ∈ L, inR x = true) : chkL p L = 0 ↔ Nrm L ∧ ∀ q, p = some q → ∀ x ∈ L.head?, q < x.1 := by
  induction L generalizing p with
  | nil => exact ⟨fun _ => ⟨Nrm.nil, fun q _ x hx => by simp at hx⟩, fun _ => rfl⟩
  | cons x L ih =>
    have h0 : inR x = true := hin x (List.mem_cons_self ..)
    have ih' := ih (some x.2) (fun y hy => hin y (List.mem_cons_of_mem _ hy))
    show (if inR x = false then (2 : Int) else _) = 0 ↔ _
    rw [if_neg (by rw [h0]; decide)]
    by_cases h1 : x.2 ≤ x.1
    · rw [if_pos h1]
      exact ⟨(fun h => by cases h), fun h => absurd (h.1.1 x (List.mem_cons_self ..)) (by omega)⟩
    · rw [if_neg h1]
      by_cases h2 : (p.any fun q => decide (x.1 ≤ q)) = true
      · rw [if_pos h2]
        refine ⟨(fun h => by cases h), fun h => ?_⟩
        cases p with
        | none => simp at h2
        | some q =>
          have := h.2 q rfl x (by simp)
          simp at h2
          omega
      · rw [if_neg h2, ih']
        constructor
        · rintro ⟨a, b⟩
          refine ⟨⟨fun y hy => ?_, List.pairwise_cons.2 ⟨fun y hy => ?_, a.2⟩⟩, fun q hq y hy => ?_⟩
          · rcases List.mem_cons.1 hy with rfl | hy
            · omega
            · exact a.1 y hy
          · cases L with
            | nil => cases hy
            | cons z L =>
              have hz := b x.2 rfl z (by simp)
              rcases List.mem_cons.1 hy with rfl | hy
              · exact hz
              · have := (List.pairwise_cons.1 a.2).1 y hy
                have := a.1 z (List.mem_cons_self ..)
                omega
          · subst hq
            simp at hy h2
            subst hy
            exact h2
        · rintro ⟨a, b⟩
          obtain ⟨c, _, d⟩ := a.tail
          refine ⟨c, fun q hq y hy => ?_⟩
          cases hq
          exact d y (List.mem_of_mem_head? hy)
theorem chk_ok {L : List Iv} (hin : allIn L = true) : chkL none L = 0 ↔ Nrm L := by
  rw [chk_zero L none (fun x hx => List.all_eq_true.1 hin x hx)]
  exact ⟨fun h => h.1, fun h => ⟨h, fun q hq => by cases hq⟩⟩
/-- The end before an index. -/
def prevE (L : List Iv) : Nat → Option Int
  | 0 => none
  | j + 1 => (L[j]?).map Prod.snd
theorem chk_step (L : List Iv) (j : Nat) (h : j < L.length) : chkL (prevE L j) (L.drop j) = if inR L[j] = false then 2 else if L[j].2 ≤ L[j].1 then 7 else if ((prevE L j).any fun q => decide (L[j].1 ≤ q)) = true then 8 else chkL (prevE L (j + 1)) (L.drop (j + 1)) := by
  rw [List.drop_eq_getElem_cons h]
  have e : prevE L (j + 1) = some L[j].2 := by show (L[j]?).map Prod.snd = _; rw [List.getElem?_eq_getElem h]; rfl
  rw [e]; rfl
set_option maxRecDepth 100000 in
set_option maxHeartbeats 2000000 in
theorem check_any {v : Value} {L : List Iv} (hl : L.length ≤ 4096) (w : World) (hv : Sl w v L) :
    Calls Try.prog 14 #[v] w fun e w' => e = .returned (.int .i64 (chkL none L)) ∧ Below w.heap.size w w' := by
  obtain ⟨A, c, rfl, _, _, _, hR⟩ := hv
  have HR := Lib.hid hR
  obtain ⟨F, hF⟩ : ∃ F, F = chkL none L := ⟨_, rfl⟩
  rw [← hF]
  have HF := Lib.hid hF
  have hl4 : ¬ (4096 : Int) < (L.length : Int) := by omega
  clear hR hF
  go_enter Try.func14, Try.ntmps14
  go_wp2_with fail
  go_loopw [10] (fun iv wr => ∃ j : Nat, j ≤ L.length ∧ iv = .int .i64 (j : Int) ∧ Hid (F = chkL (prevE L j) (L.drop j)) ∧ Hid (Below w.heap.size w wr)) (fun iv _ => L.length - (intOf iv).toNat)
  case atStart => exact ⟨0, Nat.zero_le _, rfl, HF, Lib.hid (Below.refl _ _)⟩
  case round =>
    obtain ⟨j, hj, rfl, HE, HB⟩ := hrel
    by_cases hlt : j < L.length
    · have he := HE.out
      rw [chk_step L j hlt] at he
      obtain ⟨b, off, rfl, hb, h0, h1⟩ := iv_at (HR.out.below HB.out) j hlt
      have hprev : j = 0 ∨ ∃ m, j = m + 1 ∧ m < L.length := by
        cases j with
        | zero => exact .inl rfl
        | succ m => exact .inr ⟨m, rfl, by omega⟩
      obtain ⟨x, hx⟩ : ∃ x, x = L[j] := ⟨_, rfl⟩
      rw [← hx] at h0 h1 he
      clear hx
      obtain ⟨x1, x2⟩ := x
      dsimp only at h0 h1 he
      have hjl : (j : Int) < (L.length : Int) := by omega
      have hj0 : (0 : Int) ≤ (j : Int) := by omega
      have hw1 : IntKind.i64.wrap ((j : Int) + 1) = (j : Int) + 1 := by simp only [IntKind.wrap_i64]; omega
      have hbr : b < wr.heap.size := by have := HB.out.size; omega
      have hA : Below wr.heap.size wr (wr.alloc (.cells #[.int .i64 x1, .int .i64 x2] 25)) := (Below.refl _ _).alloc (Nat.le_refl _) _
      have Hc := Lib.hid (in_range x1 x2 (wr.alloc (.cells #[.int .i64 x1, .int .i64 x2] 25)))
      have HA := Lib.hid (HB.out.trans (hA.mono HB.out.size))
      have HX0 := Lib.hid (cell_of_row (wr.alloc (.cells #[.int .i64 x1, .int .i64 x2] 25)) wr.heap.size 0 _ _ _ (Deep.blk_alloc_new wr _))
      have HX1 := Lib.hid (cell_of_row (wr.alloc (.cells #[.int .i64 x1, .int .i64 x2] 25)) wr.heap.size 1 _ _ _ (Deep.blk_alloc_new wr _))
      obtain ⟨bl, hbl⟩ : ∃ bl, bl = inR (x1, x2) := ⟨_, rfl⟩
      rw [← hbl] at Hc he
      have HE2 := Lib.hid he
      clear hbl hA he HE
      go_wp2_with fail
      refine Hc.out.mono ?_
      rintro e w1 ⟨rfl, hb1⟩
      have HB1 := Lib.hid (HA.out.trans (hb1.mono (by have := HA.out.size; simp at this ⊢; omega)))
      have k0 := (hb1.cell (p := ⟨wr.heap.size, 0, none⟩) (by simp)).trans HX0.out
      have k1 := (hb1.cell (p := ⟨wr.heap.size, 1, none⟩) (by simp)).trans HX1.out
      have hz1 : wr.heap.size < w1.heap.size := by have := hb1.size; simp at this; omega
      have hold : ∀ p : Addr, p.block < wr.heap.size → w1.cell? p = wr.cell? p := fun p hp => (hb1.cell (by simp; omega)).trans (((Below.refl _ wr).alloc (Nat.le_refl _) (.cells #[.int .i64 x1, .int .i64 x2] 25)).cell hp)
      simp at k0 k1
      have HOld := Lib.hid hold
      clear hb1 hold
      cases bl with
      | false =>
        have HT : Hid (F = 2) := Lib.hid (by rw [HE2.out, if_pos rfl])
        go_wp2_with fail
        go_ret
        rw [HT.out]
        exact ⟨rfl, HB1.out⟩
      | true =>
        by_cases hle : x2 ≤ x1
        · have HT : Hid (F = 7) := Lib.hid (by rw [HE2.out, if_neg (by decide), if_pos hle])
          go_wp2_with fail
          go_ret
          rw [HT.out]
          exact ⟨rfl, HB1.out⟩
        · have hlt2 : x1 < x2 := by omega
          rcases hprev with rfl | ⟨m, rfl, hm⟩
          · have HE3 : Hid (F = chkL (prevE L (0 + 1)) (L.drop (0 + 1))) := Lib.hid (by rw [HE2.out, if_neg (by decide), if_neg hle, if_neg (by simp [prevE])])
            go_wp2_with fail
            go_region
            go_wp2_with fail
            go_roundw
            case rel => exact ⟨0 + 1, by omega, by go_num, HE3, Lib.hid HB1.out.drew⟩
            case measure => simp [intOf] <;> omega
          · obtain ⟨b', off', e, _, _, g1⟩ := iv_at (HR.out.below HB.out) m hm
            simp only [Option.some.injEq, Addr.mk.injEq, and_true] at e
            obtain ⟨rfl, rfl⟩ := e
            have hpe : prevE L (m + 1) = some L[m].2 := by show (L[m]?).map Prod.snd = _; rw [List.getElem?_eq_getElem hm]; rfl
            obtain ⟨y, hy⟩ : ∃ y, y = L[m].2 := ⟨_, rfl⟩
            rw [← hy] at g1 hpe
            have g2 := (HOld.out ⟨b, off + m * 2 + 1, none⟩ hbr).trans g1
            have HPE := Lib.hid hpe
            have hm0 : (0 : Int) ≤ (m : Int) := by omega
            have hml : (m : Int) < (L.length : Int) := by omega
            have hw2 : IntKind.i64.wrap ((m : Int) + 1 - 1) = (m : Int) := by simp only [IntKind.wrap_i64]; omega
            have hw3 : IntKind.i64.wrap (m : Int) = (m : Int) := by simp only [IntKind.wrap_i64]; omega
            have hpos : (0 : Int) < (m : Int) + 1 := by omega
            have em : ((m + 1 : Nat) : Int) = (m : Int) + 1 := by omega
            clear hy hpe g1 h0 h1
            by_cases hord : x1 ≤ y
            · have HT : Hid (F = 8) := Lib.hid (by rw [HE2.out, if_neg (by decide), if_neg hle, HPE.out, if_pos (by simp; exact hord)])
              clear hjl hj0 hw1
              rw [em]
              go_wp2_with fail
              go_region
              go_wp2_with fail
              go_ret
              rw [HT.out]
              exact ⟨rfl, HB1.out.drew⟩
            · have HE3 : Hid (F = chkL (prevE L (m + 1 + 1)) (L.drop (m + 1 + 1))) := Lib.hid (by rw [HE2.out, if_neg (by decide), if_neg hle, HPE.out, if_neg (by simp; omega)])
              have hno : y < x1 := by omega
              have hw5 : IntKind.i64.wrap ((m : Int) + 1 + 1) = (m : Int) + 1 + 1 := by simp only [IntKind.wrap_i64]; omega
              clear hjl hj0 hw1
              rw [em]
              go_wp2_with fail
              go_region
              go_wp2_with fail
              go_roundw
              case rel => exact ⟨m + 1 + 1, by omega, by go_num, HE3, Lib.hid HB1.out.drew⟩
              case measure => simp [intOf] <;> omega
    · obtain rfl : j = L.length := by omega
      have HT : Hid (F = 0) := Lib.hid (by rw [HE.out, List.drop_length]; rfl)
      go_wp2_with fail
      go_ret
      rw [HT.out]
      exact ⟨rfl, HB.out⟩
end Go.Proofs.Ytkjpficpkpfkdaa
