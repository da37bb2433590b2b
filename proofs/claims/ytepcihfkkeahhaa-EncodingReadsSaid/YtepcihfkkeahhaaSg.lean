/- short. -/
import Derived.Test.YtepcihfkkeahhaaSf
namespace Go.Proofs.Ytepcihfkkeahhaa
open Go.ChangeShapes Go.WideShapes Go.ChangeAt Go.RowKit En

def Sp.Short (s : Sp) : Prop := s.al.length ≤ 8 ∧ s.ls.length ≤ 8 ∧ s.sv.size ≤ 100 ∧ s.ve.size ≤ 100 ∧ s.op.size ≤ 100 ∧ ∀ a ∈ s.al, a.key.size ≤ 100 ∧ a.text.size ≤ 100
def Sp.Lim (s : Sp) : Prop := s.al.length ≤ 9223372036854775807 ∧ s.ls.length ≤ 9223372036854775807 ∧ s.sv.size ≤ 9223372036854775807 ∧ s.ve.size ≤ 9223372036854775807 ∧ s.op.size ≤ 9223372036854775807 ∧ ∀ a ∈ s.al, a.key.size ≤ 9223372036854775807 ∧ a.text.size ≤ 9223372036854775807
def ShortPost (w : World) (s : Sp) (e : Ending) (w' : World) : Prop := (∃ bl, e = .returned (.bool bl) ∧ (bl = true → s.Short)) ∧ Below w.heap.size w w'
set_option maxRecDepth 100000 in
set_option maxHeartbeats 2000000 in
theorem short_any (s : Sp) (hs : s.Lim) (va vl : Value) (w : World) (hR : s.Has w w.heap.size va vl) :
    Calls Try.prog 25 #[.agg (s.cells va vl)] w (ShortPost w s) := by
  obtain ⟨A, ca, A2, cl, rfl, rfl, hA, hL⟩ := hR
  obtain ⟨t, i, p, r, c, k, sv, ve, op, st, en, er, al, ls⟩ := s
  obtain ⟨l1, l2, l3, l4, l5, l6⟩ := hs
  unfold Sp.cells
  dsimp only at l1 l2 l3 l4 l5 l6 hA hL ⊢
  have HA := Lib.hid hA
  have L6 := Lib.hid l6
  clear hA hL l6
  by_cases h1 : al.length ≤ 8
  · have h1' : ¬ (8 : Int) < (al.length : Int) := by omega
    by_cases h2 : ls.length ≤ 8
    · have h2' : ¬ (8 : Int) < (ls.length : Int) := by omega
      by_cases h3 : sv.size ≤ 100
      · have h3' : ¬ (100 : Int) < (sv.size : Int) := by omega
        by_cases h4 : ve.size ≤ 100
        · have h4' : ¬ (100 : Int) < (ve.size : Int) := by omega
          by_cases h5 : op.size ≤ 100
          · have h5' : ¬ (100 : Int) < (op.size : Int) := by omega
            obtain ⟨W, hW⟩ : ∃ W, W = w.alloc (.cells #[.int .i64 t, .int .i64 i, .int .i64 p, .int .i64 r, .int .i64 c, .int .i64 k, .string sv, .string ve, .string op, .int .i64 st, .int .i64 en, .bool er, .slice A al.length ca, .slice A2 ls.length cl] 54) := ⟨_, rfl⟩
            have HW := Lib.hid hW
            have HAW : Hid (Rs W w.heap.size A (atCells al)) := Lib.hid (by rw [hW]; exact HA.out.below ((Below.refl _ _).alloc (Nat.le_refl _) _))
            clear hW
            go_enter Try.func25, Try.ntmps25
            go_wp2_with fail
            go_loop [3] (fun iv => ∃ j : Nat, j ≤ al.length ∧ iv = .int .i64 (j : Int) ∧ Hid (∀ q, q < j → ∀ h : q < al.length, al[q].key.size ≤ 100 ∧ al[q].text.size ≤ 100)) (fun iv => al.length - (intOf iv).toNat)
            case atStart => exact ⟨0, Nat.zero_le _, rfl, Lib.hid (fun q hq => absurd hq (by omega))⟩
            case round =>
              obtain ⟨j, hj, rfl, hall⟩ := hrel
              by_cases hlt : j < al.length
              · obtain ⟨b, off, rfl, hb, c0, c1, c2, c3⟩ := at_cells HAW.out j hlt
                rw [HW.out] at c0 c1 c2 c3
                have hz := L6.out _ (List.getElem_mem hlt)
                obtain ⟨a, ha⟩ : ∃ a, a = al[j] := ⟨_, rfl⟩
                rw [← ha] at c0 c1 c2 c3 hz
                have Ha := Lib.hid ha
                obtain ⟨key, kd, tx, nn⟩ := a
                dsimp only at c0 c1 c2 c3 hz
                obtain ⟨hz1, hz2⟩ := hz
                clear ha
                by_cases hk : key.size ≤ 100
                · have hk' : ¬ (100 : Int) < (key.size : Int) := by omega
                  by_cases ht : tx.size ≤ 100
                  · have ht' : ¬ (100 : Int) < (tx.size : Int) := by omega
                    go_wp2_with fail
                    go_round
                    case rel =>
                      refine ⟨j + 1, by omega, by go_num, Lib.hid (fun q hq hql => ?_)⟩
                      by_cases e : q = j
                      · subst e; rw [← Ha.out]; exact ⟨hk, ht⟩
                      · exact hall.out q (by omega) hql
                    case measure => simp [intOf]; omega
                  · have ht' : (100 : Int) < (tx.size : Int) := by omega
                    go_wp2_with fail
                    go_ret
                    exact ⟨⟨false, rfl, fun h => nomatch h⟩, (Below.refl _ _).alloc (Nat.le_refl _) _⟩
                · have hk' : (100 : Int) < (key.size : Int) := by omega
                  go_wp2_with fail
                  go_ret
                  exact ⟨⟨false, rfl, fun h => nomatch h⟩, (Below.refl _ _).alloc (Nat.le_refl _) _⟩
              · go_wp2_with fail
                go_ret
                refine ⟨⟨true, rfl, fun _ => ⟨h1, h2, h3, h4, h5, fun a ha => ?_⟩⟩, (Below.refl _ _).alloc (Nat.le_refl _) _⟩
                obtain ⟨q, hq, rfl⟩ := List.getElem_of_mem ha
                exact hall.out q (by have : q < al.length := hq; omega) hq
          · have h5' : (100 : Int) < (op.size : Int) := by omega
            go_enter Try.func25, Try.ntmps25
            go_wp2_with fail
            go_ret
            exact ⟨⟨false, rfl, fun h => nomatch h⟩, (Below.refl _ _).alloc (Nat.le_refl _) _⟩
        · have h4' : (100 : Int) < (ve.size : Int) := by omega
          go_enter Try.func25, Try.ntmps25
          go_wp2_with fail
          go_ret
          exact ⟨⟨false, rfl, fun h => nomatch h⟩, (Below.refl _ _).alloc (Nat.le_refl _) _⟩
      · have h3' : (100 : Int) < (sv.size : Int) := by omega
        go_enter Try.func25, Try.ntmps25
        go_wp2_with fail
        go_ret
        exact ⟨⟨false, rfl, fun h => nomatch h⟩, (Below.refl _ _).alloc (Nat.le_refl _) _⟩
    · have h2' : (8 : Int) < (ls.length : Int) := by omega
      go_enter Try.func25, Try.ntmps25
      go_wp2_with fail
      go_ret
      exact ⟨⟨false, rfl, fun h => nomatch h⟩, (Below.refl _ _).alloc (Nat.le_refl _) _⟩
  · have h1' : (8 : Int) < (al.length : Int) := by omega
    go_enter Try.func25, Try.ntmps25
    go_wp2_with fail
    go_ret
    exact ⟨⟨false, rfl, fun h => nomatch h⟩, (Below.refl _ _).alloc (Nat.le_refl _) _⟩
end Go.Proofs.Ytepcihfkkeahhaa
