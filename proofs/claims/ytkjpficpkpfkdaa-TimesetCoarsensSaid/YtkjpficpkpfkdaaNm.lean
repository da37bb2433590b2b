/- The program's inRange, allInRange, and slices.Clone of intervals. -/
import Derived.Test.YtkjpficpkpfkdaaJo
import Derived.WalkSpells
namespace Go.Proofs.Ytkjpficpkpfkdaa
open Go.ChangeShapes Go.WideShapes Go.ChangeAt Go.RowKit Ts

def inR (x : Iv) : Bool := decide (-1125899906842624 ≤ x.1) && decide (x.1 ≤ 1125899906842624) && decide (-1125899906842624 ≤ x.2) && decide (x.2 ≤ 1125899906842624)
theorem inR_iff (x : Iv) : inR x = true ↔ (-1125899906842624 ≤ x.1 ∧ x.1 ≤ 1125899906842624) ∧ (-1125899906842624 ≤ x.2 ∧ x.2 ≤ 1125899906842624) := by
  unfold inR
  simp only [Bool.and_eq_true, decide_eq_true_eq, and_assoc]
theorem gt_no {x y : Int} (h : x < y) : (y ≤ x) = False := eq_false (by omega)
attribute [local go_sem] gt_no
set_option maxRecDepth 100000 in
set_option maxHeartbeats 1000000 in
theorem in_range (x1 x2 : Int) (w : World) : Calls Try.prog 47 #[.agg #[.int .i64 x1, .int .i64 x2]] w fun e w' => e = .returned (.bool (inR (x1, x2))) ∧ Below w.heap.size w w' := by
  have HA : Hid (Below w.heap.size w (w.alloc (.cells #[.int .i64 x1, .int .i64 x2] 25))) := Lib.hid ((Below.refl _ _).alloc (Nat.le_refl _) _)
  obtain ⟨F, hF⟩ : ∃ F, F = inR (x1, x2) := ⟨_, rfl⟩
  rw [← hF]
  have hi := inR_iff (x1, x2)
  dsimp only at hi
  rw [← hF] at hi
  have HI := Lib.hid hi
  clear hF hi
  by_cases h1 : -1125899906842624 ≤ x1
  · by_cases h2 : x1 ≤ 1125899906842624
    · by_cases h3 : -1125899906842624 ≤ x2
      · by_cases h4 : x2 ≤ 1125899906842624
        · have HT : Hid (F = true) := Lib.hid (HI.out.2 ⟨⟨h1, h2⟩, h3, h4⟩)
          go_enter Try.func47, Try.ntmps47
          go_wp2_with fail
          go_ret
          rw [HT.out]
          exact ⟨rfl, HA.out⟩
        · have HT : Hid (F = false) := Lib.hid (by rw [Bool.eq_false_iff]; intro h; exact h4 (HI.out.1 h).2.2)
          have h4' : 1125899906842624 < x2 := by omega
          go_enter Try.func47, Try.ntmps47
          go_wp2_with fail
          go_ret
          rw [HT.out]
          exact ⟨rfl, HA.out⟩
      · have HT : Hid (F = false) := Lib.hid (by rw [Bool.eq_false_iff]; intro h; exact h3 (HI.out.1 h).2.1)
        have h3' : x2 < -1125899906842624 := by omega
        go_enter Try.func47, Try.ntmps47
        go_wp2_with fail
        go_ret
        rw [HT.out]
        exact ⟨rfl, HA.out⟩
    · have HT : Hid (F = false) := Lib.hid (by rw [Bool.eq_false_iff]; intro h; exact h2 (HI.out.1 h).1.2)
      have h2' : 1125899906842624 < x1 := by omega
      go_enter Try.func47, Try.ntmps47
      go_wp2_with fail
      go_ret
      rw [HT.out]
      exact ⟨rfl, HA.out⟩
  · have HT : Hid (F = false) := Lib.hid (by rw [Bool.eq_false_iff]; intro h; exact h1 (HI.out.1 h).1.1)
    have h1' : x1 < -1125899906842624 := by omega
    go_enter Try.func47, Try.ntmps47
    go_wp2_with fail
    go_ret
    rw [HT.out]
    exact ⟨rfl, HA.out⟩
def allIn (L : List Iv) : Bool := L.all inR
set_option maxRecDepth 100000 in
set_option maxHeartbeats 1000000 in
theorem all_in_range (A : Option Addr) (c : Nat) (L : List Iv) (hl : L.length ≤ 1000000) (w : World) (hR : Rs w w.heap.size A (ivCells L)) :
    Calls Try.prog 49 #[.slice A L.length c] w fun e w' => e = .returned (.bool (allIn L)) ∧ Below w.heap.size w w' := by
  have HR := Lib.hid hR
  obtain ⟨F, hF⟩ : ∃ F, F = allIn L := ⟨_, rfl⟩
  rw [← hF]
  have HF := Lib.hid hF
  clear hR hF
  go_enter Try.func49, Try.ntmps49
  go_wp2_with fail
  go_loopw [7] (fun iv wr => ∃ j : Nat, j ≤ L.length ∧ iv = .int .i64 (j : Int) ∧ Hid (∀ q (h : q < L.length), q < j → inR L[q] = true) ∧ Hid (Below w.heap.size w wr)) (fun iv _ => L.length - (intOf iv).toNat)
  case atStart => exact ⟨0, Nat.zero_le _, rfl, Lib.hid (fun q _ hq => absurd hq (by omega)), Lib.hid (Below.refl _ _)⟩
  case round =>
    obtain ⟨j, hj, rfl, hall, HB⟩ := hrel
    by_cases hlt : j < L.length
    · obtain ⟨b, off, rfl, hb, h0, h1⟩ := iv_at (HR.out.below HB.out) j hlt
      have Hx := Lib.hid (List.getElem_mem hlt)
      obtain ⟨x, hx⟩ : ∃ x, x = L[j] := ⟨_, rfl⟩
      rw [← hx] at h0 h1 Hx
      have HX := Lib.hid hx
      clear hx
      obtain ⟨x1, x2⟩ := x
      dsimp only at h0 h1
      have hjl : (j : Int) < (L.length : Int) := by omega
      have hj0 : (0 : Int) ≤ (j : Int) := by omega
      have hbr : b < wr.heap.size := by have := HB.out.size; omega
      have Hc := Lib.hid (in_range x1 x2 (wr.alloc (.cells #[.int .i64 x1, .int .i64 x2] 25)))
      obtain ⟨bl, hbl⟩ : ∃ bl, bl = inR (x1, x2) := ⟨_, rfl⟩
      rw [← hbl] at Hc
      have HBL := Lib.hid hbl
      clear hbl
      go_wp2_with fail
      refine Hc.out.mono ?_
      rintro e w1 ⟨rfl, hb1⟩
      have HB1 := Lib.hid ((Below.alloc HB.out HB.out.size _).trans (hb1.mono (by have := HB.out.size; simp; omega)))
      clear hb1
      cases bl with
      | true =>
        go_wp2_with fail
        go_roundw
        case rel =>
          refine ⟨j + 1, by omega, by go_num, Lib.hid (fun q hq hqj => ?_), HB1⟩
          by_cases e : q = j
          · subst e; rw [← HX.out]; exact HBL.out.symm
          · exact hall.out q hq (by omega)
        case measure => simp [intOf] <;> omega
      | false =>
        have HT : Hid (F = false) := Lib.hid (by
          rw [HF.out, Bool.eq_false_iff]
          intro h
          have h2 := List.all_eq_true.1 h _ Hx.out
          rw [← HBL.out] at h2
          cases h2)
        go_wp2_with fail
        go_ret
        rw [HT.out]
        exact ⟨rfl, HB1.out⟩
    · have HT : Hid (F = true) := Lib.hid (by
        rw [HF.out]
        refine List.all_eq_true.2 (fun x hx => ?_)
        obtain ⟨q, hq, rfl⟩ := List.getElem_of_mem hx
        exact hall.out q hq (by omega))
      go_wp2_with fail
      go_ret
      rw [HT.out]
      exact ⟨rfl, HB.out⟩
theorem src_cells {w W : World} {ad : Addr} {cs : List Value} (h : Rs w w.heap.size (some ad) cs) (hB : Below w.heap.size w W) : ∀ j u, cs[j]? = some u → W.cell? (ad.add j) = some u := by
  intro j u hu
  obtain ⟨hj, he⟩ := List.getElem?_eq_some_iff.1 hu
  obtain ⟨b, off, eA, hb, hc⟩ := h j hj
  cases eA
  rw [add_flat, hB.cell (p := ⟨b, off + j, none⟩) hb, hc, he]
set_option maxRecDepth 100000 in
set_option maxHeartbeats 1000000 in
theorem clone_any (A : Option Addr) (c : Nat) (L : List Iv) (hl : L.length ≤ 90000) (hA : A = none → L.length = 0 ∧ c = 0) (w : World) (hR : Rs w w.heap.size A (ivCells L)) :
    Calls Try.prog 50 #[.slice A L.length c] w fun e w' => (∃ v, e = .returned v ∧ w'.ownsRow w.heap.size 25 2 v L.length (ivCells L)) ∧ Below w.heap.size w w' := by
  obtain ⟨i0, hi0, hz0, hz1, hz2⟩ := info_parts info_iv
  have Hi0 := Lib.hid hi0
  have Hz0 := Lib.hid hz0
  have Hz1 := Lib.hid hz1
  have Hz2 := Lib.hid hz2
  have HR := Lib.hid hR
  have q22 : ∀ (w : World) (a : Option Addr) (n c n' c' : Nat), (binOp .eql 22 (.slice a n c) (.slice none n' c')).run Try.prog w = .ok (.bool a.isNone) w := fun w a n c n' c' => Lib.run_eql_slice_nil w _ _ a n c n' c' Try.underlying22
  clear hi0 hz0 hz1 hz2 hR
  cases A with
  | none =>
    obtain ⟨h0, rfl⟩ := hA rfl
    obtain rfl : L = [] := List.eq_nil_of_length_eq_zero h0
    clear hA hl h0
    go_enter Try.func50, Try.ntmps50
    go_wp2_with fail
    go_ret
    exact ⟨⟨_, rfl, ⟨rfl, Or.inl ⟨rfl, rfl⟩⟩⟩, Below.refl _ _⟩
  | some ad =>
    clear hA
    go_enter Try.func50, Try.ntmps50
    go_wp2_with (at_builtin; refine wpList_append_own _ rfl (.tmp 5) (.tmp 6) 22 rfl w.heap.size 25 i0 _ 2 16 Try.underlying22 Hi0.out Hz0.out Hz1.out Hz2.out rfl (by decide) _ 0 [] rfl (own_empty (Deep.blk_alloc_new w _) (Nat.le_refl _)) ad L.length c (ivCells L) rfl (iv_cells_len L) (src_cells HR.out ((Below.refl _ _).alloc (Nat.le_refl _) _)) (iv_one L) (by unfold maxLen; omega) (by omega) (by simp) ?_; intro v4 w4 hown4 hg4 _; have HO4 := Lib.hid hown4; have HB4 := Lib.hid (below_grownk (B := w.heap.size) (a := w) ((Below.refl _ _).alloc (Nat.le_refl _) _) (own_empty (Deep.blk_alloc_new w _) (Nat.le_refl _)) hg4 (Nat.le_refl _) (Nat.le_refl _)); clear hown4 hg4)
    go_ret
    refine ⟨⟨_, rfl, ?_⟩, HB4.out⟩
    have h := HO4.out
    rw [Nat.zero_add, List.nil_append] at h
    exact h
end Go.Proofs.Ytkjpficpkpfkdaa
