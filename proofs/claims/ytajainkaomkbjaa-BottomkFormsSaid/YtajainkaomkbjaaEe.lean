/- Encode: the form of a sketch; the law's form. -/
import Derived.Test.YtajainkaomkbjaaEw
import Derived.Test.YtajainkaomkbjaaCf
namespace Go.Proofs.Ytajainkaomkbjaa
open Go.ChangeShapes Go.WideShapes Go.ChangeAt Go.RowKit Go.Joins Bt

/-- The parts of a sketch's form, the last one first: as far as key j. -/
def prE (n sd : Int) (m : Bool) (L : List Ky) : Nat → List (List UInt8)
  | 0 => [E.En.num (L.length : Int), E.boolF (!m), E.En.num sd, E.En.num n]
  | j + 1 => E.text (L.getD j (0, ByteArray.empty)).2 :: prE n sd m L j
/-- The form of a sketch. -/
def frE (n sd : Int) (x : List Ky × Bool) : ByteArray := ⟨(E.whole (prE n sd x.2 x.1 x.1.length)).toArray⟩
/-- Keys with short texts. -/
def Sz (L : List Ky) : Prop := ∀ k ∈ L, k.2.size ≤ 300
theorem Sz.getD {L : List Ky} (h : Sz L) (j : Nat) : (L.getD j (0, ByteArray.empty)).2.size ≤ 300 := by
  by_cases hj : j < L.length
  · have e : L.getD j (0, ByteArray.empty) = L[j] := by simp [List.getD, List.getElem?_eq_getElem hj]
    rw [e]; exact h _ (List.getElem_mem hj)
  · have e : L.getD j (0, ByteArray.empty) = (0, ByteArray.empty) := by simp [List.getD, List.getElem?_eq_none (Nat.le_of_not_lt hj)]
    rw [e]; decide
theorem Sz.take {L : List Ky} (h : Sz L) (n : Nat) : Sz (L.take n) := fun k hk => h k (List.mem_of_mem_take hk)
theorem text_bd {t : ByteArray} (h : t.size ≤ 300) : 0 < (E.text t).length ∧ (E.text t).length ≤ 309 := by
  have := E.num_bounds (t.size : Int) (by omega) (by omega)
  rw [E.text_len]; omega
theorem prE_total {n sd : Int} (hn : 0 ≤ n ∧ n ≤ 4611686018427387904) (hsd : 0 ≤ sd ∧ sd ≤ 4611686018427387904) (m : Bool) {L : List Ky} (hL : L.length ≤ 1024) (hz : Sz L) (j : Nat) : E.total (prE n sd m L j) ≤ 40 + 309 * j := by
  induction j with
  | zero =>
    show E.total [_, _, _, _] ≤ _
    simp only [E.total_cons]
    have h1 := E.num_bounds (L.length : Int) (by omega) (by omega)
    have h2 := E.num_bounds sd (by omega) (by omega)
    have h3 := E.num_bounds n (by omega) (by omega)
    have h4 : (E.boolF (!m)).length ≤ 9 := by cases m <;> decide
    have h5 : E.total [] = 0 := rfl
    omega
  | succ j ih =>
    show E.total (_ :: prE n sd m L j) ≤ _
    rw [E.total_cons]
    have := text_bd (hz.getD j)
    omega
theorem prE_pos {n sd : Int} (hn : 0 ≤ n ∧ n ≤ 4611686018427387904) (hsd : 0 ≤ sd ∧ sd ≤ 4611686018427387904) (m : Bool) {L : List Ky} (hL : L.length ≤ 1024) (hz : Sz L) (j : Nat) : ∀ f ∈ prE n sd m L j, 0 < f.length := by
  induction j with
  | zero =>
    intro f hf
    have h1 := E.num_bounds (L.length : Int) (by omega) (by omega)
    have h2 := E.num_bounds sd (by omega) (by omega)
    have h3 := E.num_bounds n (by omega) (by omega)
    have h4 : 0 < (E.boolF (!m)).length := by cases m <;> decide
    simp only [prE, List.mem_cons, List.not_mem_nil, or_false] at hf
    rcases hf with rfl | rfl | rfl | rfl
    · exact h1.1
    · exact h4
    · exact h2.1
    · exact h3.1
  | succ j ih =>
    intro f hf
    rcases List.mem_cons.1 hf with rfl | hf
    · exact (text_bd (hz.getD j)).1
    · exact ih f hf
theorem ws_gq {w : World} {g : Nat} {fs : List (List UInt8)} (h : E.WQ w (some ⟨g, 0, none⟩) fs) : E.WS w g fs := by
  rcases h with h | ⟨g', e, h⟩
  · cases h
  · simp only [Option.some.injEq, Addr.mk.injEq, and_true] at e
    rw [e]; exact h
/-- Behind a call of the Writer, which the call itself made. -/
theorem bq_own {B g : Nat} {a b c : World} (h : Below B a b) (k : b.grownBy c ((some (⟨g, 0, none⟩ : Addr)).map Addr.block)) (hB : B ≤ g) (hs : B ≤ a.heap.size) : Below B a c :=
  E.below_q h k (fun p e => by injection e with e; subst e; exact hB) hs
set_option maxRecDepth 100000 in
set_option maxHeartbeats 2000000 in
theorem encode_any (g : Nat) (n sd : Int) (hn : 0 ≤ n ∧ n ≤ 4611686018427387904) (hsd : 0 ≤ sd ∧ sd ≤ 4611686018427387904) (x : List Ky × Bool) (hL : x.1.length ≤ 1024) (hz : Sz x.1) (w : World) (h : Sk w g n sd x) :
    Calls Try.prog 24 #[.pointer (some ⟨g, 0, none⟩)] w fun e w' => e = .returned (.string (frE n sd x)) ∧ Below w.heap.size w w' := by
  obtain ⟨L, m⟩ := x
  have HE := Lib.hid (fun W h => exact_any (g := g) (n := n) (sd := sd) (x := (L, m)) W h)
  have HSk := Lib.hid h
  obtain ⟨v, ⟨A, c, rfl, hlc, hnl, hR⟩, h⟩ := h
  dsimp only at h hL hz hlc hnl hR
  have HR := Lib.hid hR
  have HG := Lib.hid h
  have HZ := Lib.hid hz
  have HT := Lib.hid (fun j => prE_total hn hsd m hL hz j)
  have HP := Lib.hid (prE_pos hn hsd m hL hz L.length)
  have HFr : Hid (frE n sd (L, m) = ⟨(E.whole (prE n sd m L L.length)).toArray⟩) := Lib.hid rfl
  rw [HFr.out]
  have hg := (Array.getElem?_eq_some_iff.1 h).1
  obtain ⟨ln, hln⟩ : ∃ ln, ln = L.length := ⟨_, rfl⟩
  have HLn := Lib.hid hln
  rw [← hln] at HP HG hL hlc ⊢
  have HC : Hid (∀ W, Below w.heap.size w W → W.cell? ⟨g, 0, none⟩ = some (.int .i64 n) ∧ W.cell? ⟨g, 1, none⟩ = some (.int .i64 sd) ∧ W.cell? ⟨g, 2, none⟩ = some (.slice A ln c)) := Lib.hid (fun W hb => ⟨cell_of_row W g 0 _ _ _ ((hb.block g hg).trans HG.out), cell_of_row W g 1 _ _ _ ((hb.block g hg).trans HG.out), cell_of_row W g 2 _ _ _ ((hb.block g hg).trans HG.out)⟩)
  have HB1 : Hid (Below w.heap.size w (w.alloc (.cells #[.pointer none, .int .i64 0] 72))) := Lib.hid ((Below.refl _ _).alloc (Nat.le_refl _) _)
  have HW1 : Hid (E.WQ (w.alloc (.cells #[.pointer none, .int .i64 0] 72)) (some ⟨w.heap.size, 0, none⟩) []) := Lib.hid (.inr ⟨_, rfl, .pointer none, Deep.blk_alloc_new w _, rfl⟩)
  obtain ⟨c0, c1, c2⟩ := HC.out _ HB1.out
  have ht5 : E.total [] = 0 := rfl
  have hb1 := E.num_bounds n (by omega) (by omega)
  have hb2 := E.num_bounds sd (by omega) (by omega)
  have hb3 : (E.boolF (!m)).length ≤ 9 := by cases m <;> decide
  have HW0 := Lib.hid (fun W => E.w_numberq (some ⟨w.heap.size, 0, none⟩) [] n ⟨by omega, by omega⟩ (by decide) W)
  have HW01 := Lib.hid (fun W => E.w_numberq (some ⟨w.heap.size, 0, none⟩) [E.En.num n] sd ⟨by omega, by omega⟩ (by simp only [E.total_cons]; omega) W)
  have HW02 := Lib.hid (fun W => E.w_bool (some ⟨w.heap.size, 0, none⟩) [E.En.num sd, E.En.num n] (!m) (by simp only [E.total_cons]; omega) W)
  have HW03 := Lib.hid (fun W => E.w_numberq (some ⟨w.heap.size, 0, none⟩) [E.boolF (!m), E.En.num sd, E.En.num n] (ln : Int) ⟨by omega, by omega⟩ (by simp only [E.total_cons]; omega) W)
  clear h hR hz hn hsd hln hnl ht5 hb1 hb2 hb3
  go_enter Try.func24, Try.ntmps24
  go_wp2_with fail
  with_reducible refine (HW0.out _ HW1.out).mono ?_
  rintro e w2 ⟨rfl, hws, hgr⟩
  have HB2 := Lib.hid (bq_own HB1.out hgr (Nat.le_refl _) (Nat.le_refl _))
  have HW2 := Lib.hid hws
  clear c0 c1 c2 hws hgr
  obtain ⟨c0, c1, c2⟩ := HC.out _ HB2.out
  go_wp2_with fail
  with_reducible refine (HW01.out _ HW2.out).mono ?_
  rintro e w3 ⟨rfl, hws, hgr⟩
  have HB3 := Lib.hid (bq_own HB2.out hgr (Nat.le_refl _) (Nat.le_refl _))
  have HW3 := Lib.hid hws
  clear c0 c1 c2 hws hgr
  go_wp2_with fail
  with_reducible refine (HE.out _ (HSk.out.below HB3.out)).mono ?_
  rintro e w3' ⟨rfl, rfl⟩
  go_wp2_with fail
  with_reducible refine (HW02.out _ HW3.out).mono ?_
  rintro e w4 ⟨rfl, hws, hgr⟩
  have HB4 := Lib.hid (bq_own HB3.out hgr (Nat.le_refl _) (Nat.le_refl _))
  have HW4 := Lib.hid hws
  clear hws hgr
  obtain ⟨c0, c1, c2⟩ := HC.out _ HB4.out
  go_wp2_with fail
  with_reducible refine (HW03.out _ HW4.out).mono ?_
  rintro e w5 ⟨rfl, hws, hgr⟩
  have HB5 := Lib.hid (bq_own HB4.out hgr (Nat.le_refl _) (Nat.le_refl _))
  have HW5 : Hid (E.WQ w5 (some ⟨w.heap.size, 0, none⟩) (prE n sd m L 0)) := Lib.hid (by show E.WQ _ _ [_, _, _, _]; rw [← HLn.out]; exact hws)
  clear c0 c1 c2 hws hgr
  obtain ⟨c0, c1, c2⟩ := HC.out _ HB5.out
  go_wp2_with fail
  clear c0 c1 c2
  go_loopw [32] (fun iv wr => ∃ j : Nat, j ≤ ln ∧ iv = .int .i64 (j : Int) ∧ Hid (E.WQ wr (some ⟨w.heap.size, 0, none⟩) (prE n sd m L j)) ∧ Hid (Below w.heap.size w wr)) (fun iv _ => ln - (intOf iv).toNat)
  case atStart => exact ⟨0, Nat.zero_le _, rfl, HW5, HB5⟩
  case round =>
    obtain ⟨j, hj, rfl, HW, HB⟩ := hrel
    by_cases hlt : j < ln
    · have hj2 : j < L.length := by rw [← HLn.out]; exact hlt
      obtain ⟨b, off, rfl, hbl, h0', h1'⟩ := (HR.out.below HB.out).at j hj2
      have HS : Hid (prE n sd m L (j + 1) = E.text L[j].2 :: prE n sd m L j) := Lib.hid (by
        show E.text (L.getD j (0, ByteArray.empty)).2 :: prE n sd m L j = _
        rw [show L.getD j (0, ByteArray.empty) = L[j] by simp [List.getD, List.getElem?_eq_getElem hj2]])
      have HZj := Lib.hid (HZ.out _ (List.getElem_mem hj2))
      obtain ⟨⟨kh, kt⟩, hx⟩ : ∃ k, k = L[j] := ⟨_, rfl⟩
      rw [← hx] at h0' h1' HS HZj
      dsimp only at h0' h1' HS HZj
      have hjI : (j : Int) < (ln : Int) := by omega
      have hj0 : (0 : Int) ≤ (j : Int) := by omega
      have hw1 : IntKind.i64.wrap ((j : Int) + 1) = (j : Int) + 1 := by simp only [IntKind.wrap_i64]; omega
      have HBz := Lib.hid (HB.out.alloc HB.out.size (.cells #[.int .i64 kh, .string kt] 50))
      have HWz := Lib.hid (HW.out.below ((Below.refl wr.heap.size wr).alloc (Nat.le_refl _) (.cells #[.int .i64 kh, .string kt] 50)))
      have HTj := Lib.hid (HT.out j)
      have HCt := Lib.hid (fun W h => E.w_text (some ⟨w.heap.size, 0, none⟩) (prE n sd m L j) kt (by have := HZj.out; omega) (by have := HTj.out; omega) W h)
      clear hx hj2
      go_wp2_with fail
      with_reducible refine (HCt.out _ HWz.out).mono ?_
      rintro e w6 ⟨rfl, hws, hgr⟩
      have HB6 := Lib.hid (bq_own HBz.out hgr (Nat.le_refl _) (Nat.le_refl _))
      have HW6 : Hid (E.WQ w6 (some ⟨w.heap.size, 0, none⟩) (prE n sd m L (j + 1))) := Lib.hid (by rw [HS.out]; exact hws)
      clear hws hgr h0' h1'
      go_wp2_with fail
      go_roundw
      case rel => exact ⟨j + 1, by omega, by go_num, HW6, HB6⟩
      case measure => simp [intOf] <;> omega
    · obtain rfl : j = ln := by omega
      have HTj := Lib.hid (HT.out j)
      have HCb := Lib.hid (fun W h => E.w_bytes w.heap.size (prE n sd m L j) HP.out (by have := HTj.out; omega) W h)
      go_wp2_with fail
      with_reducible refine (HCb.out _ (ws_gq HW.out)).mono ?_
      rintro e w6 ⟨rfl, hb⟩
      have HB6 := Lib.hid (HB.out.trans (hb.mono HB.out.size))
      clear hb
      go_wp2_with fail
      go_ret
      exact ⟨rfl, HB6.out⟩
end Go.Proofs.Ytajainkaomkbjaa
