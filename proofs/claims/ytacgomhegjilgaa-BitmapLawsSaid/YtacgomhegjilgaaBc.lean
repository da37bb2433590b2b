/- slices.Clone of runs; Runs, Len. -/
import Derived.Test.YtacgomhegjilgaaBk
import Derived.Test.YtacgomhegjilgaaBf
namespace Go.Proofs.Ytacgomhegjilgaa
open Go.ChangeShapes Go.WideShapes Go.ChangeAt Go.RowKit Ts

theorem src_cells {w W : World} {ad : Addr} {cs : List Value} (h : Rs w w.heap.size (some ad) cs) (hB : Below w.heap.size w W) : ∀ j u, cs[j]? = some u → W.cell? (ad.add j) = some u := by
  intro j u hu
  obtain ⟨hj, he⟩ := List.getElem?_eq_some_iff.1 hu
  obtain ⟨b, off, eA, hb, hc⟩ := h j hj
  cases eA
  rw [add_flat, hB.cell (p := ⟨b, off + j, none⟩) hb, hc, he]
set_option maxRecDepth 100000 in
set_option maxHeartbeats 1000000 in
theorem clone_any (A : Option Addr) (c : Nat) (L : List Iv) (hl : L.length ≤ 90000) (hA : A = none → L.length = 0 ∧ c = 0) (w : World) (hR : Rs w w.heap.size A (ivCells L)) :
    Calls Try.prog 57 #[.slice A L.length c] w fun e w' => (∃ v, e = .returned v ∧ w'.ownsRow w.heap.size 39 2 v L.length (ivCells L)) ∧ Below w.heap.size w w' := by
  obtain ⟨i0, hi0, hz0, hz1, hz2⟩ := info_parts info_iv
  have Hi0 := Lib.hid hi0
  have Hz0 := Lib.hid hz0
  have Hz1 := Lib.hid hz1
  have Hz2 := Lib.hid hz2
  have HR := Lib.hid hR
  have q22 : ∀ (w : World) (a : Option Addr) (n c n' c' : Nat), (binOp .eql 24 (.slice a n c) (.slice none n' c')).run Try.prog w = .ok (.bool a.isNone) w := fun w a n c n' c' => Lib.run_eql_slice_nil w _ _ a n c n' c' Try.underlying24
  clear hi0 hz0 hz1 hz2 hR
  cases A with
  | none =>
    obtain ⟨h0, rfl⟩ := hA rfl
    obtain rfl : L = [] := List.eq_nil_of_length_eq_zero h0
    clear hA hl h0
    go_enter Try.func57, Try.ntmps57
    go_wp2_with fail
    go_ret
    exact ⟨⟨_, rfl, ⟨rfl, Or.inl ⟨rfl, rfl⟩⟩⟩, Below.refl _ _⟩
  | some ad =>
    clear hA
    go_enter Try.func57, Try.ntmps57
    go_wp2_with (at_builtin; refine wpList_append_own _ rfl (.tmp 5) (.tmp 6) 24 rfl w.heap.size 39 i0 _ 2 16 Try.underlying24 Hi0.out Hz0.out Hz1.out Hz2.out rfl (by decide) _ 0 [] rfl (own_empty (Deep.blk_alloc_new w _) (Nat.le_refl _)) ad L.length c (ivCells L) rfl (iv_cells_len L) (src_cells HR.out ((Below.refl _ _).alloc (Nat.le_refl _) _)) (iv_one L) (by unfold maxLen; omega) (by omega) (by simp) ?_; intro v4 w4 hown4 hg4 _; have HO4 := Lib.hid hown4; have HB4 := Lib.hid (below_grownk (B := w.heap.size) (a := w) ((Below.refl _ _).alloc (Nat.le_refl _) _) (own_empty (Deep.blk_alloc_new w _) (Nat.le_refl _)) hg4 (Nat.le_refl _) (Nat.le_refl _)); clear hown4 hg4)
    go_ret
    refine ⟨⟨_, rfl, ?_⟩, HB4.out⟩
    have h := HO4.out
    rw [Nat.zero_add, List.nil_append] at h
    exact h
set_option maxRecDepth 100000 in
theorem runs_any {v : Value} {L : List Iv} (hl : L.length ≤ 90000) (w : World) (hv : Sl w v L) :
    Calls Try.prog 23 #[.agg #[v]] w fun e w' => (∃ r, e = .returned r ∧ w'.ownsRow w.heap.size 39 2 r L.length (ivCells L)) ∧ Below w.heap.size w w' := by
  obtain ⟨A, c, rfl, _, _, hA, hR⟩ := hv
  have hA0 : Below w.heap.size w (w.alloc (.cells #[.slice A L.length c] 26)) := (Below.refl _ _).alloc (Nat.le_refl _) _
  have H := Lib.hid (clone_any A c L hl hA _ ((hR.below hA0).more hA0.size))
  have HB := Lib.hid hA0
  clear hA hR hA0
  go_enter Try.func23, Try.ntmps23
  go_wp2_with fail
  refine H.out.mono ?_
  rintro e w1 ⟨⟨r, rfl, hown⟩, hb⟩
  have HO := Lib.hid (own_base hown HB.out.size)
  have HB1 := Lib.hid (HB.out.trans (hb.mono HB.out.size))
  clear hb hown
  go_wp2_with fail
  go_ret
  exact ⟨⟨_, rfl, HO.out⟩, HB1.out⟩
set_option maxRecDepth 100000 in
theorem len_any {v : Value} {L : List Iv} (hl : L.length ≤ 90000) (hb : Rb L) (w : World) (hv : Sl w v L) :
    Calls Try.prog 21 #[.agg #[v]] w fun e w' => e = .returned (.int .i64 (cnt L)) ∧ Below w.heap.size w w' := by
  obtain ⟨A, c, rfl, _, _, hA, hR⟩ := hv
  have hA0 : Below w.heap.size w (w.alloc (.cells #[.slice A L.length c] 26)) := (Below.refl _ _).alloc (Nat.le_refl _) _
  have H := Lib.hid (count_any A c L (by omega) hb _ ((hR.below hA0).more hA0.size))
  have HB := Lib.hid hA0
  clear hA hR hA0
  go_enter Try.func21, Try.ntmps21
  go_wp2_with fail
  refine H.out.mono ?_
  rintro e w1 ⟨rfl, hb⟩
  have HB1 := Lib.hid (HB.out.trans (hb.mono HB.out.size))
  clear hb
  go_wp2_with fail
  go_ret
  exact ⟨rfl, HB1.out⟩
end Go.Proofs.Ytacgomhegjilgaa
