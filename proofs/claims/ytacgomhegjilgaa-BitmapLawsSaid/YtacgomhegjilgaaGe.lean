/- The law's made and is. -/
import Derived.Test.YtacgomhegjilgaaGd
import Derived.Deep.RegionHeld3
import Derived.Deep.DrawnRows
namespace Go.Proofs.Ytacgomhegjilgaa
open Go.ChangeShapes Go.WideShapes Go.ChangeAt Go.RowKit Ts

/-- A store of another kind of cell touches no set of runs. -/
theorem sl_store {w : World} {X : Nat} {a : Option Addr} {n c : Nat} {t : TypeId} {v : Value} {L : List Iv} (h : Sl w v L) (hX : w.heap[X]? = some (.cells #[.slice a n c] t (0, 0))) (u : Value) : Sl (w.setCell ⟨X, 0, none⟩ u) v L := by
  obtain ⟨A, cc, e, h1, h2, h3, h4⟩ := h
  refine ⟨A, cc, e, h1, h2, h3, fun j hj => ?_⟩
  obtain ⟨b, off, eA, hb, hc⟩ := h4 j hj
  refine ⟨b, off, eA, by simpa [World.setCell] using hb, ?_⟩
  by_cases hbX : b = X
  · exfalso
    subst hbX
    rw [cell_of_row w b (off + j) _ _ _ hX] at hc
    have h0 : off + j = 0 := by
      rcases Nat.eq_zero_or_pos (off + j) with h | h
      · exact h
      · rw [Array.getElem?_eq_none (by simp; omega)] at hc; cases hc
    rw [h0] at hc
    have hm : (ivCells L)[j] ∈ ivCells L := List.getElem_mem hj
    obtain ⟨x, _, hx⟩ := List.mem_flatMap.1 hm
    simp only [ivC, List.mem_cons, List.not_mem_nil, or_false] at hx
    rcases hx with hx | hx
    · rw [hx] at hc; injection hc with hc; cases hc
    · rw [hx] at hc; injection hc with hc; cases hc
  · have hh : (w.setCell ⟨X, 0, none⟩ u).heap[b]? = w.heap[b]? := Below.heap_setCell w ⟨X, 0, none⟩ u b hbX
    rw [World.cell?_of_block (w := w) (a := ⟨b, off + j, none⟩) hh]
    exact hc
theorem Hold.init {w0 W : World} (h : Below w0.heap.size w0 W) : Hold w0 [] [] [] W := ⟨h, (fun _ h => nomatch h), (fun _ h => nomatch h), (fun _ h => nomatch h)⟩
theorem set_bs {l : List Int} (hl : l.length ≤ 80000) (hr : ∀ n ∈ l, isR n = true) : Bs 80000 (setL l) := by
  obtain ⟨a, b⟩ := setL_spec l
  refine ⟨a, ?_, fun n hn => hr n ((b n).1 hn)⟩
  rw [← jf_all]
  have := jf_len (srI l) (srI l).length
  rw [srI_len] at this ⊢
  omega
theorem any_ok {l : List Int} (hr : ∀ n ∈ l, isR n = true) : l.any (fun x => !isR x) = false := List.any_eq_false.2 (fun x hx => by rw [hr x hx]; decide)
set_option maxRecDepth 100000 in
set_option maxHeartbeats 2000000 in
theorem made_any (b : Int) (hb : 0 ≤ b ∧ b ≤ 65535) (A : Option Addr) (c : Nat) (L : List Iv) (hl : L.length ≤ 9223372036854775807) (hOk : ∀ x ∈ L, PrOk x) (w : World) (hR : Rs w w.heap.size A (prCells L)) :
    Calls Try.prog 22 #[.agg #[.int .u16 b, .slice A L.length c]] w fun e w' => (∃ r, e = .returned (.agg #[r]) ∧ Sl w' r (rn (setL (rowS b L)))) ∧ Below w.heap.size w w' := by
  have hB0 : Below w.heap.size w ((w.alloc (.cells #[.int .u16 b, .slice A L.length c] 36)).alloc (.cells #[.slice none 0 0] 26)) := ((Below.refl _ _).alloc (Nat.le_refl _) _).alloc (by simp) _
  have hk : ((w.alloc (.cells #[.int .u16 b, .slice A L.length c] 36)).alloc (.cells #[.slice none 0 0] 26)).heap[w.heap.size + 1]? = some (.cells #[.slice none 0 0] 26 (0, 0)) := blk_over w _ _
  have H0 := Lib.hid ((Hold.init hB0).addB hk)
  have HC := Lib.hid (rows_any b hb A c L hl hOk _ ((hR.below hB0).more hB0.size))
  obtain ⟨i1, i2, i3⟩ := rowS_spec b hOk
  obtain ⟨l, hl⟩ : ∃ l, l = rowS b L := ⟨_, rfl⟩
  rw [← hl] at HC i1 i2 i3 ⊢
  clear hl hB0 hk i1
  go_enter Try.func22, Try.ntmps22
  go_wp2_with fail
  refine HC.out.mono ?_
  rintro e w1 ⟨⟨v, rfl, hown⟩, hb1⟩
  obtain ⟨A1, c1, rfl, _, hR1, _⟩ := rs_ownn hown
  have H1 := Lib.hid (H0.out.next hb1)
  have HD := Lib.hid (of_any A1 c1 l (by omega) (any_ok i2) w1 hR1)
  clear hb1 hown hR1
  go_wp2_with fail
  refine HD.out.mono ?_
  rintro e w2 ⟨⟨r, rfl, hr⟩, hb2⟩
  have H2 := Lib.hid (H1.out.next hb2)
  have HS := Lib.hid hr
  obtain ⟨A2, c2, rfl, _, _, _, _⟩ := hr
  have HA := Lib.hid (H2.out.alloc (.cells #[.slice A2 (rn (setL l)).length c2] 26) (Deep.blk_alloc_new w2 _))
  have HSa := Lib.hid (HS.out.below (w' := w2.alloc (.cells #[.slice A2 (rn (setL l)).length c2] 26)) ((Below.refl _ _).alloc (Nat.le_refl _) _))
  have hc0 := HA.out.cell (.tail _ (.head _)) 0
  have hc1 := HA.out.cell (.head _) 0
  have hf0 : (w2.alloc (.cells #[.slice A2 (rn (setL l)).length c2] 26)).frozen? ⟨w.heap.size + 1, 0, none⟩ = false := frozen_of_row _ _ _ _ _ (HA.out.blk _ (.tail _ (.head _)))
  clear hb2
  go_wp2_with fail
  (try simp only [Exit.inBlock, Exit.then])
  have hcl2 : ((w2.alloc (.cells #[.slice A2 (rn (setL l)).length c2] 26)).setCell ⟨w.heap.size + 1, 0, none⟩ (.slice A2 (rn (setL l)).length c2)).cell? ⟨w.heap.size + 1, 0, none⟩ = some (.slice A2 (rn (setL l)).length c2) := by
    have hb2 := blk_set (off := 0) (.slice A2 (rn (setL l)).length c2) (HA.out.blk _ (.tail _ (.head _)))
    simp only [World.cell?, hb2]; rfl
  refine bodyPost_ret (v := .agg #[.slice A2 (rn (setL l)).length c2]) ?_ rfl ⟨⟨_, rfl, ?_⟩, ?_⟩
  · rw [results_cell1 rfl]; go_simp <;> rfl
  · exact sl_store HSa.out (HA.out.blk _ (.tail _ (.head _))) _
  · exact HA.out.out.setCell (p := ⟨w.heap.size + 1, 0, none⟩) (by show w.heap.size ≤ w.heap.size + 1; omega) _
end Go.Proofs.Ytacgomhegjilgaa
