/- The law's of. -/
import Derived.Test.YtolgcphmmghlbaaHq
namespace Go.Proofs.Ytolgcphmmghlbaa
open Go.ChangeShapes Go.WideShapes Go.ChangeAt Go.RowKit Go.Joins

/-- The buckets of values. -/
def bkS (M : List Int) : List Iv := bkN (cvN M M.length) 305
set_option maxRecDepth 100000 in
set_option maxHeartbeats 4000000 in
theorem lof_any (A : Option Addr) (c : Nat) (L : List Int) (hL : L.length ≤ 9223372036854775807) (hs : ∀ x ∈ L, -9223372036854775808 ≤ x ∧ x ≤ 9223372036854775807) (w : World) (hR : Rd (Value.int .i64) w A L) :
    Calls Try.prog 25 #[.slice A L.length c] w fun e w' => (∃ v, e = .returned (.agg #[v]) ∧ w'.ownsRow w.heap.size 66 2 v (bkS (vsN L 40)).length (ivCells (bkS (vsN L 40)))) ∧ Below w.heap.size w w' := by
  have HV := Lib.hid (fun W h => values_any A c L hL hs W h)
  have hln := vsN_len L 40
  have hok := vsN_ok L 40
  have HR := Lib.hid (fun W (hb : Below w.heap.size w W) => hR.below hb)
  clear hR hs
  obtain ⟨M, hM⟩ : ∃ M, M = vsN L 40 := ⟨_, rfl⟩
  rw [← hM] at HV hln hok ⊢
  have HO := Lib.hid (fun W D d h => of_ok D d M (by omega) hok W h)
  rw [show bkN (cvN M M.length) 305 = bkS M from rfl] at HO
  obtain ⟨B, hB⟩ : ∃ B, B = bkS M := ⟨_, rfl⟩
  rw [← hB] at HO ⊢
  clear hM hB hln hok
  have HBa : Hid (Below w.heap.size w (w.alloc (.cells #[.slice none 0 0] 33))) := Lib.hid ((Below.refl _ _).alloc (Nat.le_refl _) _)
  have HKa := Lib.hid (Deep.blk_alloc_new w (.cells #[.slice none 0 0] 33))
  go_enter Try.func25, Try.ntmps25
  go_wp2_with fail
  refine (HV.out _ (HR.out _ HBa.out)).mono ?_
  rintro e w1 ⟨⟨v, rfl, ho⟩, hb⟩
  obtain ⟨D, d, rfl, _, hrd⟩ := out_own ho
  have HB1 := Lib.hid (HBa.out.trans (hb.mono HBa.out.size))
  have HK1 := Lib.hid ((hb.block w.heap.size (by simp)).trans HKa.out)
  have hz1 : w.heap.size < w1.heap.size := (Array.getElem?_eq_some_iff.1 HK1.out).1
  clear ho hb
  go_wp2_with fail
  refine (HO.out _ _ _ hrd).mono ?_
  rintro e w2 ⟨⟨v, rfl, ho⟩, hb⟩
  obtain ⟨E, e, rfl, _, _, _⟩ := rs_own ho
  have HB2 := Lib.hid (HB1.out.trans (hb.mono HB1.out.size))
  have HK2 := Lib.hid ((hb.block w.heap.size hz1).trans HK1.out)
  have hz2 : w.heap.size < w2.heap.size := (Array.getElem?_eq_some_iff.1 HK2.out).1
  have HO2 := Lib.hid ho
  have c2 := cell_of_row w2 w.heap.size 0 _ _ _ HK2.out
  have hf2 : w2.frozen? ⟨w.heap.size, 0, none⟩ = false := by simp [World.frozen?, HK2.out]
  simp at c2
  clear ho hb hrd
  go_wp2_with fail
  refine bodyPost_ret (v := .agg #[.slice E B.length e]) ?_ rfl ⟨⟨_, rfl, ?_⟩, ?_⟩
  · rw [results_cell1 rfl]; go_simp <;> rfl
  · have h := World.ownsRow.alloc (ownsRow_setCell_below HO2.out (a := ⟨w.heap.size, 0, none⟩) (by show w.heap.size < _; omega) (.slice E B.length e)) (.cells #[.slice E B.length e] 33)
    refine ⟨h.1, ?_⟩
    rcases h.2 with h | ⟨g, cap, cur, hv, hb, h⟩
    · exact .inl h
    · exact .inr ⟨g, cap, cur, hv, by omega, h⟩
  · exact (HB2.out.setCell (p := ⟨w.heap.size, 0, none⟩) (Nat.le_refl _) _).alloc (by have := HB2.out.size; simp; omega) _
end Go.Proofs.Ytolgcphmmghlbaa
