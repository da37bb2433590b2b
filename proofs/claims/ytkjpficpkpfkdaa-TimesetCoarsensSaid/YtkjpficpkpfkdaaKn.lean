/- The law's 'known'. -/
import Derived.Test.YtkjpficpkpfkdaaNs
namespace Go.Proofs.Ytkjpficpkpfkdaa
open Go.ChangeShapes Go.WideShapes Go.ChangeAt Go.RowKit Ts

theorem rs_blk {w : World} {X : Nat} {cs : List Value} {e : TypeId} (h : w.heap[X]? = some (.cells cs.toArray e (0, 0))) : Rs w w.heap.size (some ⟨X, 0, none⟩) cs := fun j hj =>
  ⟨X, 0, rfl, (Array.getElem?_eq_some_iff.1 h).1, by rw [Nat.zero_add, cell_of_row w X j _ _ _ h]; simp [hj]⟩
theorem sl_blk {w : World} {X : Nat} {L : List Iv} {e : TypeId} (hl : L.length ≤ 1000) (h : w.heap[X]? = some (.cells (ivCells L).toArray e (0, 0))) : Sl w (.slice (some ⟨X, 0, none⟩) L.length L.length) L :=
  ⟨_, _, rfl, Nat.le_refl _, by omega, (fun e => by cases e), rs_blk h⟩
theorem known_of : ofL [(3, 5), (1, 3), (8, 8), (4, 6)] = [(1, 6)] := by decide
theorem known_in : allIn [(3, 5), (1, 3), (8, 8), (4, 6)] = true := by decide
theorem known_cmb : cmbL butF [(1, 6)] [(2, 3)] = [(1, 2), (3, 6)] := by decide
theorem known_nth : nth 2 [(1, 6)] = (3, true) := by decide
theorem known_len : len [(1, 6)] = 5 := by decide
theorem one_ok {a b : Int} (h : a < b) (h1 : -1000 ≤ a) (h2 : b ≤ 1000) : Ok 1000 [(a, b)] := ⟨⟨fun x hx => by rw [List.mem_singleton.1 hx]; exact h, by simp⟩, by simp, fun x hx => by rw [List.mem_singleton.1 hx]; dsimp only; omega⟩
set_option maxHeartbeats 4000000 in
set_option maxRecDepth 100000 in
theorem known_any (w : World) :
    Calls Try.prog 13 #[] w fun e w' => e = .returned (.bool true) ∧ Below w.heap.size w w' := by
  have hA : Below w.heap.size w (w.alloc (.cells (ivCells [(3, 5), (1, 3), (8, 8), (4, 6)]).toArray 25)) := (Below.refl _ _).alloc (Nat.le_refl _) _
  have HN := Lib.hid (normal_ok (L := [(3, 5), (1, 3), (8, 8), (4, 6)]) (by decide) known_in _ (sl_blk (by decide) (Deep.blk_alloc_new w (.cells (ivCells [(3, 5), (1, 3), (8, 8), (4, 6)]).toArray 25))))
  rw [known_of] at HN
  have HA := Lib.hid hA
  clear hA
  go_enter Try.func13, Try.ntmps13
  go_wp2_with fail
  refine HN.out.mono ?_
  rintro e w1 ⟨⟨r, rfl, hr⟩, hb1⟩
  have HB1 := Lib.hid (HA.out.trans (hb1.mono HA.out.size))
  obtain ⟨A, c, rfl, h1, h2, h3, h4⟩ := hr
  obtain ⟨b, off, rfl, hb, d0, d1⟩ := iv_at h4 0 (by decide)
  have HR := Lib.hid h4
  have H3 := Lib.hid h3
  clear hb1 h3 h4
  have hok := one_ok (a := 1) (b := 6) (by decide) (by decide) (by decide)
  have Hnth := Lib.hid (nth_any (some ⟨b, off, none⟩) c [(1, 6)] hok.nrm.1 hok.bd (by decide) 2 (by decide) (by decide) w1 HR.out)
  rw [known_nth] at Hnth
  go_wp2_with fail
  refine Hnth.out.mono ?_
  rintro e w2 ⟨rfl, hb2⟩
  have HB2 := Lib.hid (HB1.out.trans (hb2.mono HB1.out.size))
  have HS2 := Lib.hid (Sl.below (v := .slice (some ⟨b, off, none⟩) 1 c) (L := [(1, 6)]) ⟨_, _, rfl, h1, h2, H3.out, HR.out⟩ hb2)
  have hC2 := hb2.cell (p := ⟨b, off + 0 * 2, none⟩) hb
  have hD2 := hb2.cell (p := ⟨b, off + 0 * 2 + 1, none⟩) hb
  have hbz := hb2.size
  clear hb2
  have hok2 := one_ok (a := 2) (b := 3) (by decide) (by decide) (by decide)
  have hA2 : Below w2.heap.size w2 (w2.alloc (.cells (ivCells [(2, 3)]).toArray 25)) := (Below.refl _ _).alloc (Nat.le_refl _) _
  have Hm := Lib.hid (minus_sl hok hok2 _ (HS2.out.below hA2) (sl_blk (L := [(2, 3)]) (by decide) (Deep.blk_alloc_new w2 (.cells (ivCells [(2, 3)]).toArray 25))))
  rw [known_cmb] at Hm
  have HA2 := Lib.hid (HB2.out.trans (hA2.mono HB2.out.size))
  clear hA2
  go_wp2_with fail
  refine Hm.out.mono ?_
  rintro e w3 ⟨⟨r, rfl, hr⟩, hb3⟩
  have HB3 := Lib.hid (HA2.out.trans (hb3.mono HA2.out.size))
  have hS3 := (HS2.out.below ((Below.refl _ _).alloc (Nat.le_refl _) (.cells (ivCells [(2, 3)]).toArray 25))).below hb3
  obtain ⟨A', c', e', _, _, _, hR3⟩ := hS3
  injection e' with e1 e2 e3
  subst e1 e3
  obtain ⟨b', off', e', hb', c0, c1⟩ := iv_at hR3 0 (by decide)
  simp only [Option.some.injEq, Addr.mk.injEq, and_true] at e'
  obtain ⟨rfl, rfl⟩ := e'
  obtain ⟨A3, c3, rfl, g1, g2, g3, g4⟩ := hr
  obtain ⟨b3, off3, rfl, hb3', _, _⟩ := iv_at g4 1 (by decide)
  have G4 := Lib.hid g4
  have Hlen := Lib.hid (length_any (some ⟨b, off, none⟩) c [(1, 6)] hok.nrm.1 hok.bd (by decide) w3 hR3)
  rw [known_len] at Hlen
  simp at c0 c1
  clear hb3 hR3 g4 g3 d0 d1 hC2 hD2 e2 h1 h2 g1 g2
  go_wp2_with fail
  refine Hlen.out.mono ?_
  rintro e w4 ⟨rfl, hb4⟩
  obtain ⟨b', off', e', _, d0, d1⟩ := iv_at (G4.out.below hb4) 1 (by decide)
  simp only [Option.some.injEq, Addr.mk.injEq, and_true] at e'
  obtain ⟨rfl, rfl⟩ := e'
  have HB4 := Lib.hid (HB3.out.trans (hb4.mono HB3.out.size))
  simp at d0 d1
  clear hb4
  go_wp2_with fail
  go_ret
  exact ⟨rfl, HB4.out⟩
end Go.Proofs.Ytkjpficpkpfkdaa
