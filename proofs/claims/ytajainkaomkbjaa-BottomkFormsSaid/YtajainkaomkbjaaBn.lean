/- The reference: with (written by wip/bin/gen_bn23.py). -/
import Derived.Test.YtajainkaomkbjaaBm
import Derived.Deep.RegionLaw
import Derived.Test.YtajainkaomkbjaaIl
namespace Go.Proofs.Ytajainkaomkbjaa
open Go.ChangeShapes Go.WideShapes Go.ChangeAt Go.RowKit Go.Joins Bt

theorem ins_have {L : List Ky} {s : Ky} (h : L[lw L s]? = some s) : ins L s = L := by unfold ins; rw [if_pos h]
theorem ins_new {L : List Ky} {s : Ky} (h : L[lw L s]? ≠ some s) : ins L s = L.take (lw L s) ++ [s] ++ L.drop (lw L s) := by unfold ins; rw [if_neg h]; simp
theorem new3 (w : World) (A B C : Obj) : (((w.alloc A).alloc B).alloc C).heap[w.heap.size]? = some A ∧ (((w.alloc A).alloc B).alloc C).heap[w.heap.size + 1]? = some B ∧ (((w.alloc A).alloc B).alloc C).heap[w.heap.size + 1 + 1]? = some C := by
  have s1 : (w.alloc A).heap.size = w.heap.size + 1 := by simp
  have s2 : ((w.alloc A).alloc B).heap.size = w.heap.size + 1 + 1 := by simp
  refine ⟨?_, ?_, ?_⟩
  · rw [Below.heap_alloc _ _ _ (by omega), Below.heap_alloc _ _ _ (by omega)]; exact Deep.blk_alloc_new w A
  · rw [Below.heap_alloc _ _ _ (by omega), ← s1]; exact Deep.blk_alloc_new _ B
  · rw [← s2]; exact Deep.blk_alloc_new _ C
theorem sliced_from (A : Option Addr) (ln c p : Nat) (hp : p ≤ ln) (W : World) : (Instr.slice 26 (.slice A ln c) (some (.int .i64 (p : Int))) none none).run Try.prog W = .ok (.slice (if c = p then A else A.map (fun a => a.add (p * 2))) (ln - p) (c - p)) W := by
  simp [go_sem, Try.underlying26, show (p : Int) ≤ (ln : Int) by omega, sliced]

set_option maxRecDepth 100000 in
set_option maxHeartbeats 4000000 in
theorem with_any (n sd : Int) (S : List Ky) (hS : S.length ≤ 300000) (u : Value) (t : ByteArray) (ht : t.size ≤ 1000000) (w : World) (h : StV w n sd S u) :
    Calls Try.prog 43 #[u, .string t] w fun e w' => (∃ u', e = .returned u' ∧ StV w' n sd (ins S (kyO sd t)) u') ∧ Below w.heap.size w w' := by
  obtain ⟨v, rfl, ⟨A, c, rfl, hlc, hnl, hR⟩⟩ := h
  have HT := Lib.hid (fun W => htext_any sd t ht W)
  have HR := Lib.hid hR
  have HNl := Lib.hid hnl
  have HI1 := Lib.hid (@ins_have S (kyO sd t))
  have HI2 := Lib.hid (@ins_new S (kyO sd t))
  have HLow := Lib.hid (lw_low S (kyO sd t))
  have HAt := Lib.hid (lw_at S (kyO sd t))
  have HLe := lw_le S (kyO sd t)
  have HKy : Hid (kyO sd t = (hsh sd t, t)) := Lib.hid rfl
  obtain ⟨h, hh⟩ : ∃ h, h = hsh sd t := ⟨_, rfl⟩
  rw [← hh] at HT HKy
  rw [HKy.out] at HI1 HI2 HLow HAt HLe ⊢
  obtain ⟨p, hp⟩ : ∃ p, p = lw S (h, t) := ⟨_, rfl⟩
  rw [← hp] at HI1 HI2 HLow HAt HLe
  obtain ⟨X, hX⟩ : ∃ X, X = ins S (h, t) := ⟨_, rfl⟩
  rw [← hX] at HI1 HI2 ⊢
  obtain ⟨ln, hln⟩ : ∃ ln, S.length = ln := ⟨_, rfl⟩
  have HLn := Lib.hid hln
  rw [hln] at hS hlc HLe ⊢
  have hN3 := new3 w (.cells #[.int .i64 n, .int .i64 sd, .slice A ln c] 28) (.cells #[.int .i64 0, .int .i64 0, .slice none 0 0] 28) (.cells #[.int .i64 h, .string t] 50)
  have HN0 := Lib.hid hN3.1
  have HN1 := Lib.hid hN3.2.1
  have HN2 := Lib.hid hN3.2.2
  have HBn : Hid (Below w.heap.size w (((w.alloc (.cells #[.int .i64 n, .int .i64 sd, .slice A ln c] 28)).alloc (.cells #[.int .i64 0, .int .i64 0, .slice none 0 0] 28)).alloc (.cells #[.int .i64 h, .string t] 50))) := Lib.hid ((((Below.refl _ _).alloc (Nat.le_refl _) _).alloc (by simp) _).alloc (by simp <;> omega) _)
  clear hR hnl hh hp hX hln HKy hN3
  go_enter Try.func43, Try.ntmps43
  go_wp2_with fail
  refine (HT.out _).mono ?_
  rintro e w1 ⟨rfl, rfl⟩
  go_wp2_with fail
  go_loopw [6] (fun iv wr => ∃ k : Nat, k ≤ p ∧ iv = .int .i64 (k : Int) ∧ Hid (wr.heap[w.heap.size]? = some (.cells #[.int .i64 n, .int .i64 sd, .slice A ln c] 28 (0, 0))) ∧ Hid (wr.heap[w.heap.size + 1]? = some (.cells #[.int .i64 0, .int .i64 0, .slice none 0 0] 28 (0, 0))) ∧ Hid (wr.heap[w.heap.size + 1 + 1]? = some (.cells #[.int .i64 h, .string t] 50 (0, 0))) ∧ Hid (Below w.heap.size w wr)) (fun iv _ => p - (intOf iv).toNat)
  case atStart => exact ⟨0, Nat.zero_le _, rfl, HN0, HN1, HN2, HBn⟩
  case round =>
    obtain ⟨k, hk, rfl, HX0, HX1, HX2, HB⟩ := hrel
    have x02 := cell_of_row wr w.heap.size 2 _ _ _ HX0.out
    have x20 := cell_of_row wr (w.heap.size + 1 + 1) 0 _ _ _ HX2.out
    have x21 := cell_of_row wr (w.heap.size + 1 + 1) 1 _ _ _ HX2.out
    simp at x02 x20 x21
    have hl0 := (Array.getElem?_eq_some_iff.1 HX0.out).1
    have hl2 := (Array.getElem?_eq_some_iff.1 HX2.out).1
    have HD : Hid (Below wr.heap.size wr wr.drew) := Lib.hid (Below.refl _ _).drew
    have HP := Lib.hid (fun (W : World) (o k : Nat) (hB : Below wr.heap.size wr W) (ho : o < wr.heap.size) => hB.cell (p := ⟨o, k, none⟩) ho)
    by_cases hl : k < ln
    · have hkS : k < S.length := by rw [HLn.out]; exact hl
      obtain ⟨b, off, rfl, hb, h0, h1⟩ := (HR.out.below HB.out).at k hkS
      have HLk := HLow.out k
      have HLk := Lib.hid HLk
      have Hat := Lib.hid (fun (e : k = p) => (by subst e; exact HAt.out hkS : kl S[k] (h, t) = false))
      have HGet : Hid (S[k]? = some S[k]) := Lib.hid (List.getElem?_eq_getElem hkS)
      have HLk2 : Hid (k < p → kl S[k] (h, t) = true) := Lib.hid (fun e => HLk.out e hkS)
      obtain ⟨x, hx⟩ : ∃ x, x = S[k] := ⟨_, rfl⟩
      rw [← hx] at h0 h1 Hat HGet HLk2
      obtain ⟨x1, x2⟩ := x
      dsimp only at h0 h1
      have Hbf := Lib.hid (fun W => before_any x1 h x2 t W)
      have hkI : (k : Int) < (ln : Int) := by omega
      have hkI0 : (0 : Int) ≤ (k : Int) := by omega
      have hd : decide ((k : Int) < (ln : Int)) = true := by simpa using hl
      have hw1 : IntKind.i64.wrap ((k : Int) + 1) = (k : Int) + 1 := by simp only [IntKind.wrap_i64]; omega
      have HC := Lib.hid (And.intro x02 (And.intro h0 (And.intro h1 (And.intro x20 x21))))
      clear hx HLk
      by_cases hkp : k < p
      · have Hkt := HLk2.out hkp
        rw [Hkt] at Hbf
        clear Hkt
        go_wp2_with fail
        go_region_held3 (fun W => W.cell? ⟨w.heap.size, 2, none⟩ = some (.slice (some ⟨b, off, none⟩) ln c) ∧ W.cell? ⟨b, off + k * 2, none⟩ = some (.int .i64 x1) ∧ W.cell? ⟨b, off + k * 2 + 1, none⟩ = some (.string x2) ∧ W.cell? ⟨w.heap.size + 1 + 1, 0, none⟩ = some (.int .i64 h) ∧ W.cell? ⟨w.heap.size + 1 + 1, 1, none⟩ = some (.string t))
          (first | exact HC.out | exact ⟨(HP.out _ _ _ HD1.out hl0).trans HC.out.1, (HP.out _ _ _ HD1.out hb).trans HC.out.2.1, (HP.out _ _ _ HD1.out hb).trans HC.out.2.2.1, (HP.out _ _ _ HD1.out hl2).trans HC.out.2.2.2.1, (HP.out _ _ _ HD1.out hl2).trans HC.out.2.2.2.2⟩)
          ((first
            | (go_at_call 66; (with_reducible refine (Hbf.out _).mono ?_); rintro e w1 ⟨rfl, hb1⟩; have HD1 : Hid (Below wr.heap.size wr w1) := Lib.hid (HD.out.trans (hb1.mono HD.out.size)); clear hb1)
            | fail))
        clear x02 x20 x21 h0 h1
        go_wp2_with fail
        go_roundw
        case rel => exact ⟨k + 1, by omega, by go_num, Lib.hid ((HD1.out.block _ hl0).trans HX0.out), Lib.hid ((HD1.out.block _ (Array.getElem?_eq_some_iff.1 HX1.out).1).trans HX1.out), Lib.hid ((HD1.out.block _ hl2).trans HX2.out), Lib.hid (HB.out.trans (HD1.out.mono HB.out.size))⟩
        case measure => simp [intOf] <;> omega
      · obtain rfl : k = p := by omega
        have Hkt := Hat.out rfl
        rw [Hkt] at Hbf
        clear Hkt
        go_wp2_with fail
        go_region_held3 (fun W => W.cell? ⟨w.heap.size, 2, none⟩ = some (.slice (some ⟨b, off, none⟩) ln c) ∧ W.cell? ⟨b, off + k * 2, none⟩ = some (.int .i64 x1) ∧ W.cell? ⟨b, off + k * 2 + 1, none⟩ = some (.string x2) ∧ W.cell? ⟨w.heap.size + 1 + 1, 0, none⟩ = some (.int .i64 h) ∧ W.cell? ⟨w.heap.size + 1 + 1, 1, none⟩ = some (.string t))
          (first | exact HC.out | exact ⟨(HP.out _ _ _ HD1.out hl0).trans HC.out.1, (HP.out _ _ _ HD1.out hb).trans HC.out.2.1, (HP.out _ _ _ HD1.out hb).trans HC.out.2.2.1, (HP.out _ _ _ HD1.out hl2).trans HC.out.2.2.2.1, (HP.out _ _ _ HD1.out hl2).trans HC.out.2.2.2.2⟩)
          ((first
            | (go_at_call 66; (with_reducible refine (Hbf.out _).mono ?_); rintro e w1 ⟨rfl, hb1⟩; have HD1 : Hid (Below wr.heap.size wr w1) := Lib.hid (HD.out.trans (hb1.mono HD.out.size)); clear hb1)
            | fail))
        clear x02 x20 x21 h0 h1
        have hz1 : wr.heap.size ≤ w1.heap.size := HD1.out.size
        have x02 := (HP.out _ _ _ HD1.out hl0).trans HC.out.1
        have h0 := (HP.out _ _ _ HD1.out hb).trans HC.out.2.1
        have h1 := (HP.out _ _ _ HD1.out hb).trans HC.out.2.2.1
        have x20 := (HP.out _ _ _ HD1.out hl2).trans HC.out.2.2.2.1
        have x21 := (HP.out _ _ _ HD1.out hl2).trans HC.out.2.2.2.2
        have HY0 := Lib.hid ((HD1.out.block _ hl0).trans HX0.out)
        have HY1 := Lib.hid ((HD1.out.block _ (Array.getElem?_eq_some_iff.1 HX1.out).1).trans HX1.out)
        have HY2 := Lib.hid ((HD1.out.block _ hl2).trans HX2.out)
        have HBw := Lib.hid (HB.out.trans (HD1.out.mono HB.out.size))
        have y00 := cell_of_row w1 w.heap.size 0 _ _ _ HY0.out
        have y01 := cell_of_row w1 w.heap.size 1 _ _ _ HY0.out
        have f0 := frozen_of_row w1 (w.heap.size + 1) 0 _ _ HY1.out
        have f1 := frozen_of_row w1 (w.heap.size + 1) 1 _ _ HY1.out
        have f2 := frozen_of_row w1 (w.heap.size + 1) 2 _ _ HY1.out
        have z0 := cell_of_row w1 (w.heap.size + 1) 0 _ _ _ HY1.out
        have z1 := cell_of_row w1 (w.heap.size + 1) 1 _ _ _ HY1.out
        have z2 := cell_of_row w1 (w.heap.size + 1) 2 _ _ _ HY1.out
        have hlt1 : w.heap.size + 1 < w1.heap.size := (Array.getElem?_eq_some_iff.1 HY1.out).1
        simp at y00 y01 z0 z1 z2
        clear hz1
        by_cases hxe : x1 = h ∧ x2 = t
        · have HRes : Hid (X = S) := Lib.hid (HI1.out (by rw [HGet.out, hxe.1, hxe.2]))
          obtain ⟨rfl, rfl⟩ := hxe
          go_wp2_with fail
          go_quiet (fail)
          go_wp2_with fail
          refine bodyPost_ret (v := .agg #[.int .i64 n, .int .i64 sd, .slice (some ⟨b, off, none⟩) ln c]) ?_ rfl ⟨⟨_, rfl, ?_⟩, ?_⟩
          · rw [results_cell1 rfl]; go_simp <;> rfl
          · rw [HRes.out]
            refine ⟨_, rfl, some ⟨b, off, none⟩, c, by rw [HLn.out], by rw [HLn.out]; exact hlc, HNl.out, ?_⟩
            exact KR.grown (g := w.heap.size + 1) (w := w1.drewN nq) (HR.out.below (below_drewN HBw.out nq)) ((((Gs.refl _ _).set _).set _).set _) HY1.out (by decide)
          · refine Below.setCell (Below.setCell (Below.setCell (below_drewN HBw.out nq) ?_ _) ?_ _) ?_ _ <;> (show w.heap.size ≤ w.heap.size + 1; omega)
        · have HRes := Lib.hid (HI2.out (by rw [HGet.out]; intro e; injection e with e; injection e with e1 e2; exact hxe ⟨e1, e2⟩))
          by_cases hx1 : x1 = h
          · subst hx1
            have hx2 : (x2.toList == t.toList) = false := (Lib.bytes_beq_false_iff x2 t).2 (fun e => hxe ⟨rfl, e⟩)
            clear hxe
            go_wp2_with fail
            go_quiet (fail)
            have HV := slv_drop HR.out (k := k) (by rw [HLn.out]; exact hlc) HNl.out (by rw [HLn.out]; exact HLe)
            rw [HLn.out] at HV
            have hsl := sliced_from (some ⟨b, off, none⟩) ln c k HLe
            obtain ⟨V, hVe⟩ : ∃ V, V = (if c = k then (some ⟨b, off, none⟩) else ((some ⟨b, off, none⟩) : Option Addr).map (fun a => a.add (k * 2))) := ⟨_, rfl⟩
            have hsl2 := hsl
            rw [← hVe] at HV hsl2
            clear hsl
            have hsl := hsl2
            clear hsl2
            obtain ⟨q, hq⟩ : ∃ q, q = ln - k := ⟨_, rfl⟩
            obtain ⟨cq, hcq⟩ : ∃ cq, cq = c - k := ⟨_, rfl⟩
            rw [← hq, ← hcq] at HV hsl
            obtain ⟨V2, cq2, hVe2, hqc, hVn, hVR⟩ := HV
            have hqd : (S.drop k).length = q := by rw [List.length_drop, HLn.out, hq]
            rw [hqd] at hVe2
            injection hVe2 with e1 e2 e3
            subst e1 e3
            rw [hqd] at hqc
            have HVn := Lib.hid hVn
            have HVR := Lib.hid hVR
            have HQd := Lib.hid hqd
            have HTk : Hid ((S.take k).length = k) := Lib.hid (by rw [List.length_take, HLn.out]; omega)
            have hq3 : q ≤ 300000 := by omega
            clear hVe hq hcq hVn hVR e2 hqd
            have hkI : (k : Int) ≤ (c : Int) := by omega
            have hkI0 : (0 : Int) ≤ (k : Int) := by omega
            have hkl : (k : Int) ≤ (ln : Int) := by omega
            have hkc : k ≤ c := by omega
            obtain ⟨w5, hw5⟩ : ∃ w5, w5 = w1.drewN nq := ⟨_, rfl⟩
            rw [← hw5]
            obtain ⟨w6, hw6⟩ : ∃ w6, w6 = w5.drew := ⟨_, rfl⟩
            have HB5 : Hid (Below w.heap.size w w6) := Lib.hid (by rw [hw6, hw5]; exact (below_drewN HBw.out _).drew)
            have HY0 : Hid (w6.heap[w.heap.size]? = some (.cells #[.int .i64 n, .int .i64 sd, .slice (some ⟨b, off, none⟩) ln c] 28 (0, 0))) := Lib.hid (by rw [hw6, hw5]; exact HY0.out)
            have HY1 : Hid (w6.heap[w.heap.size + 1]? = some (.cells #[.int .i64 0, .int .i64 0, .slice none 0 0] 28 (0, 0))) := Lib.hid (by rw [hw6, hw5]; exact HY1.out)
            have HY2 : Hid (w6.heap[w.heap.size + 1 + 1]? = some (.cells #[.int .i64 x1, .string t] 50 (0, 0))) := Lib.hid (by rw [hw6, hw5]; exact HY2.out)
            have hl0 : w.heap.size < w6.heap.size := (Array.getElem?_eq_some_iff.1 HY0.out).1
            have hl1 : w.heap.size + 1 < w6.heap.size := (Array.getElem?_eq_some_iff.1 HY1.out).1
            have hl2 : w.heap.size + 1 + 1 < w6.heap.size := (Array.getElem?_eq_some_iff.1 HY2.out).1
            have HKS : Hid (∀ W, Below w6.heap.size w6 W → (fun W => W.cell? ⟨w.heap.size, 2, none⟩ = some (.slice (some ⟨b, off, none⟩) ln c) ∧ W.cell? ⟨w.heap.size + 1 + 1, 0, none⟩ = some (.int .i64 x1) ∧ W.cell? ⟨w.heap.size + 1 + 1, 1, none⟩ = some (.string t)) W) := Lib.hid (fun W hb => ⟨(cell_of_row W w.heap.size 2 _ _ _ ((hb.block _ hl0).trans HY0.out)), (cell_of_row W (w.heap.size + 1 + 1) 0 _ _ _ ((hb.block _ hl2).trans HY2.out)), (cell_of_row W (w.heap.size + 1 + 1) 1 _ _ _ ((hb.block _ hl2).trans HY2.out))⟩)
            have Hw6 := Lib.hid hw6
            clear hw5 hw6
            have HD1 : Hid (Below w6.heap.size w6 (w6.alloc (Obj.cells #[] 50))) := Lib.hid ((Below.refl _ _).alloc (Nat.le_refl _) _)
            have HD0 : Hid (Below w6.heap.size w6 (w6.alloc (Obj.cells #[.int .i64 x1, .string t] 50))) := Lib.hid ((Below.refl _ _).alloc (Nat.le_refl _) _)
            have HD2 : Hid (Below w6.heap.size w6 ((w6.alloc (Obj.cells #[.int .i64 x1, .string t] 50)).alloc (Obj.cells #[] 50))) := Lib.hid (((Below.refl _ _).alloc (Nat.le_refl _) _).alloc (by simp) _)
            have HD3 : Hid (Below w6.heap.size w6 ((w6.alloc (Obj.cells #[] 50)).alloc (Obj.cells #[.int .i64 x1, .string t] 50))) := Lib.hid (((Below.refl _ _).alloc (Nat.le_refl _) _).alloc (by simp) _)
            have HO1 : Hid ((w6.alloc (Obj.cells #[] 50)).ownsRow w6.heap.size 50 2 (.slice (some ⟨w6.heap.size, 0, none⟩) 0 0) 0 (kyCells [])) := Lib.hid ⟨rfl, .inr ⟨w6.heap.size, 0, #[], rfl, Nat.le_refl _, Deep.blk_alloc_new w6 _, Nat.le_refl _, by decide, rfl, rfl⟩⟩
            have HO2 : Hid (((w6.alloc (Obj.cells #[.int .i64 x1, .string t] 50)).alloc (Obj.cells #[] 50)).ownsRow w6.heap.size 50 2 (.slice (some ⟨w6.heap.size + 1, 0, none⟩) 0 0) 0 (kyCells [])) := Lib.hid ⟨rfl, .inr ⟨w6.heap.size + 1, 0, #[], rfl, by omega, blk_over w6 _ _, Nat.le_refl _, by decide, rfl, rfl⟩⟩
            have HO3 : Hid (((w6.alloc (Obj.cells #[] 50)).alloc (Obj.cells #[.int .i64 x1, .string t] 50)).ownsRow w6.heap.size 50 2 (.slice (some ⟨w6.heap.size, 0, none⟩) 0 0) 0 (kyCells [])) := Lib.hid ⟨rfl, .inr ⟨w6.heap.size, 0, #[], rfl, Nat.le_refl _, blk_under w6 _ _, Nat.le_refl _, by decide, rfl, rfl⟩⟩
            have HX2 : Hid (((w6.alloc (Obj.cells #[.int .i64 x1, .string t] 50)).alloc (Obj.cells #[] 50)).heap[w6.heap.size]? = some (.cells #[.int .i64 x1, .string t] 50 (0, 0))) := Lib.hid (blk_under w6 _ _)
            have HX3 : Hid (((w6.alloc (Obj.cells #[] 50)).alloc (Obj.cells #[.int .i64 x1, .string t] 50)).heap[w6.heap.size + 1]? = some (.cells #[.int .i64 x1, .string t] 50 (0, 0))) := Lib.hid (blk_over w6 _ _)
            have HK1 : Hid (∀ (W : World) gx, W.heap[gx]? = some (.cells #[.int .i64 x1, .string t] 50 (0, 0)) → KR W (some ⟨gx, 0, none⟩) [(x1, t)]) := Lib.hid (fun W gx hx j hj => by
              obtain rfl : j = 0 := by simpa using hj
              exact ⟨_, 0, _, rfl, hx, rfl, rfl⟩)
            have HBK := Lib.hid (fun (W : World) (hW : Below w6.heap.size w6 W) => HB5.out.trans (hW.mono HB5.out.size))
            go_wp2_with fail
            refine wp_region_last 15 (fun W => W.cell? ⟨w.heap.size, 2, none⟩ = some (.slice (some ⟨b, off, none⟩) ln c) ∧ W.cell? ⟨w.heap.size + 1 + 1, 0, none⟩ = some (.int .i64 x1) ∧ W.cell? ⟨w.heap.size + 1 + 1, 1, none⟩ = some (.string t)) (by kernel_rfl) (by decide +kernel) (by rfl) ?_ (fun hHeld => ?_)
            · rw [← Hw6.out]; exact HKS.out _ (Below.refl _ _)
            rw [← Hw6.out] at hHeld ⊢
            simp only [List.take_succ_cons, List.take_zero]
            refine wpAnyH_take (i := 1) (v := ?_) rfl (by decide +kernel) (by decide +kernel) (by decide +kernel) (fun _ _ _ h => h) (Or.inl ⟨by rfl, ?_⟩) (by assumption) ?_
            rotate_left 1
            · (intro w' hSw; (try dsimp only at hSw); go_simp; (try (with_reducible rfl)))
            try simp only [List.getElem_toArray, List.getElem_cons_zero, List.getElem_cons_succ, Act.put, List.setIfInBounds_toArray, List.set_cons_zero, List.set_cons_succ]
            refine wpAnyH_take (i := 2) (v := ?_) rfl (by decide +kernel) (by decide +kernel) (by decide +kernel) (fun _ _ _ h => h) (Or.inl ⟨by rfl, ?_⟩) (by assumption) ?_
            rotate_left 1
            · (intro w' hSw; (try dsimp only at hSw); go_simp; (try (with_reducible rfl)))
            try simp only [List.getElem_toArray, List.getElem_cons_zero, List.getElem_cons_succ, Act.put, List.setIfInBounds_toArray, List.set_cons_zero, List.set_cons_succ]
            refine wpAnyH_take (i := 3) (v := ?_) rfl (by decide +kernel) (by decide +kernel) (by decide +kernel) (fun _ _ _ h => h) (Or.inl ⟨by rfl, ?_⟩) (by assumption) ?_
            rotate_left 1
            · (intro w' hSw; (try dsimp only at hSw); go_simp; (try (with_reducible rfl)))
            try simp only [List.getElem_toArray, List.getElem_cons_zero, List.getElem_cons_succ, Act.put, List.setIfInBounds_toArray, List.set_cons_zero, List.set_cons_succ]
            refine wpAnyH_take (i := 4) (v := ?_) rfl (by decide +kernel) (by decide +kernel) (by decide +kernel) (fun _ _ _ h => h) (Or.inl ⟨by rfl, ?_⟩) (by assumption) ?_
            rotate_left 1
            · (intro w' hSw; (try dsimp only at hSw); go_simp; (try (with_reducible rfl)))
            try simp only [List.getElem_toArray, List.getElem_cons_zero, List.getElem_cons_succ, Act.put, List.setIfInBounds_toArray, List.set_cons_zero, List.set_cons_succ]
            refine wpAnyH_take (i := 6) (v := ?_) rfl (by decide +kernel) (by decide +kernel) (by decide +kernel) (fun _ _ _ h => h) (Or.inl ⟨by rfl, ?_⟩) (by assumption) ?_
            rotate_left 1
            · (intro w' hSw; (try dsimp only at hSw); go_simp; (try (with_reducible rfl)))
            try simp only [List.getElem_toArray, List.getElem_cons_zero, List.getElem_cons_succ, Act.put, List.setIfInBounds_toArray, List.set_cons_zero, List.set_cons_succ]
            refine wpAnyH_take (i := 9) (v := ?_) rfl (by decide +kernel) (by decide +kernel) (by decide +kernel) (fun _ _ _ h => h) (Or.inl ⟨by rfl, ?_⟩) (by assumption) ?_
            rotate_left 1
            · (intro w' hSw; (try dsimp only at hSw); go_simp; (try (with_reducible rfl)))
            try simp only [List.getElem_toArray, List.getElem_cons_zero, List.getElem_cons_succ, Act.put, List.setIfInBounds_toArray, List.set_cons_zero, List.set_cons_succ]
            refine wpAnyH_take (i := 10) (v := ?_) rfl (by decide +kernel) (by decide +kernel) (by decide +kernel) (fun _ _ _ h => h) (Or.inl ⟨by rfl, ?_⟩) (by assumption) ?_
            rotate_left 1
            · (intro w' hSw; (try dsimp only at hSw); go_simp; (try (with_reducible rfl)))
            try simp only [List.getElem_toArray, List.getElem_cons_zero, List.getElem_cons_succ, Act.put, List.setIfInBounds_toArray, List.set_cons_zero, List.set_cons_succ]
            refine wpAnyH_take (i := 11) (v := ?_) rfl (by decide +kernel) (by decide +kernel) (by decide +kernel) (fun _ _ _ h => h) (Or.inl ⟨by rfl, ?_⟩) (by assumption) ?_
            rotate_left 1
            · (intro w' hSw; (try dsimp only at hSw); go_simp; (try (with_reducible rfl)))
            try simp only [List.getElem_toArray, List.getElem_cons_zero, List.getElem_cons_succ, Act.put, List.setIfInBounds_toArray, List.set_cons_zero, List.set_cons_succ]
            refine wpAnyH_take (i := 12) (v := ?_) rfl (by decide +kernel) (by decide +kernel) (by decide +kernel) (fun _ _ _ h => h) (Or.inl ⟨by rfl, ?_⟩) (by assumption) ?_
            rotate_left 1
            · (intro w' hSw; (try dsimp only at hSw); go_simp; (try (with_reducible rfl)))
            try simp only [List.getElem_toArray, List.getElem_cons_zero, List.getElem_cons_succ, Act.put, List.setIfInBounds_toArray, List.set_cons_zero, List.set_cons_succ]
            refine wpAnyH_ready (rs := [0, 7]) (by decide +kernel) (by simp) ?_
            refine AllReadyH.cons rfl (fun K hK => ?_) (AllReadyH.cons rfl (fun K hK => ?_) AllReadyH.nil)
            · go_simp
              refine hK.out _ _ (HKS.out _ HD1.out) (fun hHeld => ?_)
              clear hK K
              try simp only [List.getElem_toArray, List.getElem_cons_zero, List.getElem_cons_succ, Act.put, List.setIfInBounds_toArray, List.set_cons_zero, List.set_cons_succ]
              refine wpAnyH_ready (rs := [5, 7]) (by decide +kernel) (by simp) ?_
              refine AllReadyH.cons rfl (fun K hK => ?_) (AllReadyH.cons rfl (fun K hK => ?_) AllReadyH.nil)
              · refine step_append_ky rfl (.tmp 44) (.tmp 48) rfl w6.heap.size (.slice (some ⟨w6.heap.size, 0, none⟩) 0 0) 0 [] (by rfl) HO1.out (some ⟨b, off, none⟩) k c (by rfl) (S.take k) HTk.out (fun e => HNl.out e) hkc ((HR.out.below (HBK.out _ HD1.out)).take k) (by omega) HD1.out.size ?_
                intro v1 w7 hown hg
                have HB7 : Hid (Below w6.heap.size w6 w7) := Lib.hid (below_grownk (B := w6.heap.size) HD1.out HO1.out hg (Nat.le_refl _) (Nat.le_refl _))
                have HO7 := Lib.hid hown
                clear hown hg
                refine hK.out _ _ (HKS.out _ HB7.out) (fun hHeld => ?_)
                clear hK K
                try simp only [List.getElem_toArray, List.getElem_cons_zero, List.getElem_cons_succ, Act.put, List.setIfInBounds_toArray, List.set_cons_zero, List.set_cons_succ]
                refine wpAnyH_ready (rs := [7]) (by decide +kernel) (by simp) ?_
                refine AllReadyH.cons rfl (fun K hK => ?_) AllReadyH.nil
                go_simp
                refine hK.out _ _ (HKS.out _ (HB7.out.alloc HB7.out.size _)) (fun hHeld => ?_)
                clear hK K
                try simp only [List.getElem_toArray, List.getElem_cons_zero, List.getElem_cons_succ, Act.put, List.setIfInBounds_toArray, List.set_cons_zero, List.set_cons_succ]
                refine wpAnyH_ready (rs := [8]) (by decide +kernel) (by simp) ?_
                refine AllReadyH.cons rfl (fun K hK => ?_) AllReadyH.nil
                refine step_append_ky rfl (.tmp 49) (.tmp 51) rfl w6.heap.size v1 (0 + k) ([] ++ S.take k) (by rfl) (HO7.out.alloc _) (some ⟨w7.heap.size, 0, none⟩) 1 1 (by rfl) [(x1, t)] rfl (fun e => nomatch e) (Nat.le_refl _) (HK1.out _ _ (Deep.blk_alloc_new w7 _)) (by omega) ((HB7.out.alloc HB7.out.size _)).size ?_
                intro v2 w8 hown hg
                have HB8 : Hid (Below w6.heap.size w6 w8) := Lib.hid (below_grownk (B := w6.heap.size) (HB7.out.alloc HB7.out.size _) (HO7.out.alloc _) hg (Nat.le_refl _) (Nat.le_refl _))
                have HO8 := Lib.hid hown
                clear hown hg
                refine hK.out _ _ (HKS.out _ HB8.out) (fun hHeld => ?_)
                clear hK K
                try simp only [List.getElem_toArray, List.getElem_cons_zero, List.getElem_cons_succ, Act.put, List.setIfInBounds_toArray, List.set_cons_zero, List.set_cons_succ]
                refine wpAnyH_ready (rs := [13]) (by decide +kernel) (by simp) ?_
                refine AllReadyH.cons rfl (fun K hK => ?_) AllReadyH.nil
                refine step_append_ky rfl (.tmp 52) (.tmp 56) rfl w6.heap.size v2 (0 + k + 1) ([] ++ S.take k ++ [(x1, t)]) (by rfl) HO8.out V q cq (by rfl) (S.drop k) HQd.out HVn.out hqc (HVR.out.below (HBK.out _ HB8.out)) (by omega) HB8.out.size ?_
                intro v3 w9 hown hg
                have HB9 : Hid (Below w6.heap.size w6 w9) := Lib.hid (below_grownk (B := w6.heap.size) HB8.out HO8.out hg (Nat.le_refl _) (Nat.le_refl _))
                have HS9 := Lib.hid (SlV.own hown)
                clear hown hg
                refine hK.out _ _ (HKS.out _ HB9.out) (fun hHeld => ?_)
                clear hK K
                try simp only [List.getElem_toArray, List.getElem_cons_zero, List.getElem_cons_succ, Act.put, List.setIfInBounds_toArray, List.set_cons_zero, List.set_cons_succ]
                refine wpAnyH_take (i := 14) (v := ?_) rfl (by decide +kernel) (by decide +kernel) (by decide +kernel) (fun _ _ _ h => h) (Or.inl ⟨by rfl, ?_⟩) (by assumption) ?_
                rotate_left 1
                · (intro w' hSw; (try dsimp only at hSw); go_simp; (try (with_reducible rfl)))
                try simp only [List.getElem_toArray, List.getElem_cons_zero, List.getElem_cons_succ, Act.put, List.setIfInBounds_toArray, List.set_cons_zero, List.set_cons_succ]
                refine wpAnyH_done (by decide +kernel) ?_ _
                intro K hK
                obtain ⟨R9, hR9⟩ : ∃ R9, R9 = [] ++ S.take k ++ [(x1, t)] ++ S.drop k := ⟨_, rfl⟩
                rw [← hR9] at HS9
                have HXR : Hid (X = R9) := Lib.hid (by rw [hR9]; exact HRes.out)
                clear hR9
                obtain ⟨A9, c9, rfl, hs9⟩ := HS9.out
                clear HS9
                obtain ⟨l9, hl9⟩ : ∃ l9, l9 = R9.length := ⟨_, rfl⟩
                rw [← hl9] at hs9 ⊢
                have HS9 := Lib.hid hs9
                have HL9 := Lib.hid hl9
                clear hs9 hl9
                have hy0 := (HB9.out.block _ hl0).trans HY0.out
                have hy1 := (HB9.out.block _ hl1).trans HY1.out
                have HZ0 := Lib.hid hy0
                have HZ1 := Lib.hid hy1
                have y0 := cell_of_row w9 w.heap.size 0 _ _ _ hy0
                have y1 := cell_of_row w9 w.heap.size 1 _ _ _ hy0
                have y2 := cell_of_row w9 w.heap.size 2 _ _ _ hy0
                have r0 := cell_of_row w9 (w.heap.size + 1) 0 _ _ _ hy1
                have r1 := cell_of_row w9 (w.heap.size + 1) 1 _ _ _ hy1
                have r2 := cell_of_row w9 (w.heap.size + 1) 2 _ _ _ hy1
                have f0 := frozen_of_row w9 (w.heap.size + 1) 0 _ _ hy1
                have f1 := frozen_of_row w9 (w.heap.size + 1) 1 _ _ hy1
                have f2 := frozen_of_row w9 (w.heap.size + 1) 2 _ _ hy1
                have g2 := frozen_of_row w9 w.heap.size 2 _ _ hy0
                simp at y0 y1 y2 r0 r1 r2
                have hz0 : w.heap.size < w9.heap.size := (Array.getElem?_eq_some_iff.1 hy0).1
                have hz1 : w.heap.size + 1 < w9.heap.size := (Array.getElem?_eq_some_iff.1 hy1).1
                clear hy0 hy1
                go_simp
                refine hK.out _ _ ?_
                clear hK K
                try simp only [List.getElem_toArray, List.getElem_cons_zero, List.getElem_cons_succ, Act.put, List.setIfInBounds_toArray, List.set_cons_zero, List.set_cons_succ]
                go_wp2_with fail
                refine bodyPost_ret (v := .agg #[.int .i64 n, .int .i64 sd, .slice A9 l9 c9]) ?_ rfl ⟨⟨_, rfl, ?_⟩, ?_⟩
                · rw [results_cell1 rfl]; go_simp <;> rfl
                · rw [HXR.out]
                  refine ⟨_, rfl, A9, c9, by rw [HL9.out], by rw [← HL9.out]; exact HS9.out.1, HS9.out.2.1, ?_⟩
                  refine KR.grown (g := w.heap.size + 1) (KR.grown (g := w.heap.size) HS9.out.2.2 ((Gs.refl _ w9).set _) HZ0.out (by decide)) ((((Gs.refl _ _).set _).set _).set _) ((Below.heap_setCell w9 _ _ _ (by show w.heap.size + 1 ≠ w.heap.size; omega)).trans HZ1.out) (by decide)
                · refine Below.setCell (Below.setCell (Below.setCell (Below.setCell (HBK.out _ HB9.out) ?_ _) ?_ _) ?_ _) ?_ _ <;> (first | (show w.heap.size ≤ w.heap.size; omega) | (show w.heap.size ≤ w.heap.size + 1; omega))
              · go_simp
                refine hK.out _ _ (HKS.out _ HD3.out) (fun hHeld => ?_)
                clear hK K
                try simp only [List.getElem_toArray, List.getElem_cons_zero, List.getElem_cons_succ, Act.put, List.setIfInBounds_toArray, List.set_cons_zero, List.set_cons_succ]
                refine wpAnyH_ready (rs := [5]) (by decide +kernel) (by simp) ?_
                refine AllReadyH.cons rfl (fun K hK => ?_) AllReadyH.nil
                refine step_append_ky rfl (.tmp 44) (.tmp 48) rfl w6.heap.size (.slice (some ⟨w6.heap.size, 0, none⟩) 0 0) 0 [] (by rfl) HO3.out (some ⟨b, off, none⟩) k c (by rfl) (S.take k) HTk.out (fun e => HNl.out e) hkc ((HR.out.below (HBK.out _ HD3.out)).take k) (by omega) HD3.out.size ?_
                intro v1 w7 hown hg
                have HB7 : Hid (Below w6.heap.size w6 w7) := Lib.hid (below_grownk (B := w6.heap.size) HD3.out HO3.out hg (Nat.le_refl _) (Nat.le_refl _))
                have HO7 := Lib.hid hown
                have HX7 : Hid (w7.heap[w6.heap.size + 1]? = some (.cells #[.int .i64 x1, .string t] 50 (0, 0))) := Lib.hid ((hg.block _ (Array.getElem?_eq_some_iff.1 HX3.out).1 (by simp [Value.ownBlock])).trans HX3.out)
                clear hown hg
                refine hK.out _ _ (HKS.out _ HB7.out) (fun hHeld => ?_)
                clear hK K
                try simp only [List.getElem_toArray, List.getElem_cons_zero, List.getElem_cons_succ, Act.put, List.setIfInBounds_toArray, List.set_cons_zero, List.set_cons_succ]
                refine wpAnyH_ready (rs := [8]) (by decide +kernel) (by simp) ?_
                refine AllReadyH.cons rfl (fun K hK => ?_) AllReadyH.nil
                refine step_append_ky rfl (.tmp 49) (.tmp 51) rfl w6.heap.size v1 (0 + k) ([] ++ S.take k) (by rfl) HO7.out (some ⟨w6.heap.size + 1, 0, none⟩) 1 1 (by rfl) [(x1, t)] rfl (fun e => nomatch e) (Nat.le_refl _) (HK1.out _ _ HX7.out) (by omega) (HB7.out).size ?_
                intro v2 w8 hown hg
                have HB8 : Hid (Below w6.heap.size w6 w8) := Lib.hid (below_grownk (B := w6.heap.size) HB7.out HO7.out hg (Nat.le_refl _) (Nat.le_refl _))
                have HO8 := Lib.hid hown
                clear hown hg
                refine hK.out _ _ (HKS.out _ HB8.out) (fun hHeld => ?_)
                clear hK K
                try simp only [List.getElem_toArray, List.getElem_cons_zero, List.getElem_cons_succ, Act.put, List.setIfInBounds_toArray, List.set_cons_zero, List.set_cons_succ]
                refine wpAnyH_ready (rs := [13]) (by decide +kernel) (by simp) ?_
                refine AllReadyH.cons rfl (fun K hK => ?_) AllReadyH.nil
                refine step_append_ky rfl (.tmp 52) (.tmp 56) rfl w6.heap.size v2 (0 + k + 1) ([] ++ S.take k ++ [(x1, t)]) (by rfl) HO8.out V q cq (by rfl) (S.drop k) HQd.out HVn.out hqc (HVR.out.below (HBK.out _ HB8.out)) (by omega) HB8.out.size ?_
                intro v3 w9 hown hg
                have HB9 : Hid (Below w6.heap.size w6 w9) := Lib.hid (below_grownk (B := w6.heap.size) HB8.out HO8.out hg (Nat.le_refl _) (Nat.le_refl _))
                have HS9 := Lib.hid (SlV.own hown)
                clear hown hg
                refine hK.out _ _ (HKS.out _ HB9.out) (fun hHeld => ?_)
                clear hK K
                try simp only [List.getElem_toArray, List.getElem_cons_zero, List.getElem_cons_succ, Act.put, List.setIfInBounds_toArray, List.set_cons_zero, List.set_cons_succ]
                refine wpAnyH_take (i := 14) (v := ?_) rfl (by decide +kernel) (by decide +kernel) (by decide +kernel) (fun _ _ _ h => h) (Or.inl ⟨by rfl, ?_⟩) (by assumption) ?_
                rotate_left 1
                · (intro w' hSw; (try dsimp only at hSw); go_simp; (try (with_reducible rfl)))
                try simp only [List.getElem_toArray, List.getElem_cons_zero, List.getElem_cons_succ, Act.put, List.setIfInBounds_toArray, List.set_cons_zero, List.set_cons_succ]
                refine wpAnyH_done (by decide +kernel) ?_ _
                intro K hK
                obtain ⟨R9, hR9⟩ : ∃ R9, R9 = [] ++ S.take k ++ [(x1, t)] ++ S.drop k := ⟨_, rfl⟩
                rw [← hR9] at HS9
                have HXR : Hid (X = R9) := Lib.hid (by rw [hR9]; exact HRes.out)
                clear hR9
                obtain ⟨A9, c9, rfl, hs9⟩ := HS9.out
                clear HS9
                obtain ⟨l9, hl9⟩ : ∃ l9, l9 = R9.length := ⟨_, rfl⟩
                rw [← hl9] at hs9 ⊢
                have HS9 := Lib.hid hs9
                have HL9 := Lib.hid hl9
                clear hs9 hl9
                have hy0 := (HB9.out.block _ hl0).trans HY0.out
                have hy1 := (HB9.out.block _ hl1).trans HY1.out
                have HZ0 := Lib.hid hy0
                have HZ1 := Lib.hid hy1
                have y0 := cell_of_row w9 w.heap.size 0 _ _ _ hy0
                have y1 := cell_of_row w9 w.heap.size 1 _ _ _ hy0
                have y2 := cell_of_row w9 w.heap.size 2 _ _ _ hy0
                have r0 := cell_of_row w9 (w.heap.size + 1) 0 _ _ _ hy1
                have r1 := cell_of_row w9 (w.heap.size + 1) 1 _ _ _ hy1
                have r2 := cell_of_row w9 (w.heap.size + 1) 2 _ _ _ hy1
                have f0 := frozen_of_row w9 (w.heap.size + 1) 0 _ _ hy1
                have f1 := frozen_of_row w9 (w.heap.size + 1) 1 _ _ hy1
                have f2 := frozen_of_row w9 (w.heap.size + 1) 2 _ _ hy1
                have g2 := frozen_of_row w9 w.heap.size 2 _ _ hy0
                simp at y0 y1 y2 r0 r1 r2
                have hz0 : w.heap.size < w9.heap.size := (Array.getElem?_eq_some_iff.1 hy0).1
                have hz1 : w.heap.size + 1 < w9.heap.size := (Array.getElem?_eq_some_iff.1 hy1).1
                clear hy0 hy1
                go_simp
                refine hK.out _ _ ?_
                clear hK K
                try simp only [List.getElem_toArray, List.getElem_cons_zero, List.getElem_cons_succ, Act.put, List.setIfInBounds_toArray, List.set_cons_zero, List.set_cons_succ]
                go_wp2_with fail
                refine bodyPost_ret (v := .agg #[.int .i64 n, .int .i64 sd, .slice A9 l9 c9]) ?_ rfl ⟨⟨_, rfl, ?_⟩, ?_⟩
                · rw [results_cell1 rfl]; go_simp <;> rfl
                · rw [HXR.out]
                  refine ⟨_, rfl, A9, c9, by rw [HL9.out], by rw [← HL9.out]; exact HS9.out.1, HS9.out.2.1, ?_⟩
                  refine KR.grown (g := w.heap.size + 1) (KR.grown (g := w.heap.size) HS9.out.2.2 ((Gs.refl _ w9).set _) HZ0.out (by decide)) ((((Gs.refl _ _).set _).set _).set _) ((Below.heap_setCell w9 _ _ _ (by show w.heap.size + 1 ≠ w.heap.size; omega)).trans HZ1.out) (by decide)
                · refine Below.setCell (Below.setCell (Below.setCell (Below.setCell (HBK.out _ HB9.out) ?_ _) ?_ _) ?_ _) ?_ _ <;> (first | (show w.heap.size ≤ w.heap.size; omega) | (show w.heap.size ≤ w.heap.size + 1; omega))
            · go_simp
              refine hK.out _ _ (HKS.out _ HD0.out) (fun hHeld => ?_)
              clear hK K
              try simp only [List.getElem_toArray, List.getElem_cons_zero, List.getElem_cons_succ, Act.put, List.setIfInBounds_toArray, List.set_cons_zero, List.set_cons_succ]
              refine wpAnyH_ready (rs := [0]) (by decide +kernel) (by simp) ?_
              refine AllReadyH.cons rfl (fun K hK => ?_) AllReadyH.nil
              go_simp
              refine hK.out _ _ (HKS.out _ HD2.out) (fun hHeld => ?_)
              clear hK K
              try simp only [List.getElem_toArray, List.getElem_cons_zero, List.getElem_cons_succ, Act.put, List.setIfInBounds_toArray, List.set_cons_zero, List.set_cons_succ]
              refine wpAnyH_ready (rs := [5]) (by decide +kernel) (by simp) ?_
              refine AllReadyH.cons rfl (fun K hK => ?_) AllReadyH.nil
              refine step_append_ky rfl (.tmp 44) (.tmp 48) rfl w6.heap.size (.slice (some ⟨w6.heap.size + 1, 0, none⟩) 0 0) 0 [] (by rfl) HO2.out (some ⟨b, off, none⟩) k c (by rfl) (S.take k) HTk.out (fun e => HNl.out e) hkc ((HR.out.below (HBK.out _ HD2.out)).take k) (by omega) HD2.out.size ?_
              intro v1 w7 hown hg
              have HB7 : Hid (Below w6.heap.size w6 w7) := Lib.hid (below_grownk (B := w6.heap.size) HD2.out HO2.out hg (Nat.le_refl _) (Nat.le_refl _))
              have HO7 := Lib.hid hown
              have HX7 : Hid (w7.heap[w6.heap.size]? = some (.cells #[.int .i64 x1, .string t] 50 (0, 0))) := Lib.hid ((hg.block _ (Array.getElem?_eq_some_iff.1 HX2.out).1 (by simp [Value.ownBlock])).trans HX2.out)
              clear hown hg
              refine hK.out _ _ (HKS.out _ HB7.out) (fun hHeld => ?_)
              clear hK K
              try simp only [List.getElem_toArray, List.getElem_cons_zero, List.getElem_cons_succ, Act.put, List.setIfInBounds_toArray, List.set_cons_zero, List.set_cons_succ]
              refine wpAnyH_ready (rs := [8]) (by decide +kernel) (by simp) ?_
              refine AllReadyH.cons rfl (fun K hK => ?_) AllReadyH.nil
              refine step_append_ky rfl (.tmp 49) (.tmp 51) rfl w6.heap.size v1 (0 + k) ([] ++ S.take k) (by rfl) HO7.out (some ⟨w6.heap.size, 0, none⟩) 1 1 (by rfl) [(x1, t)] rfl (fun e => nomatch e) (Nat.le_refl _) (HK1.out _ _ HX7.out) (by omega) (HB7.out).size ?_
              intro v2 w8 hown hg
              have HB8 : Hid (Below w6.heap.size w6 w8) := Lib.hid (below_grownk (B := w6.heap.size) HB7.out HO7.out hg (Nat.le_refl _) (Nat.le_refl _))
              have HO8 := Lib.hid hown
              clear hown hg
              refine hK.out _ _ (HKS.out _ HB8.out) (fun hHeld => ?_)
              clear hK K
              try simp only [List.getElem_toArray, List.getElem_cons_zero, List.getElem_cons_succ, Act.put, List.setIfInBounds_toArray, List.set_cons_zero, List.set_cons_succ]
              refine wpAnyH_ready (rs := [13]) (by decide +kernel) (by simp) ?_
              refine AllReadyH.cons rfl (fun K hK => ?_) AllReadyH.nil
              refine step_append_ky rfl (.tmp 52) (.tmp 56) rfl w6.heap.size v2 (0 + k + 1) ([] ++ S.take k ++ [(x1, t)]) (by rfl) HO8.out V q cq (by rfl) (S.drop k) HQd.out HVn.out hqc (HVR.out.below (HBK.out _ HB8.out)) (by omega) HB8.out.size ?_
              intro v3 w9 hown hg
              have HB9 : Hid (Below w6.heap.size w6 w9) := Lib.hid (below_grownk (B := w6.heap.size) HB8.out HO8.out hg (Nat.le_refl _) (Nat.le_refl _))
              have HS9 := Lib.hid (SlV.own hown)
              clear hown hg
              refine hK.out _ _ (HKS.out _ HB9.out) (fun hHeld => ?_)
              clear hK K
              try simp only [List.getElem_toArray, List.getElem_cons_zero, List.getElem_cons_succ, Act.put, List.setIfInBounds_toArray, List.set_cons_zero, List.set_cons_succ]
              refine wpAnyH_take (i := 14) (v := ?_) rfl (by decide +kernel) (by decide +kernel) (by decide +kernel) (fun _ _ _ h => h) (Or.inl ⟨by rfl, ?_⟩) (by assumption) ?_
              rotate_left 1
              · (intro w' hSw; (try dsimp only at hSw); go_simp; (try (with_reducible rfl)))
              try simp only [List.getElem_toArray, List.getElem_cons_zero, List.getElem_cons_succ, Act.put, List.setIfInBounds_toArray, List.set_cons_zero, List.set_cons_succ]
              refine wpAnyH_done (by decide +kernel) ?_ _
              intro K hK
              obtain ⟨R9, hR9⟩ : ∃ R9, R9 = [] ++ S.take k ++ [(x1, t)] ++ S.drop k := ⟨_, rfl⟩
              rw [← hR9] at HS9
              have HXR : Hid (X = R9) := Lib.hid (by rw [hR9]; exact HRes.out)
              clear hR9
              obtain ⟨A9, c9, rfl, hs9⟩ := HS9.out
              clear HS9
              obtain ⟨l9, hl9⟩ : ∃ l9, l9 = R9.length := ⟨_, rfl⟩
              rw [← hl9] at hs9 ⊢
              have HS9 := Lib.hid hs9
              have HL9 := Lib.hid hl9
              clear hs9 hl9
              have hy0 := (HB9.out.block _ hl0).trans HY0.out
              have hy1 := (HB9.out.block _ hl1).trans HY1.out
              have HZ0 := Lib.hid hy0
              have HZ1 := Lib.hid hy1
              have y0 := cell_of_row w9 w.heap.size 0 _ _ _ hy0
              have y1 := cell_of_row w9 w.heap.size 1 _ _ _ hy0
              have y2 := cell_of_row w9 w.heap.size 2 _ _ _ hy0
              have r0 := cell_of_row w9 (w.heap.size + 1) 0 _ _ _ hy1
              have r1 := cell_of_row w9 (w.heap.size + 1) 1 _ _ _ hy1
              have r2 := cell_of_row w9 (w.heap.size + 1) 2 _ _ _ hy1
              have f0 := frozen_of_row w9 (w.heap.size + 1) 0 _ _ hy1
              have f1 := frozen_of_row w9 (w.heap.size + 1) 1 _ _ hy1
              have f2 := frozen_of_row w9 (w.heap.size + 1) 2 _ _ hy1
              have g2 := frozen_of_row w9 w.heap.size 2 _ _ hy0
              simp at y0 y1 y2 r0 r1 r2
              have hz0 : w.heap.size < w9.heap.size := (Array.getElem?_eq_some_iff.1 hy0).1
              have hz1 : w.heap.size + 1 < w9.heap.size := (Array.getElem?_eq_some_iff.1 hy1).1
              clear hy0 hy1
              go_simp
              refine hK.out _ _ ?_
              clear hK K
              try simp only [List.getElem_toArray, List.getElem_cons_zero, List.getElem_cons_succ, Act.put, List.setIfInBounds_toArray, List.set_cons_zero, List.set_cons_succ]
              go_wp2_with fail
              refine bodyPost_ret (v := .agg #[.int .i64 n, .int .i64 sd, .slice A9 l9 c9]) ?_ rfl ⟨⟨_, rfl, ?_⟩, ?_⟩
              · rw [results_cell1 rfl]; go_simp <;> rfl
              · rw [HXR.out]
                refine ⟨_, rfl, A9, c9, by rw [HL9.out], by rw [← HL9.out]; exact HS9.out.1, HS9.out.2.1, ?_⟩
                refine KR.grown (g := w.heap.size + 1) (KR.grown (g := w.heap.size) HS9.out.2.2 ((Gs.refl _ w9).set _) HZ0.out (by decide)) ((((Gs.refl _ _).set _).set _).set _) ((Below.heap_setCell w9 _ _ _ (by show w.heap.size + 1 ≠ w.heap.size; omega)).trans HZ1.out) (by decide)
              · refine Below.setCell (Below.setCell (Below.setCell (Below.setCell (HBK.out _ HB9.out) ?_ _) ?_ _) ?_ _) ?_ _ <;> (first | (show w.heap.size ≤ w.heap.size; omega) | (show w.heap.size ≤ w.heap.size + 1; omega))
          · have hx1b : (x1 == h) = false := by simpa using hx1
            clear hxe
            go_wp2_with fail
            go_quiet (fail)

            have HV := slv_drop HR.out (k := k) (by rw [HLn.out]; exact hlc) HNl.out (by rw [HLn.out]; exact HLe)
            rw [HLn.out] at HV
            have hsl := sliced_from (some ⟨b, off, none⟩) ln c k HLe
            obtain ⟨V, hVe⟩ : ∃ V, V = (if c = k then (some ⟨b, off, none⟩) else ((some ⟨b, off, none⟩) : Option Addr).map (fun a => a.add (k * 2))) := ⟨_, rfl⟩
            have hsl2 := hsl
            rw [← hVe] at HV hsl2
            clear hsl
            have hsl := hsl2
            clear hsl2
            obtain ⟨q, hq⟩ : ∃ q, q = ln - k := ⟨_, rfl⟩
            obtain ⟨cq, hcq⟩ : ∃ cq, cq = c - k := ⟨_, rfl⟩
            rw [← hq, ← hcq] at HV hsl
            obtain ⟨V2, cq2, hVe2, hqc, hVn, hVR⟩ := HV
            have hqd : (S.drop k).length = q := by rw [List.length_drop, HLn.out, hq]
            rw [hqd] at hVe2
            injection hVe2 with e1 e2 e3
            subst e1 e3
            rw [hqd] at hqc
            have HVn := Lib.hid hVn
            have HVR := Lib.hid hVR
            have HQd := Lib.hid hqd
            have HTk : Hid ((S.take k).length = k) := Lib.hid (by rw [List.length_take, HLn.out]; omega)
            have hq3 : q ≤ 300000 := by omega
            clear hVe hq hcq hVn hVR e2 hqd
            have hkI : (k : Int) ≤ (c : Int) := by omega
            have hkI0 : (0 : Int) ≤ (k : Int) := by omega
            have hkl : (k : Int) ≤ (ln : Int) := by omega
            have hkc : k ≤ c := by omega
            obtain ⟨w5, hw5⟩ : ∃ w5, w5 = w1.drewN nq := ⟨_, rfl⟩
            rw [← hw5]
            obtain ⟨w6, hw6⟩ : ∃ w6, w6 = w5.drew := ⟨_, rfl⟩
            have HB5 : Hid (Below w.heap.size w w6) := Lib.hid (by rw [hw6, hw5]; exact (below_drewN HBw.out _).drew)
            have HY0 : Hid (w6.heap[w.heap.size]? = some (.cells #[.int .i64 n, .int .i64 sd, .slice (some ⟨b, off, none⟩) ln c] 28 (0, 0))) := Lib.hid (by rw [hw6, hw5]; exact HY0.out)
            have HY1 : Hid (w6.heap[w.heap.size + 1]? = some (.cells #[.int .i64 0, .int .i64 0, .slice none 0 0] 28 (0, 0))) := Lib.hid (by rw [hw6, hw5]; exact HY1.out)
            have HY2 : Hid (w6.heap[w.heap.size + 1 + 1]? = some (.cells #[.int .i64 h, .string t] 50 (0, 0))) := Lib.hid (by rw [hw6, hw5]; exact HY2.out)
            have hl0 : w.heap.size < w6.heap.size := (Array.getElem?_eq_some_iff.1 HY0.out).1
            have hl1 : w.heap.size + 1 < w6.heap.size := (Array.getElem?_eq_some_iff.1 HY1.out).1
            have hl2 : w.heap.size + 1 + 1 < w6.heap.size := (Array.getElem?_eq_some_iff.1 HY2.out).1
            have HKS : Hid (∀ W, Below w6.heap.size w6 W → (fun W => W.cell? ⟨w.heap.size, 2, none⟩ = some (.slice (some ⟨b, off, none⟩) ln c) ∧ W.cell? ⟨w.heap.size + 1 + 1, 0, none⟩ = some (.int .i64 h) ∧ W.cell? ⟨w.heap.size + 1 + 1, 1, none⟩ = some (.string t)) W) := Lib.hid (fun W hb => ⟨(cell_of_row W w.heap.size 2 _ _ _ ((hb.block _ hl0).trans HY0.out)), (cell_of_row W (w.heap.size + 1 + 1) 0 _ _ _ ((hb.block _ hl2).trans HY2.out)), (cell_of_row W (w.heap.size + 1 + 1) 1 _ _ _ ((hb.block _ hl2).trans HY2.out))⟩)
            have Hw6 := Lib.hid hw6
            clear hw5 hw6
            have HD1 : Hid (Below w6.heap.size w6 (w6.alloc (Obj.cells #[] 50))) := Lib.hid ((Below.refl _ _).alloc (Nat.le_refl _) _)
            have HD0 : Hid (Below w6.heap.size w6 (w6.alloc (Obj.cells #[.int .i64 h, .string t] 50))) := Lib.hid ((Below.refl _ _).alloc (Nat.le_refl _) _)
            have HD2 : Hid (Below w6.heap.size w6 ((w6.alloc (Obj.cells #[.int .i64 h, .string t] 50)).alloc (Obj.cells #[] 50))) := Lib.hid (((Below.refl _ _).alloc (Nat.le_refl _) _).alloc (by simp) _)
            have HD3 : Hid (Below w6.heap.size w6 ((w6.alloc (Obj.cells #[] 50)).alloc (Obj.cells #[.int .i64 h, .string t] 50))) := Lib.hid (((Below.refl _ _).alloc (Nat.le_refl _) _).alloc (by simp) _)
            have HO1 : Hid ((w6.alloc (Obj.cells #[] 50)).ownsRow w6.heap.size 50 2 (.slice (some ⟨w6.heap.size, 0, none⟩) 0 0) 0 (kyCells [])) := Lib.hid ⟨rfl, .inr ⟨w6.heap.size, 0, #[], rfl, Nat.le_refl _, Deep.blk_alloc_new w6 _, Nat.le_refl _, by decide, rfl, rfl⟩⟩
            have HO2 : Hid (((w6.alloc (Obj.cells #[.int .i64 h, .string t] 50)).alloc (Obj.cells #[] 50)).ownsRow w6.heap.size 50 2 (.slice (some ⟨w6.heap.size + 1, 0, none⟩) 0 0) 0 (kyCells [])) := Lib.hid ⟨rfl, .inr ⟨w6.heap.size + 1, 0, #[], rfl, by omega, blk_over w6 _ _, Nat.le_refl _, by decide, rfl, rfl⟩⟩
            have HO3 : Hid (((w6.alloc (Obj.cells #[] 50)).alloc (Obj.cells #[.int .i64 h, .string t] 50)).ownsRow w6.heap.size 50 2 (.slice (some ⟨w6.heap.size, 0, none⟩) 0 0) 0 (kyCells [])) := Lib.hid ⟨rfl, .inr ⟨w6.heap.size, 0, #[], rfl, Nat.le_refl _, blk_under w6 _ _, Nat.le_refl _, by decide, rfl, rfl⟩⟩
            have HX2 : Hid (((w6.alloc (Obj.cells #[.int .i64 h, .string t] 50)).alloc (Obj.cells #[] 50)).heap[w6.heap.size]? = some (.cells #[.int .i64 h, .string t] 50 (0, 0))) := Lib.hid (blk_under w6 _ _)
            have HX3 : Hid (((w6.alloc (Obj.cells #[] 50)).alloc (Obj.cells #[.int .i64 h, .string t] 50)).heap[w6.heap.size + 1]? = some (.cells #[.int .i64 h, .string t] 50 (0, 0))) := Lib.hid (blk_over w6 _ _)
            have HK1 : Hid (∀ (W : World) gx, W.heap[gx]? = some (.cells #[.int .i64 h, .string t] 50 (0, 0)) → KR W (some ⟨gx, 0, none⟩) [(h, t)]) := Lib.hid (fun W gx hx j hj => by
              obtain rfl : j = 0 := by simpa using hj
              exact ⟨_, 0, _, rfl, hx, rfl, rfl⟩)
            have HBK := Lib.hid (fun (W : World) (hW : Below w6.heap.size w6 W) => HB5.out.trans (hW.mono HB5.out.size))
            go_wp2_with fail
            refine wp_region_last 15 (fun W => W.cell? ⟨w.heap.size, 2, none⟩ = some (.slice (some ⟨b, off, none⟩) ln c) ∧ W.cell? ⟨w.heap.size + 1 + 1, 0, none⟩ = some (.int .i64 h) ∧ W.cell? ⟨w.heap.size + 1 + 1, 1, none⟩ = some (.string t)) (by kernel_rfl) (by decide +kernel) (by rfl) ?_ (fun hHeld => ?_)
            · rw [← Hw6.out]; exact HKS.out _ (Below.refl _ _)
            rw [← Hw6.out] at hHeld ⊢
            simp only [List.take_succ_cons, List.take_zero]
            refine wpAnyH_take (i := 1) (v := ?_) rfl (by decide +kernel) (by decide +kernel) (by decide +kernel) (fun _ _ _ h => h) (Or.inl ⟨by rfl, ?_⟩) (by assumption) ?_
            rotate_left 1
            · (intro w' hSw; (try dsimp only at hSw); go_simp; (try (with_reducible rfl)))
            try simp only [List.getElem_toArray, List.getElem_cons_zero, List.getElem_cons_succ, Act.put, List.setIfInBounds_toArray, List.set_cons_zero, List.set_cons_succ]
            refine wpAnyH_take (i := 2) (v := ?_) rfl (by decide +kernel) (by decide +kernel) (by decide +kernel) (fun _ _ _ h => h) (Or.inl ⟨by rfl, ?_⟩) (by assumption) ?_
            rotate_left 1
            · (intro w' hSw; (try dsimp only at hSw); go_simp; (try (with_reducible rfl)))
            try simp only [List.getElem_toArray, List.getElem_cons_zero, List.getElem_cons_succ, Act.put, List.setIfInBounds_toArray, List.set_cons_zero, List.set_cons_succ]
            refine wpAnyH_take (i := 3) (v := ?_) rfl (by decide +kernel) (by decide +kernel) (by decide +kernel) (fun _ _ _ h => h) (Or.inl ⟨by rfl, ?_⟩) (by assumption) ?_
            rotate_left 1
            · (intro w' hSw; (try dsimp only at hSw); go_simp; (try (with_reducible rfl)))
            try simp only [List.getElem_toArray, List.getElem_cons_zero, List.getElem_cons_succ, Act.put, List.setIfInBounds_toArray, List.set_cons_zero, List.set_cons_succ]
            refine wpAnyH_take (i := 4) (v := ?_) rfl (by decide +kernel) (by decide +kernel) (by decide +kernel) (fun _ _ _ h => h) (Or.inl ⟨by rfl, ?_⟩) (by assumption) ?_
            rotate_left 1
            · (intro w' hSw; (try dsimp only at hSw); go_simp; (try (with_reducible rfl)))
            try simp only [List.getElem_toArray, List.getElem_cons_zero, List.getElem_cons_succ, Act.put, List.setIfInBounds_toArray, List.set_cons_zero, List.set_cons_succ]
            refine wpAnyH_take (i := 6) (v := ?_) rfl (by decide +kernel) (by decide +kernel) (by decide +kernel) (fun _ _ _ h => h) (Or.inl ⟨by rfl, ?_⟩) (by assumption) ?_
            rotate_left 1
            · (intro w' hSw; (try dsimp only at hSw); go_simp; (try (with_reducible rfl)))
            try simp only [List.getElem_toArray, List.getElem_cons_zero, List.getElem_cons_succ, Act.put, List.setIfInBounds_toArray, List.set_cons_zero, List.set_cons_succ]
            refine wpAnyH_take (i := 9) (v := ?_) rfl (by decide +kernel) (by decide +kernel) (by decide +kernel) (fun _ _ _ h => h) (Or.inl ⟨by rfl, ?_⟩) (by assumption) ?_
            rotate_left 1
            · (intro w' hSw; (try dsimp only at hSw); go_simp; (try (with_reducible rfl)))
            try simp only [List.getElem_toArray, List.getElem_cons_zero, List.getElem_cons_succ, Act.put, List.setIfInBounds_toArray, List.set_cons_zero, List.set_cons_succ]
            refine wpAnyH_take (i := 10) (v := ?_) rfl (by decide +kernel) (by decide +kernel) (by decide +kernel) (fun _ _ _ h => h) (Or.inl ⟨by rfl, ?_⟩) (by assumption) ?_
            rotate_left 1
            · (intro w' hSw; (try dsimp only at hSw); go_simp; (try (with_reducible rfl)))
            try simp only [List.getElem_toArray, List.getElem_cons_zero, List.getElem_cons_succ, Act.put, List.setIfInBounds_toArray, List.set_cons_zero, List.set_cons_succ]
            refine wpAnyH_take (i := 11) (v := ?_) rfl (by decide +kernel) (by decide +kernel) (by decide +kernel) (fun _ _ _ h => h) (Or.inl ⟨by rfl, ?_⟩) (by assumption) ?_
            rotate_left 1
            · (intro w' hSw; (try dsimp only at hSw); go_simp; (try (with_reducible rfl)))
            try simp only [List.getElem_toArray, List.getElem_cons_zero, List.getElem_cons_succ, Act.put, List.setIfInBounds_toArray, List.set_cons_zero, List.set_cons_succ]
            refine wpAnyH_take (i := 12) (v := ?_) rfl (by decide +kernel) (by decide +kernel) (by decide +kernel) (fun _ _ _ h => h) (Or.inl ⟨by rfl, ?_⟩) (by assumption) ?_
            rotate_left 1
            · (intro w' hSw; (try dsimp only at hSw); go_simp; (try (with_reducible rfl)))
            try simp only [List.getElem_toArray, List.getElem_cons_zero, List.getElem_cons_succ, Act.put, List.setIfInBounds_toArray, List.set_cons_zero, List.set_cons_succ]
            refine wpAnyH_ready (rs := [0, 7]) (by decide +kernel) (by simp) ?_
            refine AllReadyH.cons rfl (fun K hK => ?_) (AllReadyH.cons rfl (fun K hK => ?_) AllReadyH.nil)
            · go_simp
              refine hK.out _ _ (HKS.out _ HD1.out) (fun hHeld => ?_)
              clear hK K
              try simp only [List.getElem_toArray, List.getElem_cons_zero, List.getElem_cons_succ, Act.put, List.setIfInBounds_toArray, List.set_cons_zero, List.set_cons_succ]
              refine wpAnyH_ready (rs := [5, 7]) (by decide +kernel) (by simp) ?_
              refine AllReadyH.cons rfl (fun K hK => ?_) (AllReadyH.cons rfl (fun K hK => ?_) AllReadyH.nil)
              · refine step_append_ky rfl (.tmp 44) (.tmp 48) rfl w6.heap.size (.slice (some ⟨w6.heap.size, 0, none⟩) 0 0) 0 [] (by rfl) HO1.out (some ⟨b, off, none⟩) k c (by rfl) (S.take k) HTk.out (fun e => HNl.out e) hkc ((HR.out.below (HBK.out _ HD1.out)).take k) (by omega) HD1.out.size ?_
                intro v1 w7 hown hg
                have HB7 : Hid (Below w6.heap.size w6 w7) := Lib.hid (below_grownk (B := w6.heap.size) HD1.out HO1.out hg (Nat.le_refl _) (Nat.le_refl _))
                have HO7 := Lib.hid hown
                clear hown hg
                refine hK.out _ _ (HKS.out _ HB7.out) (fun hHeld => ?_)
                clear hK K
                try simp only [List.getElem_toArray, List.getElem_cons_zero, List.getElem_cons_succ, Act.put, List.setIfInBounds_toArray, List.set_cons_zero, List.set_cons_succ]
                refine wpAnyH_ready (rs := [7]) (by decide +kernel) (by simp) ?_
                refine AllReadyH.cons rfl (fun K hK => ?_) AllReadyH.nil
                go_simp
                refine hK.out _ _ (HKS.out _ (HB7.out.alloc HB7.out.size _)) (fun hHeld => ?_)
                clear hK K
                try simp only [List.getElem_toArray, List.getElem_cons_zero, List.getElem_cons_succ, Act.put, List.setIfInBounds_toArray, List.set_cons_zero, List.set_cons_succ]
                refine wpAnyH_ready (rs := [8]) (by decide +kernel) (by simp) ?_
                refine AllReadyH.cons rfl (fun K hK => ?_) AllReadyH.nil
                refine step_append_ky rfl (.tmp 49) (.tmp 51) rfl w6.heap.size v1 (0 + k) ([] ++ S.take k) (by rfl) (HO7.out.alloc _) (some ⟨w7.heap.size, 0, none⟩) 1 1 (by rfl) [(h, t)] rfl (fun e => nomatch e) (Nat.le_refl _) (HK1.out _ _ (Deep.blk_alloc_new w7 _)) (by omega) ((HB7.out.alloc HB7.out.size _)).size ?_
                intro v2 w8 hown hg
                have HB8 : Hid (Below w6.heap.size w6 w8) := Lib.hid (below_grownk (B := w6.heap.size) (HB7.out.alloc HB7.out.size _) (HO7.out.alloc _) hg (Nat.le_refl _) (Nat.le_refl _))
                have HO8 := Lib.hid hown
                clear hown hg
                refine hK.out _ _ (HKS.out _ HB8.out) (fun hHeld => ?_)
                clear hK K
                try simp only [List.getElem_toArray, List.getElem_cons_zero, List.getElem_cons_succ, Act.put, List.setIfInBounds_toArray, List.set_cons_zero, List.set_cons_succ]
                refine wpAnyH_ready (rs := [13]) (by decide +kernel) (by simp) ?_
                refine AllReadyH.cons rfl (fun K hK => ?_) AllReadyH.nil
                refine step_append_ky rfl (.tmp 52) (.tmp 56) rfl w6.heap.size v2 (0 + k + 1) ([] ++ S.take k ++ [(h, t)]) (by rfl) HO8.out V q cq (by rfl) (S.drop k) HQd.out HVn.out hqc (HVR.out.below (HBK.out _ HB8.out)) (by omega) HB8.out.size ?_
                intro v3 w9 hown hg
                have HB9 : Hid (Below w6.heap.size w6 w9) := Lib.hid (below_grownk (B := w6.heap.size) HB8.out HO8.out hg (Nat.le_refl _) (Nat.le_refl _))
                have HS9 := Lib.hid (SlV.own hown)
                clear hown hg
                refine hK.out _ _ (HKS.out _ HB9.out) (fun hHeld => ?_)
                clear hK K
                try simp only [List.getElem_toArray, List.getElem_cons_zero, List.getElem_cons_succ, Act.put, List.setIfInBounds_toArray, List.set_cons_zero, List.set_cons_succ]
                refine wpAnyH_take (i := 14) (v := ?_) rfl (by decide +kernel) (by decide +kernel) (by decide +kernel) (fun _ _ _ h => h) (Or.inl ⟨by rfl, ?_⟩) (by assumption) ?_
                rotate_left 1
                · (intro w' hSw; (try dsimp only at hSw); go_simp; (try (with_reducible rfl)))
                try simp only [List.getElem_toArray, List.getElem_cons_zero, List.getElem_cons_succ, Act.put, List.setIfInBounds_toArray, List.set_cons_zero, List.set_cons_succ]
                refine wpAnyH_done (by decide +kernel) ?_ _
                intro K hK
                obtain ⟨R9, hR9⟩ : ∃ R9, R9 = [] ++ S.take k ++ [(h, t)] ++ S.drop k := ⟨_, rfl⟩
                rw [← hR9] at HS9
                have HXR : Hid (X = R9) := Lib.hid (by rw [hR9]; exact HRes.out)
                clear hR9
                obtain ⟨A9, c9, rfl, hs9⟩ := HS9.out
                clear HS9
                obtain ⟨l9, hl9⟩ : ∃ l9, l9 = R9.length := ⟨_, rfl⟩
                rw [← hl9] at hs9 ⊢
                have HS9 := Lib.hid hs9
                have HL9 := Lib.hid hl9
                clear hs9 hl9
                have hy0 := (HB9.out.block _ hl0).trans HY0.out
                have hy1 := (HB9.out.block _ hl1).trans HY1.out
                have HZ0 := Lib.hid hy0
                have HZ1 := Lib.hid hy1
                have y0 := cell_of_row w9 w.heap.size 0 _ _ _ hy0
                have y1 := cell_of_row w9 w.heap.size 1 _ _ _ hy0
                have y2 := cell_of_row w9 w.heap.size 2 _ _ _ hy0
                have r0 := cell_of_row w9 (w.heap.size + 1) 0 _ _ _ hy1
                have r1 := cell_of_row w9 (w.heap.size + 1) 1 _ _ _ hy1
                have r2 := cell_of_row w9 (w.heap.size + 1) 2 _ _ _ hy1
                have f0 := frozen_of_row w9 (w.heap.size + 1) 0 _ _ hy1
                have f1 := frozen_of_row w9 (w.heap.size + 1) 1 _ _ hy1
                have f2 := frozen_of_row w9 (w.heap.size + 1) 2 _ _ hy1
                have g2 := frozen_of_row w9 w.heap.size 2 _ _ hy0
                simp at y0 y1 y2 r0 r1 r2
                have hz0 : w.heap.size < w9.heap.size := (Array.getElem?_eq_some_iff.1 hy0).1
                have hz1 : w.heap.size + 1 < w9.heap.size := (Array.getElem?_eq_some_iff.1 hy1).1
                clear hy0 hy1
                go_simp
                refine hK.out _ _ ?_
                clear hK K
                try simp only [List.getElem_toArray, List.getElem_cons_zero, List.getElem_cons_succ, Act.put, List.setIfInBounds_toArray, List.set_cons_zero, List.set_cons_succ]
                go_wp2_with fail
                refine bodyPost_ret (v := .agg #[.int .i64 n, .int .i64 sd, .slice A9 l9 c9]) ?_ rfl ⟨⟨_, rfl, ?_⟩, ?_⟩
                · rw [results_cell1 rfl]; go_simp <;> rfl
                · rw [HXR.out]
                  refine ⟨_, rfl, A9, c9, by rw [HL9.out], by rw [← HL9.out]; exact HS9.out.1, HS9.out.2.1, ?_⟩
                  refine KR.grown (g := w.heap.size + 1) (KR.grown (g := w.heap.size) HS9.out.2.2 ((Gs.refl _ w9).set _) HZ0.out (by decide)) ((((Gs.refl _ _).set _).set _).set _) ((Below.heap_setCell w9 _ _ _ (by show w.heap.size + 1 ≠ w.heap.size; omega)).trans HZ1.out) (by decide)
                · refine Below.setCell (Below.setCell (Below.setCell (Below.setCell (HBK.out _ HB9.out) ?_ _) ?_ _) ?_ _) ?_ _ <;> (first | (show w.heap.size ≤ w.heap.size; omega) | (show w.heap.size ≤ w.heap.size + 1; omega))
              · go_simp
                refine hK.out _ _ (HKS.out _ HD3.out) (fun hHeld => ?_)
                clear hK K
                try simp only [List.getElem_toArray, List.getElem_cons_zero, List.getElem_cons_succ, Act.put, List.setIfInBounds_toArray, List.set_cons_zero, List.set_cons_succ]
                refine wpAnyH_ready (rs := [5]) (by decide +kernel) (by simp) ?_
                refine AllReadyH.cons rfl (fun K hK => ?_) AllReadyH.nil
                refine step_append_ky rfl (.tmp 44) (.tmp 48) rfl w6.heap.size (.slice (some ⟨w6.heap.size, 0, none⟩) 0 0) 0 [] (by rfl) HO3.out (some ⟨b, off, none⟩) k c (by rfl) (S.take k) HTk.out (fun e => HNl.out e) hkc ((HR.out.below (HBK.out _ HD3.out)).take k) (by omega) HD3.out.size ?_
                intro v1 w7 hown hg
                have HB7 : Hid (Below w6.heap.size w6 w7) := Lib.hid (below_grownk (B := w6.heap.size) HD3.out HO3.out hg (Nat.le_refl _) (Nat.le_refl _))
                have HO7 := Lib.hid hown
                have HX7 : Hid (w7.heap[w6.heap.size + 1]? = some (.cells #[.int .i64 h, .string t] 50 (0, 0))) := Lib.hid ((hg.block _ (Array.getElem?_eq_some_iff.1 HX3.out).1 (by simp [Value.ownBlock])).trans HX3.out)
                clear hown hg
                refine hK.out _ _ (HKS.out _ HB7.out) (fun hHeld => ?_)
                clear hK K
                try simp only [List.getElem_toArray, List.getElem_cons_zero, List.getElem_cons_succ, Act.put, List.setIfInBounds_toArray, List.set_cons_zero, List.set_cons_succ]
                refine wpAnyH_ready (rs := [8]) (by decide +kernel) (by simp) ?_
                refine AllReadyH.cons rfl (fun K hK => ?_) AllReadyH.nil
                refine step_append_ky rfl (.tmp 49) (.tmp 51) rfl w6.heap.size v1 (0 + k) ([] ++ S.take k) (by rfl) HO7.out (some ⟨w6.heap.size + 1, 0, none⟩) 1 1 (by rfl) [(h, t)] rfl (fun e => nomatch e) (Nat.le_refl _) (HK1.out _ _ HX7.out) (by omega) (HB7.out).size ?_
                intro v2 w8 hown hg
                have HB8 : Hid (Below w6.heap.size w6 w8) := Lib.hid (below_grownk (B := w6.heap.size) HB7.out HO7.out hg (Nat.le_refl _) (Nat.le_refl _))
                have HO8 := Lib.hid hown
                clear hown hg
                refine hK.out _ _ (HKS.out _ HB8.out) (fun hHeld => ?_)
                clear hK K
                try simp only [List.getElem_toArray, List.getElem_cons_zero, List.getElem_cons_succ, Act.put, List.setIfInBounds_toArray, List.set_cons_zero, List.set_cons_succ]
                refine wpAnyH_ready (rs := [13]) (by decide +kernel) (by simp) ?_
                refine AllReadyH.cons rfl (fun K hK => ?_) AllReadyH.nil
                refine step_append_ky rfl (.tmp 52) (.tmp 56) rfl w6.heap.size v2 (0 + k + 1) ([] ++ S.take k ++ [(h, t)]) (by rfl) HO8.out V q cq (by rfl) (S.drop k) HQd.out HVn.out hqc (HVR.out.below (HBK.out _ HB8.out)) (by omega) HB8.out.size ?_
                intro v3 w9 hown hg
                have HB9 : Hid (Below w6.heap.size w6 w9) := Lib.hid (below_grownk (B := w6.heap.size) HB8.out HO8.out hg (Nat.le_refl _) (Nat.le_refl _))
                have HS9 := Lib.hid (SlV.own hown)
                clear hown hg
                refine hK.out _ _ (HKS.out _ HB9.out) (fun hHeld => ?_)
                clear hK K
                try simp only [List.getElem_toArray, List.getElem_cons_zero, List.getElem_cons_succ, Act.put, List.setIfInBounds_toArray, List.set_cons_zero, List.set_cons_succ]
                refine wpAnyH_take (i := 14) (v := ?_) rfl (by decide +kernel) (by decide +kernel) (by decide +kernel) (fun _ _ _ h => h) (Or.inl ⟨by rfl, ?_⟩) (by assumption) ?_
                rotate_left 1
                · (intro w' hSw; (try dsimp only at hSw); go_simp; (try (with_reducible rfl)))
                try simp only [List.getElem_toArray, List.getElem_cons_zero, List.getElem_cons_succ, Act.put, List.setIfInBounds_toArray, List.set_cons_zero, List.set_cons_succ]
                refine wpAnyH_done (by decide +kernel) ?_ _
                intro K hK
                obtain ⟨R9, hR9⟩ : ∃ R9, R9 = [] ++ S.take k ++ [(h, t)] ++ S.drop k := ⟨_, rfl⟩
                rw [← hR9] at HS9
                have HXR : Hid (X = R9) := Lib.hid (by rw [hR9]; exact HRes.out)
                clear hR9
                obtain ⟨A9, c9, rfl, hs9⟩ := HS9.out
                clear HS9
                obtain ⟨l9, hl9⟩ : ∃ l9, l9 = R9.length := ⟨_, rfl⟩
                rw [← hl9] at hs9 ⊢
                have HS9 := Lib.hid hs9
                have HL9 := Lib.hid hl9
                clear hs9 hl9
                have hy0 := (HB9.out.block _ hl0).trans HY0.out
                have hy1 := (HB9.out.block _ hl1).trans HY1.out
                have HZ0 := Lib.hid hy0
                have HZ1 := Lib.hid hy1
                have y0 := cell_of_row w9 w.heap.size 0 _ _ _ hy0
                have y1 := cell_of_row w9 w.heap.size 1 _ _ _ hy0
                have y2 := cell_of_row w9 w.heap.size 2 _ _ _ hy0
                have r0 := cell_of_row w9 (w.heap.size + 1) 0 _ _ _ hy1
                have r1 := cell_of_row w9 (w.heap.size + 1) 1 _ _ _ hy1
                have r2 := cell_of_row w9 (w.heap.size + 1) 2 _ _ _ hy1
                have f0 := frozen_of_row w9 (w.heap.size + 1) 0 _ _ hy1
                have f1 := frozen_of_row w9 (w.heap.size + 1) 1 _ _ hy1
                have f2 := frozen_of_row w9 (w.heap.size + 1) 2 _ _ hy1
                have g2 := frozen_of_row w9 w.heap.size 2 _ _ hy0
                simp at y0 y1 y2 r0 r1 r2
                have hz0 : w.heap.size < w9.heap.size := (Array.getElem?_eq_some_iff.1 hy0).1
                have hz1 : w.heap.size + 1 < w9.heap.size := (Array.getElem?_eq_some_iff.1 hy1).1
                clear hy0 hy1
                go_simp
                refine hK.out _ _ ?_
                clear hK K
                try simp only [List.getElem_toArray, List.getElem_cons_zero, List.getElem_cons_succ, Act.put, List.setIfInBounds_toArray, List.set_cons_zero, List.set_cons_succ]
                go_wp2_with fail
                refine bodyPost_ret (v := .agg #[.int .i64 n, .int .i64 sd, .slice A9 l9 c9]) ?_ rfl ⟨⟨_, rfl, ?_⟩, ?_⟩
                · rw [results_cell1 rfl]; go_simp <;> rfl
                · rw [HXR.out]
                  refine ⟨_, rfl, A9, c9, by rw [HL9.out], by rw [← HL9.out]; exact HS9.out.1, HS9.out.2.1, ?_⟩
                  refine KR.grown (g := w.heap.size + 1) (KR.grown (g := w.heap.size) HS9.out.2.2 ((Gs.refl _ w9).set _) HZ0.out (by decide)) ((((Gs.refl _ _).set _).set _).set _) ((Below.heap_setCell w9 _ _ _ (by show w.heap.size + 1 ≠ w.heap.size; omega)).trans HZ1.out) (by decide)
                · refine Below.setCell (Below.setCell (Below.setCell (Below.setCell (HBK.out _ HB9.out) ?_ _) ?_ _) ?_ _) ?_ _ <;> (first | (show w.heap.size ≤ w.heap.size; omega) | (show w.heap.size ≤ w.heap.size + 1; omega))
            · go_simp
              refine hK.out _ _ (HKS.out _ HD0.out) (fun hHeld => ?_)
              clear hK K
              try simp only [List.getElem_toArray, List.getElem_cons_zero, List.getElem_cons_succ, Act.put, List.setIfInBounds_toArray, List.set_cons_zero, List.set_cons_succ]
              refine wpAnyH_ready (rs := [0]) (by decide +kernel) (by simp) ?_
              refine AllReadyH.cons rfl (fun K hK => ?_) AllReadyH.nil
              go_simp
              refine hK.out _ _ (HKS.out _ HD2.out) (fun hHeld => ?_)
              clear hK K
              try simp only [List.getElem_toArray, List.getElem_cons_zero, List.getElem_cons_succ, Act.put, List.setIfInBounds_toArray, List.set_cons_zero, List.set_cons_succ]
              refine wpAnyH_ready (rs := [5]) (by decide +kernel) (by simp) ?_
              refine AllReadyH.cons rfl (fun K hK => ?_) AllReadyH.nil
              refine step_append_ky rfl (.tmp 44) (.tmp 48) rfl w6.heap.size (.slice (some ⟨w6.heap.size + 1, 0, none⟩) 0 0) 0 [] (by rfl) HO2.out (some ⟨b, off, none⟩) k c (by rfl) (S.take k) HTk.out (fun e => HNl.out e) hkc ((HR.out.below (HBK.out _ HD2.out)).take k) (by omega) HD2.out.size ?_
              intro v1 w7 hown hg
              have HB7 : Hid (Below w6.heap.size w6 w7) := Lib.hid (below_grownk (B := w6.heap.size) HD2.out HO2.out hg (Nat.le_refl _) (Nat.le_refl _))
              have HO7 := Lib.hid hown
              have HX7 : Hid (w7.heap[w6.heap.size]? = some (.cells #[.int .i64 h, .string t] 50 (0, 0))) := Lib.hid ((hg.block _ (Array.getElem?_eq_some_iff.1 HX2.out).1 (by simp [Value.ownBlock])).trans HX2.out)
              clear hown hg
              refine hK.out _ _ (HKS.out _ HB7.out) (fun hHeld => ?_)
              clear hK K
              try simp only [List.getElem_toArray, List.getElem_cons_zero, List.getElem_cons_succ, Act.put, List.setIfInBounds_toArray, List.set_cons_zero, List.set_cons_succ]
              refine wpAnyH_ready (rs := [8]) (by decide +kernel) (by simp) ?_
              refine AllReadyH.cons rfl (fun K hK => ?_) AllReadyH.nil
              refine step_append_ky rfl (.tmp 49) (.tmp 51) rfl w6.heap.size v1 (0 + k) ([] ++ S.take k) (by rfl) HO7.out (some ⟨w6.heap.size, 0, none⟩) 1 1 (by rfl) [(h, t)] rfl (fun e => nomatch e) (Nat.le_refl _) (HK1.out _ _ HX7.out) (by omega) (HB7.out).size ?_
              intro v2 w8 hown hg
              have HB8 : Hid (Below w6.heap.size w6 w8) := Lib.hid (below_grownk (B := w6.heap.size) HB7.out HO7.out hg (Nat.le_refl _) (Nat.le_refl _))
              have HO8 := Lib.hid hown
              clear hown hg
              refine hK.out _ _ (HKS.out _ HB8.out) (fun hHeld => ?_)
              clear hK K
              try simp only [List.getElem_toArray, List.getElem_cons_zero, List.getElem_cons_succ, Act.put, List.setIfInBounds_toArray, List.set_cons_zero, List.set_cons_succ]
              refine wpAnyH_ready (rs := [13]) (by decide +kernel) (by simp) ?_
              refine AllReadyH.cons rfl (fun K hK => ?_) AllReadyH.nil
              refine step_append_ky rfl (.tmp 52) (.tmp 56) rfl w6.heap.size v2 (0 + k + 1) ([] ++ S.take k ++ [(h, t)]) (by rfl) HO8.out V q cq (by rfl) (S.drop k) HQd.out HVn.out hqc (HVR.out.below (HBK.out _ HB8.out)) (by omega) HB8.out.size ?_
              intro v3 w9 hown hg
              have HB9 : Hid (Below w6.heap.size w6 w9) := Lib.hid (below_grownk (B := w6.heap.size) HB8.out HO8.out hg (Nat.le_refl _) (Nat.le_refl _))
              have HS9 := Lib.hid (SlV.own hown)
              clear hown hg
              refine hK.out _ _ (HKS.out _ HB9.out) (fun hHeld => ?_)
              clear hK K
              try simp only [List.getElem_toArray, List.getElem_cons_zero, List.getElem_cons_succ, Act.put, List.setIfInBounds_toArray, List.set_cons_zero, List.set_cons_succ]
              refine wpAnyH_take (i := 14) (v := ?_) rfl (by decide +kernel) (by decide +kernel) (by decide +kernel) (fun _ _ _ h => h) (Or.inl ⟨by rfl, ?_⟩) (by assumption) ?_
              rotate_left 1
              · (intro w' hSw; (try dsimp only at hSw); go_simp; (try (with_reducible rfl)))
              try simp only [List.getElem_toArray, List.getElem_cons_zero, List.getElem_cons_succ, Act.put, List.setIfInBounds_toArray, List.set_cons_zero, List.set_cons_succ]
              refine wpAnyH_done (by decide +kernel) ?_ _
              intro K hK
              obtain ⟨R9, hR9⟩ : ∃ R9, R9 = [] ++ S.take k ++ [(h, t)] ++ S.drop k := ⟨_, rfl⟩
              rw [← hR9] at HS9
              have HXR : Hid (X = R9) := Lib.hid (by rw [hR9]; exact HRes.out)
              clear hR9
              obtain ⟨A9, c9, rfl, hs9⟩ := HS9.out
              clear HS9
              obtain ⟨l9, hl9⟩ : ∃ l9, l9 = R9.length := ⟨_, rfl⟩
              rw [← hl9] at hs9 ⊢
              have HS9 := Lib.hid hs9
              have HL9 := Lib.hid hl9
              clear hs9 hl9
              have hy0 := (HB9.out.block _ hl0).trans HY0.out
              have hy1 := (HB9.out.block _ hl1).trans HY1.out
              have HZ0 := Lib.hid hy0
              have HZ1 := Lib.hid hy1
              have y0 := cell_of_row w9 w.heap.size 0 _ _ _ hy0
              have y1 := cell_of_row w9 w.heap.size 1 _ _ _ hy0
              have y2 := cell_of_row w9 w.heap.size 2 _ _ _ hy0
              have r0 := cell_of_row w9 (w.heap.size + 1) 0 _ _ _ hy1
              have r1 := cell_of_row w9 (w.heap.size + 1) 1 _ _ _ hy1
              have r2 := cell_of_row w9 (w.heap.size + 1) 2 _ _ _ hy1
              have f0 := frozen_of_row w9 (w.heap.size + 1) 0 _ _ hy1
              have f1 := frozen_of_row w9 (w.heap.size + 1) 1 _ _ hy1
              have f2 := frozen_of_row w9 (w.heap.size + 1) 2 _ _ hy1
              have g2 := frozen_of_row w9 w.heap.size 2 _ _ hy0
              simp at y0 y1 y2 r0 r1 r2
              have hz0 : w.heap.size < w9.heap.size := (Array.getElem?_eq_some_iff.1 hy0).1
              have hz1 : w.heap.size + 1 < w9.heap.size := (Array.getElem?_eq_some_iff.1 hy1).1
              clear hy0 hy1
              go_simp
              refine hK.out _ _ ?_
              clear hK K
              try simp only [List.getElem_toArray, List.getElem_cons_zero, List.getElem_cons_succ, Act.put, List.setIfInBounds_toArray, List.set_cons_zero, List.set_cons_succ]
              go_wp2_with fail
              refine bodyPost_ret (v := .agg #[.int .i64 n, .int .i64 sd, .slice A9 l9 c9]) ?_ rfl ⟨⟨_, rfl, ?_⟩, ?_⟩
              · rw [results_cell1 rfl]; go_simp <;> rfl
              · rw [HXR.out]
                refine ⟨_, rfl, A9, c9, by rw [HL9.out], by rw [← HL9.out]; exact HS9.out.1, HS9.out.2.1, ?_⟩
                refine KR.grown (g := w.heap.size + 1) (KR.grown (g := w.heap.size) HS9.out.2.2 ((Gs.refl _ w9).set _) HZ0.out (by decide)) ((((Gs.refl _ _).set _).set _).set _) ((Below.heap_setCell w9 _ _ _ (by show w.heap.size + 1 ≠ w.heap.size; omega)).trans HZ1.out) (by decide)
              · refine Below.setCell (Below.setCell (Below.setCell (Below.setCell (HBK.out _ HB9.out) ?_ _) ?_ _) ?_ _) ?_ _ <;> (first | (show w.heap.size ≤ w.heap.size; omega) | (show w.heap.size ≤ w.heap.size + 1; omega))

    · obtain rfl : k = p := by omega
      have HRes := Lib.hid (HI2.out (by rw [List.getElem?_eq_none (by rw [HLn.out]; omega)]; intro e; cases e))
      have hd : decide (k < ln) = false := by simpa using hl
      clear hl hk
      go_wp2_with fail
      go_quiet (fail)
      obtain ⟨w4, hw4⟩ : ∃ w4, w4 = wr.drewN nq := ⟨_, rfl⟩
      rw [← hw4]
      have HBw : Hid (Below w.heap.size w w4) := Lib.hid (by rw [hw4]; exact below_drewN HB.out _)
      have HY0 : Hid (w4.heap[w.heap.size]? = some (.cells #[.int .i64 n, .int .i64 sd, .slice A ln c] 28 (0, 0))) := Lib.hid (by rw [hw4]; exact HX0.out)
      have HY1 : Hid (w4.heap[w.heap.size + 1]? = some (.cells #[.int .i64 0, .int .i64 0, .slice none 0 0] 28 (0, 0))) := Lib.hid (by rw [hw4]; exact HX1.out)
      have HY2 : Hid (w4.heap[w.heap.size + 1 + 1]? = some (.cells #[.int .i64 h, .string t] 50 (0, 0))) := Lib.hid (by rw [hw4]; exact HX2.out)
      have v02 := cell_of_row w4 w.heap.size 2 _ _ _ HY0.out
      simp at v02
      clear hw4 x02 x20 x21
      have hl4 : w.heap.size < w4.heap.size := (Array.getElem?_eq_some_iff.1 HY0.out).1
      clear hl0 hl2
      go_wp2_with fail
      go_quiet (fail)
      have HV := slv_drop HR.out (k := k) (by rw [HLn.out]; exact hlc) HNl.out (by rw [HLn.out]; exact HLe)
      rw [HLn.out] at HV
      have hsl := sliced_from A ln c k HLe
      obtain ⟨V, hVe⟩ : ∃ V, V = (if c = k then A else (A : Option Addr).map (fun a => a.add (k * 2))) := ⟨_, rfl⟩
      have hsl2 := hsl
      rw [← hVe] at HV hsl2
      clear hsl
      have hsl := hsl2
      clear hsl2
      obtain ⟨q, hq⟩ : ∃ q, q = ln - k := ⟨_, rfl⟩
      obtain ⟨cq, hcq⟩ : ∃ cq, cq = c - k := ⟨_, rfl⟩
      rw [← hq, ← hcq] at HV hsl
      obtain ⟨V2, cq2, hVe2, hqc, hVn, hVR⟩ := HV
      have hqd : (S.drop k).length = q := by rw [List.length_drop, HLn.out, hq]
      rw [hqd] at hVe2
      injection hVe2 with e1 e2 e3
      subst e1 e3
      rw [hqd] at hqc
      have HVn := Lib.hid hVn
      have HVR := Lib.hid hVR
      have HQd := Lib.hid hqd
      have HTk : Hid ((S.take k).length = k) := Lib.hid (by rw [List.length_take, HLn.out]; omega)
      have hq3 : q ≤ 300000 := by omega
      clear hVe hq hcq hVn hVR e2 hqd
      have hkI : (k : Int) ≤ (c : Int) := by omega
      have hkI0 : (0 : Int) ≤ (k : Int) := by omega
      have hkl : (k : Int) ≤ (ln : Int) := by omega
      have hkc : k ≤ c := by omega
      obtain ⟨w5, hw5⟩ : ∃ w5, w5 = w4.drewN nq := ⟨_, rfl⟩
      rw [← hw5]
      obtain ⟨w6, hw6⟩ : ∃ w6, w6 = w5.drew := ⟨_, rfl⟩
      have HB5 : Hid (Below w.heap.size w w6) := Lib.hid (by rw [hw6, hw5]; exact (below_drewN HBw.out _).drew)
      have HY0 : Hid (w6.heap[w.heap.size]? = some (.cells #[.int .i64 n, .int .i64 sd, .slice A ln c] 28 (0, 0))) := Lib.hid (by rw [hw6, hw5]; exact HY0.out)
      have HY1 : Hid (w6.heap[w.heap.size + 1]? = some (.cells #[.int .i64 0, .int .i64 0, .slice none 0 0] 28 (0, 0))) := Lib.hid (by rw [hw6, hw5]; exact HY1.out)
      have HY2 : Hid (w6.heap[w.heap.size + 1 + 1]? = some (.cells #[.int .i64 h, .string t] 50 (0, 0))) := Lib.hid (by rw [hw6, hw5]; exact HY2.out)
      have hl0 : w.heap.size < w6.heap.size := (Array.getElem?_eq_some_iff.1 HY0.out).1
      have hl1 : w.heap.size + 1 < w6.heap.size := (Array.getElem?_eq_some_iff.1 HY1.out).1
      have hl2 : w.heap.size + 1 + 1 < w6.heap.size := (Array.getElem?_eq_some_iff.1 HY2.out).1
      have HKS : Hid (∀ W, Below w6.heap.size w6 W → (fun W => W.cell? ⟨w.heap.size, 2, none⟩ = some (.slice A ln c) ∧ W.cell? ⟨w.heap.size + 1 + 1, 0, none⟩ = some (.int .i64 h) ∧ W.cell? ⟨w.heap.size + 1 + 1, 1, none⟩ = some (.string t)) W) := Lib.hid (fun W hb => ⟨(cell_of_row W w.heap.size 2 _ _ _ ((hb.block _ hl0).trans HY0.out)), (cell_of_row W (w.heap.size + 1 + 1) 0 _ _ _ ((hb.block _ hl2).trans HY2.out)), (cell_of_row W (w.heap.size + 1 + 1) 1 _ _ _ ((hb.block _ hl2).trans HY2.out))⟩)
      have Hw6 := Lib.hid hw6
      clear hw5 hw6
      have HD1 : Hid (Below w6.heap.size w6 (w6.alloc (Obj.cells #[] 50))) := Lib.hid ((Below.refl _ _).alloc (Nat.le_refl _) _)
      have HD0 : Hid (Below w6.heap.size w6 (w6.alloc (Obj.cells #[.int .i64 h, .string t] 50))) := Lib.hid ((Below.refl _ _).alloc (Nat.le_refl _) _)
      have HD2 : Hid (Below w6.heap.size w6 ((w6.alloc (Obj.cells #[.int .i64 h, .string t] 50)).alloc (Obj.cells #[] 50))) := Lib.hid (((Below.refl _ _).alloc (Nat.le_refl _) _).alloc (by simp) _)
      have HD3 : Hid (Below w6.heap.size w6 ((w6.alloc (Obj.cells #[] 50)).alloc (Obj.cells #[.int .i64 h, .string t] 50))) := Lib.hid (((Below.refl _ _).alloc (Nat.le_refl _) _).alloc (by simp) _)
      have HO1 : Hid ((w6.alloc (Obj.cells #[] 50)).ownsRow w6.heap.size 50 2 (.slice (some ⟨w6.heap.size, 0, none⟩) 0 0) 0 (kyCells [])) := Lib.hid ⟨rfl, .inr ⟨w6.heap.size, 0, #[], rfl, Nat.le_refl _, Deep.blk_alloc_new w6 _, Nat.le_refl _, by decide, rfl, rfl⟩⟩
      have HO2 : Hid (((w6.alloc (Obj.cells #[.int .i64 h, .string t] 50)).alloc (Obj.cells #[] 50)).ownsRow w6.heap.size 50 2 (.slice (some ⟨w6.heap.size + 1, 0, none⟩) 0 0) 0 (kyCells [])) := Lib.hid ⟨rfl, .inr ⟨w6.heap.size + 1, 0, #[], rfl, by omega, blk_over w6 _ _, Nat.le_refl _, by decide, rfl, rfl⟩⟩
      have HO3 : Hid (((w6.alloc (Obj.cells #[] 50)).alloc (Obj.cells #[.int .i64 h, .string t] 50)).ownsRow w6.heap.size 50 2 (.slice (some ⟨w6.heap.size, 0, none⟩) 0 0) 0 (kyCells [])) := Lib.hid ⟨rfl, .inr ⟨w6.heap.size, 0, #[], rfl, Nat.le_refl _, blk_under w6 _ _, Nat.le_refl _, by decide, rfl, rfl⟩⟩
      have HX2 : Hid (((w6.alloc (Obj.cells #[.int .i64 h, .string t] 50)).alloc (Obj.cells #[] 50)).heap[w6.heap.size]? = some (.cells #[.int .i64 h, .string t] 50 (0, 0))) := Lib.hid (blk_under w6 _ _)
      have HX3 : Hid (((w6.alloc (Obj.cells #[] 50)).alloc (Obj.cells #[.int .i64 h, .string t] 50)).heap[w6.heap.size + 1]? = some (.cells #[.int .i64 h, .string t] 50 (0, 0))) := Lib.hid (blk_over w6 _ _)
      have HK1 : Hid (∀ (W : World) gx, W.heap[gx]? = some (.cells #[.int .i64 h, .string t] 50 (0, 0)) → KR W (some ⟨gx, 0, none⟩) [(h, t)]) := Lib.hid (fun W gx hx j hj => by
        obtain rfl : j = 0 := by simpa using hj
        exact ⟨_, 0, _, rfl, hx, rfl, rfl⟩)
      have HBK := Lib.hid (fun (W : World) (hW : Below w6.heap.size w6 W) => HB5.out.trans (hW.mono HB5.out.size))
      go_wp2_with fail
      refine wp_region_last 15 (fun W => W.cell? ⟨w.heap.size, 2, none⟩ = some (.slice A ln c) ∧ W.cell? ⟨w.heap.size + 1 + 1, 0, none⟩ = some (.int .i64 h) ∧ W.cell? ⟨w.heap.size + 1 + 1, 1, none⟩ = some (.string t)) (by kernel_rfl) (by decide +kernel) (by rfl) ?_ (fun hHeld => ?_)
      · rw [← Hw6.out]; exact HKS.out _ (Below.refl _ _)
      rw [← Hw6.out] at hHeld ⊢
      simp only [List.take_succ_cons, List.take_zero]
      refine wpAnyH_take (i := 1) (v := ?_) rfl (by decide +kernel) (by decide +kernel) (by decide +kernel) (fun _ _ _ h => h) (Or.inl ⟨by rfl, ?_⟩) (by assumption) ?_
      rotate_left 1
      · (intro w' hSw; (try dsimp only at hSw); go_simp; (try (with_reducible rfl)))
      try simp only [List.getElem_toArray, List.getElem_cons_zero, List.getElem_cons_succ, Act.put, List.setIfInBounds_toArray, List.set_cons_zero, List.set_cons_succ]
      refine wpAnyH_take (i := 2) (v := ?_) rfl (by decide +kernel) (by decide +kernel) (by decide +kernel) (fun _ _ _ h => h) (Or.inl ⟨by rfl, ?_⟩) (by assumption) ?_
      rotate_left 1
      · (intro w' hSw; (try dsimp only at hSw); go_simp; (try (with_reducible rfl)))
      try simp only [List.getElem_toArray, List.getElem_cons_zero, List.getElem_cons_succ, Act.put, List.setIfInBounds_toArray, List.set_cons_zero, List.set_cons_succ]
      refine wpAnyH_take (i := 3) (v := ?_) rfl (by decide +kernel) (by decide +kernel) (by decide +kernel) (fun _ _ _ h => h) (Or.inl ⟨by rfl, ?_⟩) (by assumption) ?_
      rotate_left 1
      · (intro w' hSw; (try dsimp only at hSw); go_simp; (try (with_reducible rfl)))
      try simp only [List.getElem_toArray, List.getElem_cons_zero, List.getElem_cons_succ, Act.put, List.setIfInBounds_toArray, List.set_cons_zero, List.set_cons_succ]
      refine wpAnyH_take (i := 4) (v := ?_) rfl (by decide +kernel) (by decide +kernel) (by decide +kernel) (fun _ _ _ h => h) (Or.inl ⟨by rfl, ?_⟩) (by assumption) ?_
      rotate_left 1
      · (intro w' hSw; (try dsimp only at hSw); go_simp; (try (with_reducible rfl)))
      try simp only [List.getElem_toArray, List.getElem_cons_zero, List.getElem_cons_succ, Act.put, List.setIfInBounds_toArray, List.set_cons_zero, List.set_cons_succ]
      refine wpAnyH_take (i := 6) (v := ?_) rfl (by decide +kernel) (by decide +kernel) (by decide +kernel) (fun _ _ _ h => h) (Or.inl ⟨by rfl, ?_⟩) (by assumption) ?_
      rotate_left 1
      · (intro w' hSw; (try dsimp only at hSw); go_simp; (try (with_reducible rfl)))
      try simp only [List.getElem_toArray, List.getElem_cons_zero, List.getElem_cons_succ, Act.put, List.setIfInBounds_toArray, List.set_cons_zero, List.set_cons_succ]
      refine wpAnyH_take (i := 9) (v := ?_) rfl (by decide +kernel) (by decide +kernel) (by decide +kernel) (fun _ _ _ h => h) (Or.inl ⟨by rfl, ?_⟩) (by assumption) ?_
      rotate_left 1
      · (intro w' hSw; (try dsimp only at hSw); go_simp; (try (with_reducible rfl)))
      try simp only [List.getElem_toArray, List.getElem_cons_zero, List.getElem_cons_succ, Act.put, List.setIfInBounds_toArray, List.set_cons_zero, List.set_cons_succ]
      refine wpAnyH_take (i := 10) (v := ?_) rfl (by decide +kernel) (by decide +kernel) (by decide +kernel) (fun _ _ _ h => h) (Or.inl ⟨by rfl, ?_⟩) (by assumption) ?_
      rotate_left 1
      · (intro w' hSw; (try dsimp only at hSw); go_simp; (try (with_reducible rfl)))
      try simp only [List.getElem_toArray, List.getElem_cons_zero, List.getElem_cons_succ, Act.put, List.setIfInBounds_toArray, List.set_cons_zero, List.set_cons_succ]
      refine wpAnyH_take (i := 11) (v := ?_) rfl (by decide +kernel) (by decide +kernel) (by decide +kernel) (fun _ _ _ h => h) (Or.inl ⟨by rfl, ?_⟩) (by assumption) ?_
      rotate_left 1
      · (intro w' hSw; (try dsimp only at hSw); go_simp; (try (with_reducible rfl)))
      try simp only [List.getElem_toArray, List.getElem_cons_zero, List.getElem_cons_succ, Act.put, List.setIfInBounds_toArray, List.set_cons_zero, List.set_cons_succ]
      refine wpAnyH_take (i := 12) (v := ?_) rfl (by decide +kernel) (by decide +kernel) (by decide +kernel) (fun _ _ _ h => h) (Or.inl ⟨by rfl, ?_⟩) (by assumption) ?_
      rotate_left 1
      · (intro w' hSw; (try dsimp only at hSw); go_simp; (try (with_reducible rfl)))
      try simp only [List.getElem_toArray, List.getElem_cons_zero, List.getElem_cons_succ, Act.put, List.setIfInBounds_toArray, List.set_cons_zero, List.set_cons_succ]
      refine wpAnyH_ready (rs := [0, 7]) (by decide +kernel) (by simp) ?_
      refine AllReadyH.cons rfl (fun K hK => ?_) (AllReadyH.cons rfl (fun K hK => ?_) AllReadyH.nil)
      · go_simp
        refine hK.out _ _ (HKS.out _ HD1.out) (fun hHeld => ?_)
        clear hK K
        try simp only [List.getElem_toArray, List.getElem_cons_zero, List.getElem_cons_succ, Act.put, List.setIfInBounds_toArray, List.set_cons_zero, List.set_cons_succ]
        refine wpAnyH_ready (rs := [5, 7]) (by decide +kernel) (by simp) ?_
        refine AllReadyH.cons rfl (fun K hK => ?_) (AllReadyH.cons rfl (fun K hK => ?_) AllReadyH.nil)
        · refine step_append_ky rfl (.tmp 44) (.tmp 48) rfl w6.heap.size (.slice (some ⟨w6.heap.size, 0, none⟩) 0 0) 0 [] (by rfl) HO1.out A k c (by rfl) (S.take k) HTk.out (fun e => HNl.out e) hkc ((HR.out.below (HBK.out _ HD1.out)).take k) (by omega) HD1.out.size ?_
          intro v1 w7 hown hg
          have HB7 : Hid (Below w6.heap.size w6 w7) := Lib.hid (below_grownk (B := w6.heap.size) HD1.out HO1.out hg (Nat.le_refl _) (Nat.le_refl _))
          have HO7 := Lib.hid hown
          clear hown hg
          refine hK.out _ _ (HKS.out _ HB7.out) (fun hHeld => ?_)
          clear hK K
          try simp only [List.getElem_toArray, List.getElem_cons_zero, List.getElem_cons_succ, Act.put, List.setIfInBounds_toArray, List.set_cons_zero, List.set_cons_succ]
          refine wpAnyH_ready (rs := [7]) (by decide +kernel) (by simp) ?_
          refine AllReadyH.cons rfl (fun K hK => ?_) AllReadyH.nil
          go_simp
          refine hK.out _ _ (HKS.out _ (HB7.out.alloc HB7.out.size _)) (fun hHeld => ?_)
          clear hK K
          try simp only [List.getElem_toArray, List.getElem_cons_zero, List.getElem_cons_succ, Act.put, List.setIfInBounds_toArray, List.set_cons_zero, List.set_cons_succ]
          refine wpAnyH_ready (rs := [8]) (by decide +kernel) (by simp) ?_
          refine AllReadyH.cons rfl (fun K hK => ?_) AllReadyH.nil
          refine step_append_ky rfl (.tmp 49) (.tmp 51) rfl w6.heap.size v1 (0 + k) ([] ++ S.take k) (by rfl) (HO7.out.alloc _) (some ⟨w7.heap.size, 0, none⟩) 1 1 (by rfl) [(h, t)] rfl (fun e => nomatch e) (Nat.le_refl _) (HK1.out _ _ (Deep.blk_alloc_new w7 _)) (by omega) ((HB7.out.alloc HB7.out.size _)).size ?_
          intro v2 w8 hown hg
          have HB8 : Hid (Below w6.heap.size w6 w8) := Lib.hid (below_grownk (B := w6.heap.size) (HB7.out.alloc HB7.out.size _) (HO7.out.alloc _) hg (Nat.le_refl _) (Nat.le_refl _))
          have HO8 := Lib.hid hown
          clear hown hg
          refine hK.out _ _ (HKS.out _ HB8.out) (fun hHeld => ?_)
          clear hK K
          try simp only [List.getElem_toArray, List.getElem_cons_zero, List.getElem_cons_succ, Act.put, List.setIfInBounds_toArray, List.set_cons_zero, List.set_cons_succ]
          refine wpAnyH_ready (rs := [13]) (by decide +kernel) (by simp) ?_
          refine AllReadyH.cons rfl (fun K hK => ?_) AllReadyH.nil
          refine step_append_ky rfl (.tmp 52) (.tmp 56) rfl w6.heap.size v2 (0 + k + 1) ([] ++ S.take k ++ [(h, t)]) (by rfl) HO8.out V q cq (by rfl) (S.drop k) HQd.out HVn.out hqc (HVR.out.below (HBK.out _ HB8.out)) (by omega) HB8.out.size ?_
          intro v3 w9 hown hg
          have HB9 : Hid (Below w6.heap.size w6 w9) := Lib.hid (below_grownk (B := w6.heap.size) HB8.out HO8.out hg (Nat.le_refl _) (Nat.le_refl _))
          have HS9 := Lib.hid (SlV.own hown)
          clear hown hg
          refine hK.out _ _ (HKS.out _ HB9.out) (fun hHeld => ?_)
          clear hK K
          try simp only [List.getElem_toArray, List.getElem_cons_zero, List.getElem_cons_succ, Act.put, List.setIfInBounds_toArray, List.set_cons_zero, List.set_cons_succ]
          refine wpAnyH_take (i := 14) (v := ?_) rfl (by decide +kernel) (by decide +kernel) (by decide +kernel) (fun _ _ _ h => h) (Or.inl ⟨by rfl, ?_⟩) (by assumption) ?_
          rotate_left 1
          · (intro w' hSw; (try dsimp only at hSw); go_simp; (try (with_reducible rfl)))
          try simp only [List.getElem_toArray, List.getElem_cons_zero, List.getElem_cons_succ, Act.put, List.setIfInBounds_toArray, List.set_cons_zero, List.set_cons_succ]
          refine wpAnyH_done (by decide +kernel) ?_ _
          intro K hK
          obtain ⟨R9, hR9⟩ : ∃ R9, R9 = [] ++ S.take k ++ [(h, t)] ++ S.drop k := ⟨_, rfl⟩
          rw [← hR9] at HS9
          have HXR : Hid (X = R9) := Lib.hid (by rw [hR9]; exact HRes.out)
          clear hR9
          obtain ⟨A9, c9, rfl, hs9⟩ := HS9.out
          clear HS9
          obtain ⟨l9, hl9⟩ : ∃ l9, l9 = R9.length := ⟨_, rfl⟩
          rw [← hl9] at hs9 ⊢
          have HS9 := Lib.hid hs9
          have HL9 := Lib.hid hl9
          clear hs9 hl9
          have hy0 := (HB9.out.block _ hl0).trans HY0.out
          have hy1 := (HB9.out.block _ hl1).trans HY1.out
          have HZ0 := Lib.hid hy0
          have HZ1 := Lib.hid hy1
          have y0 := cell_of_row w9 w.heap.size 0 _ _ _ hy0
          have y1 := cell_of_row w9 w.heap.size 1 _ _ _ hy0
          have y2 := cell_of_row w9 w.heap.size 2 _ _ _ hy0
          have r0 := cell_of_row w9 (w.heap.size + 1) 0 _ _ _ hy1
          have r1 := cell_of_row w9 (w.heap.size + 1) 1 _ _ _ hy1
          have r2 := cell_of_row w9 (w.heap.size + 1) 2 _ _ _ hy1
          have f0 := frozen_of_row w9 (w.heap.size + 1) 0 _ _ hy1
          have f1 := frozen_of_row w9 (w.heap.size + 1) 1 _ _ hy1
          have f2 := frozen_of_row w9 (w.heap.size + 1) 2 _ _ hy1
          have g2 := frozen_of_row w9 w.heap.size 2 _ _ hy0
          simp at y0 y1 y2 r0 r1 r2
          have hz0 : w.heap.size < w9.heap.size := (Array.getElem?_eq_some_iff.1 hy0).1
          have hz1 : w.heap.size + 1 < w9.heap.size := (Array.getElem?_eq_some_iff.1 hy1).1
          clear hy0 hy1
          go_simp
          refine hK.out _ _ ?_
          clear hK K
          try simp only [List.getElem_toArray, List.getElem_cons_zero, List.getElem_cons_succ, Act.put, List.setIfInBounds_toArray, List.set_cons_zero, List.set_cons_succ]
          go_wp2_with fail
          refine bodyPost_ret (v := .agg #[.int .i64 n, .int .i64 sd, .slice A9 l9 c9]) ?_ rfl ⟨⟨_, rfl, ?_⟩, ?_⟩
          · rw [results_cell1 rfl]; go_simp <;> rfl
          · rw [HXR.out]
            refine ⟨_, rfl, A9, c9, by rw [HL9.out], by rw [← HL9.out]; exact HS9.out.1, HS9.out.2.1, ?_⟩
            refine KR.grown (g := w.heap.size + 1) (KR.grown (g := w.heap.size) HS9.out.2.2 ((Gs.refl _ w9).set _) HZ0.out (by decide)) ((((Gs.refl _ _).set _).set _).set _) ((Below.heap_setCell w9 _ _ _ (by show w.heap.size + 1 ≠ w.heap.size; omega)).trans HZ1.out) (by decide)
          · refine Below.setCell (Below.setCell (Below.setCell (Below.setCell (HBK.out _ HB9.out) ?_ _) ?_ _) ?_ _) ?_ _ <;> (first | (show w.heap.size ≤ w.heap.size; omega) | (show w.heap.size ≤ w.heap.size + 1; omega))
        · go_simp
          refine hK.out _ _ (HKS.out _ HD3.out) (fun hHeld => ?_)
          clear hK K
          try simp only [List.getElem_toArray, List.getElem_cons_zero, List.getElem_cons_succ, Act.put, List.setIfInBounds_toArray, List.set_cons_zero, List.set_cons_succ]
          refine wpAnyH_ready (rs := [5]) (by decide +kernel) (by simp) ?_
          refine AllReadyH.cons rfl (fun K hK => ?_) AllReadyH.nil
          refine step_append_ky rfl (.tmp 44) (.tmp 48) rfl w6.heap.size (.slice (some ⟨w6.heap.size, 0, none⟩) 0 0) 0 [] (by rfl) HO3.out A k c (by rfl) (S.take k) HTk.out (fun e => HNl.out e) hkc ((HR.out.below (HBK.out _ HD3.out)).take k) (by omega) HD3.out.size ?_
          intro v1 w7 hown hg
          have HB7 : Hid (Below w6.heap.size w6 w7) := Lib.hid (below_grownk (B := w6.heap.size) HD3.out HO3.out hg (Nat.le_refl _) (Nat.le_refl _))
          have HO7 := Lib.hid hown
          have HX7 : Hid (w7.heap[w6.heap.size + 1]? = some (.cells #[.int .i64 h, .string t] 50 (0, 0))) := Lib.hid ((hg.block _ (Array.getElem?_eq_some_iff.1 HX3.out).1 (by simp [Value.ownBlock])).trans HX3.out)
          clear hown hg
          refine hK.out _ _ (HKS.out _ HB7.out) (fun hHeld => ?_)
          clear hK K
          try simp only [List.getElem_toArray, List.getElem_cons_zero, List.getElem_cons_succ, Act.put, List.setIfInBounds_toArray, List.set_cons_zero, List.set_cons_succ]
          refine wpAnyH_ready (rs := [8]) (by decide +kernel) (by simp) ?_
          refine AllReadyH.cons rfl (fun K hK => ?_) AllReadyH.nil
          refine step_append_ky rfl (.tmp 49) (.tmp 51) rfl w6.heap.size v1 (0 + k) ([] ++ S.take k) (by rfl) HO7.out (some ⟨w6.heap.size + 1, 0, none⟩) 1 1 (by rfl) [(h, t)] rfl (fun e => nomatch e) (Nat.le_refl _) (HK1.out _ _ HX7.out) (by omega) (HB7.out).size ?_
          intro v2 w8 hown hg
          have HB8 : Hid (Below w6.heap.size w6 w8) := Lib.hid (below_grownk (B := w6.heap.size) HB7.out HO7.out hg (Nat.le_refl _) (Nat.le_refl _))
          have HO8 := Lib.hid hown
          clear hown hg
          refine hK.out _ _ (HKS.out _ HB8.out) (fun hHeld => ?_)
          clear hK K
          try simp only [List.getElem_toArray, List.getElem_cons_zero, List.getElem_cons_succ, Act.put, List.setIfInBounds_toArray, List.set_cons_zero, List.set_cons_succ]
          refine wpAnyH_ready (rs := [13]) (by decide +kernel) (by simp) ?_
          refine AllReadyH.cons rfl (fun K hK => ?_) AllReadyH.nil
          refine step_append_ky rfl (.tmp 52) (.tmp 56) rfl w6.heap.size v2 (0 + k + 1) ([] ++ S.take k ++ [(h, t)]) (by rfl) HO8.out V q cq (by rfl) (S.drop k) HQd.out HVn.out hqc (HVR.out.below (HBK.out _ HB8.out)) (by omega) HB8.out.size ?_
          intro v3 w9 hown hg
          have HB9 : Hid (Below w6.heap.size w6 w9) := Lib.hid (below_grownk (B := w6.heap.size) HB8.out HO8.out hg (Nat.le_refl _) (Nat.le_refl _))
          have HS9 := Lib.hid (SlV.own hown)
          clear hown hg
          refine hK.out _ _ (HKS.out _ HB9.out) (fun hHeld => ?_)
          clear hK K
          try simp only [List.getElem_toArray, List.getElem_cons_zero, List.getElem_cons_succ, Act.put, List.setIfInBounds_toArray, List.set_cons_zero, List.set_cons_succ]
          refine wpAnyH_take (i := 14) (v := ?_) rfl (by decide +kernel) (by decide +kernel) (by decide +kernel) (fun _ _ _ h => h) (Or.inl ⟨by rfl, ?_⟩) (by assumption) ?_
          rotate_left 1
          · (intro w' hSw; (try dsimp only at hSw); go_simp; (try (with_reducible rfl)))
          try simp only [List.getElem_toArray, List.getElem_cons_zero, List.getElem_cons_succ, Act.put, List.setIfInBounds_toArray, List.set_cons_zero, List.set_cons_succ]
          refine wpAnyH_done (by decide +kernel) ?_ _
          intro K hK
          obtain ⟨R9, hR9⟩ : ∃ R9, R9 = [] ++ S.take k ++ [(h, t)] ++ S.drop k := ⟨_, rfl⟩
          rw [← hR9] at HS9
          have HXR : Hid (X = R9) := Lib.hid (by rw [hR9]; exact HRes.out)
          clear hR9
          obtain ⟨A9, c9, rfl, hs9⟩ := HS9.out
          clear HS9
          obtain ⟨l9, hl9⟩ : ∃ l9, l9 = R9.length := ⟨_, rfl⟩
          rw [← hl9] at hs9 ⊢
          have HS9 := Lib.hid hs9
          have HL9 := Lib.hid hl9
          clear hs9 hl9
          have hy0 := (HB9.out.block _ hl0).trans HY0.out
          have hy1 := (HB9.out.block _ hl1).trans HY1.out
          have HZ0 := Lib.hid hy0
          have HZ1 := Lib.hid hy1
          have y0 := cell_of_row w9 w.heap.size 0 _ _ _ hy0
          have y1 := cell_of_row w9 w.heap.size 1 _ _ _ hy0
          have y2 := cell_of_row w9 w.heap.size 2 _ _ _ hy0
          have r0 := cell_of_row w9 (w.heap.size + 1) 0 _ _ _ hy1
          have r1 := cell_of_row w9 (w.heap.size + 1) 1 _ _ _ hy1
          have r2 := cell_of_row w9 (w.heap.size + 1) 2 _ _ _ hy1
          have f0 := frozen_of_row w9 (w.heap.size + 1) 0 _ _ hy1
          have f1 := frozen_of_row w9 (w.heap.size + 1) 1 _ _ hy1
          have f2 := frozen_of_row w9 (w.heap.size + 1) 2 _ _ hy1
          have g2 := frozen_of_row w9 w.heap.size 2 _ _ hy0
          simp at y0 y1 y2 r0 r1 r2
          have hz0 : w.heap.size < w9.heap.size := (Array.getElem?_eq_some_iff.1 hy0).1
          have hz1 : w.heap.size + 1 < w9.heap.size := (Array.getElem?_eq_some_iff.1 hy1).1
          clear hy0 hy1
          go_simp
          refine hK.out _ _ ?_
          clear hK K
          try simp only [List.getElem_toArray, List.getElem_cons_zero, List.getElem_cons_succ, Act.put, List.setIfInBounds_toArray, List.set_cons_zero, List.set_cons_succ]
          go_wp2_with fail
          refine bodyPost_ret (v := .agg #[.int .i64 n, .int .i64 sd, .slice A9 l9 c9]) ?_ rfl ⟨⟨_, rfl, ?_⟩, ?_⟩
          · rw [results_cell1 rfl]; go_simp <;> rfl
          · rw [HXR.out]
            refine ⟨_, rfl, A9, c9, by rw [HL9.out], by rw [← HL9.out]; exact HS9.out.1, HS9.out.2.1, ?_⟩
            refine KR.grown (g := w.heap.size + 1) (KR.grown (g := w.heap.size) HS9.out.2.2 ((Gs.refl _ w9).set _) HZ0.out (by decide)) ((((Gs.refl _ _).set _).set _).set _) ((Below.heap_setCell w9 _ _ _ (by show w.heap.size + 1 ≠ w.heap.size; omega)).trans HZ1.out) (by decide)
          · refine Below.setCell (Below.setCell (Below.setCell (Below.setCell (HBK.out _ HB9.out) ?_ _) ?_ _) ?_ _) ?_ _ <;> (first | (show w.heap.size ≤ w.heap.size; omega) | (show w.heap.size ≤ w.heap.size + 1; omega))
      · go_simp
        refine hK.out _ _ (HKS.out _ HD0.out) (fun hHeld => ?_)
        clear hK K
        try simp only [List.getElem_toArray, List.getElem_cons_zero, List.getElem_cons_succ, Act.put, List.setIfInBounds_toArray, List.set_cons_zero, List.set_cons_succ]
        refine wpAnyH_ready (rs := [0]) (by decide +kernel) (by simp) ?_
        refine AllReadyH.cons rfl (fun K hK => ?_) AllReadyH.nil
        go_simp
        refine hK.out _ _ (HKS.out _ HD2.out) (fun hHeld => ?_)
        clear hK K
        try simp only [List.getElem_toArray, List.getElem_cons_zero, List.getElem_cons_succ, Act.put, List.setIfInBounds_toArray, List.set_cons_zero, List.set_cons_succ]
        refine wpAnyH_ready (rs := [5]) (by decide +kernel) (by simp) ?_
        refine AllReadyH.cons rfl (fun K hK => ?_) AllReadyH.nil
        refine step_append_ky rfl (.tmp 44) (.tmp 48) rfl w6.heap.size (.slice (some ⟨w6.heap.size + 1, 0, none⟩) 0 0) 0 [] (by rfl) HO2.out A k c (by rfl) (S.take k) HTk.out (fun e => HNl.out e) hkc ((HR.out.below (HBK.out _ HD2.out)).take k) (by omega) HD2.out.size ?_
        intro v1 w7 hown hg
        have HB7 : Hid (Below w6.heap.size w6 w7) := Lib.hid (below_grownk (B := w6.heap.size) HD2.out HO2.out hg (Nat.le_refl _) (Nat.le_refl _))
        have HO7 := Lib.hid hown
        have HX7 : Hid (w7.heap[w6.heap.size]? = some (.cells #[.int .i64 h, .string t] 50 (0, 0))) := Lib.hid ((hg.block _ (Array.getElem?_eq_some_iff.1 HX2.out).1 (by simp [Value.ownBlock])).trans HX2.out)
        clear hown hg
        refine hK.out _ _ (HKS.out _ HB7.out) (fun hHeld => ?_)
        clear hK K
        try simp only [List.getElem_toArray, List.getElem_cons_zero, List.getElem_cons_succ, Act.put, List.setIfInBounds_toArray, List.set_cons_zero, List.set_cons_succ]
        refine wpAnyH_ready (rs := [8]) (by decide +kernel) (by simp) ?_
        refine AllReadyH.cons rfl (fun K hK => ?_) AllReadyH.nil
        refine step_append_ky rfl (.tmp 49) (.tmp 51) rfl w6.heap.size v1 (0 + k) ([] ++ S.take k) (by rfl) HO7.out (some ⟨w6.heap.size, 0, none⟩) 1 1 (by rfl) [(h, t)] rfl (fun e => nomatch e) (Nat.le_refl _) (HK1.out _ _ HX7.out) (by omega) (HB7.out).size ?_
        intro v2 w8 hown hg
        have HB8 : Hid (Below w6.heap.size w6 w8) := Lib.hid (below_grownk (B := w6.heap.size) HB7.out HO7.out hg (Nat.le_refl _) (Nat.le_refl _))
        have HO8 := Lib.hid hown
        clear hown hg
        refine hK.out _ _ (HKS.out _ HB8.out) (fun hHeld => ?_)
        clear hK K
        try simp only [List.getElem_toArray, List.getElem_cons_zero, List.getElem_cons_succ, Act.put, List.setIfInBounds_toArray, List.set_cons_zero, List.set_cons_succ]
        refine wpAnyH_ready (rs := [13]) (by decide +kernel) (by simp) ?_
        refine AllReadyH.cons rfl (fun K hK => ?_) AllReadyH.nil
        refine step_append_ky rfl (.tmp 52) (.tmp 56) rfl w6.heap.size v2 (0 + k + 1) ([] ++ S.take k ++ [(h, t)]) (by rfl) HO8.out V q cq (by rfl) (S.drop k) HQd.out HVn.out hqc (HVR.out.below (HBK.out _ HB8.out)) (by omega) HB8.out.size ?_
        intro v3 w9 hown hg
        have HB9 : Hid (Below w6.heap.size w6 w9) := Lib.hid (below_grownk (B := w6.heap.size) HB8.out HO8.out hg (Nat.le_refl _) (Nat.le_refl _))
        have HS9 := Lib.hid (SlV.own hown)
        clear hown hg
        refine hK.out _ _ (HKS.out _ HB9.out) (fun hHeld => ?_)
        clear hK K
        try simp only [List.getElem_toArray, List.getElem_cons_zero, List.getElem_cons_succ, Act.put, List.setIfInBounds_toArray, List.set_cons_zero, List.set_cons_succ]
        refine wpAnyH_take (i := 14) (v := ?_) rfl (by decide +kernel) (by decide +kernel) (by decide +kernel) (fun _ _ _ h => h) (Or.inl ⟨by rfl, ?_⟩) (by assumption) ?_
        rotate_left 1
        · (intro w' hSw; (try dsimp only at hSw); go_simp; (try (with_reducible rfl)))
        try simp only [List.getElem_toArray, List.getElem_cons_zero, List.getElem_cons_succ, Act.put, List.setIfInBounds_toArray, List.set_cons_zero, List.set_cons_succ]
        refine wpAnyH_done (by decide +kernel) ?_ _
        intro K hK
        obtain ⟨R9, hR9⟩ : ∃ R9, R9 = [] ++ S.take k ++ [(h, t)] ++ S.drop k := ⟨_, rfl⟩
        rw [← hR9] at HS9
        have HXR : Hid (X = R9) := Lib.hid (by rw [hR9]; exact HRes.out)
        clear hR9
        obtain ⟨A9, c9, rfl, hs9⟩ := HS9.out
        clear HS9
        obtain ⟨l9, hl9⟩ : ∃ l9, l9 = R9.length := ⟨_, rfl⟩
        rw [← hl9] at hs9 ⊢
        have HS9 := Lib.hid hs9
        have HL9 := Lib.hid hl9
        clear hs9 hl9
        have hy0 := (HB9.out.block _ hl0).trans HY0.out
        have hy1 := (HB9.out.block _ hl1).trans HY1.out
        have HZ0 := Lib.hid hy0
        have HZ1 := Lib.hid hy1
        have y0 := cell_of_row w9 w.heap.size 0 _ _ _ hy0
        have y1 := cell_of_row w9 w.heap.size 1 _ _ _ hy0
        have y2 := cell_of_row w9 w.heap.size 2 _ _ _ hy0
        have r0 := cell_of_row w9 (w.heap.size + 1) 0 _ _ _ hy1
        have r1 := cell_of_row w9 (w.heap.size + 1) 1 _ _ _ hy1
        have r2 := cell_of_row w9 (w.heap.size + 1) 2 _ _ _ hy1
        have f0 := frozen_of_row w9 (w.heap.size + 1) 0 _ _ hy1
        have f1 := frozen_of_row w9 (w.heap.size + 1) 1 _ _ hy1
        have f2 := frozen_of_row w9 (w.heap.size + 1) 2 _ _ hy1
        have g2 := frozen_of_row w9 w.heap.size 2 _ _ hy0
        simp at y0 y1 y2 r0 r1 r2
        have hz0 : w.heap.size < w9.heap.size := (Array.getElem?_eq_some_iff.1 hy0).1
        have hz1 : w.heap.size + 1 < w9.heap.size := (Array.getElem?_eq_some_iff.1 hy1).1
        clear hy0 hy1
        go_simp
        refine hK.out _ _ ?_
        clear hK K
        try simp only [List.getElem_toArray, List.getElem_cons_zero, List.getElem_cons_succ, Act.put, List.setIfInBounds_toArray, List.set_cons_zero, List.set_cons_succ]
        go_wp2_with fail
        refine bodyPost_ret (v := .agg #[.int .i64 n, .int .i64 sd, .slice A9 l9 c9]) ?_ rfl ⟨⟨_, rfl, ?_⟩, ?_⟩
        · rw [results_cell1 rfl]; go_simp <;> rfl
        · rw [HXR.out]
          refine ⟨_, rfl, A9, c9, by rw [HL9.out], by rw [← HL9.out]; exact HS9.out.1, HS9.out.2.1, ?_⟩
          refine KR.grown (g := w.heap.size + 1) (KR.grown (g := w.heap.size) HS9.out.2.2 ((Gs.refl _ w9).set _) HZ0.out (by decide)) ((((Gs.refl _ _).set _).set _).set _) ((Below.heap_setCell w9 _ _ _ (by show w.heap.size + 1 ≠ w.heap.size; omega)).trans HZ1.out) (by decide)
        · refine Below.setCell (Below.setCell (Below.setCell (Below.setCell (HBK.out _ HB9.out) ?_ _) ?_ _) ?_ _) ?_ _ <;> (first | (show w.heap.size ≤ w.heap.size; omega) | (show w.heap.size ≤ w.heap.size + 1; omega))
end Go.Proofs.Ytajainkaomkbjaa
