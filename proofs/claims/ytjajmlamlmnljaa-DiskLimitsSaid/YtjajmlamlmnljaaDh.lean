/- find (written by wip/bin/gen_dh26.py). -/
import Derived.Test.YtjajmlamlmnljaaDg
import Derived.Deep.Onto
namespace Go.Proofs.Ytjajmlamlmnljaa
open Go.ChangeShapes Go.WideShapes Go.ChangeAt Go.RowKit Go.Joins Go.Maps Go.ChangeMaps Go.MapKept

theorem below_setRow {B : Nat} {a w : World} {g : Nat} {cs : Array Value} (h : Below B a w) (hg : B ≤ g) : Below B a (w.setRow g cs) :=
  ⟨h.os, h.tape, h.output, by simpa using h.size, fun i hi => (setRow_other w g i cs (by omega)).trans (h.block i hi)⟩
theorem one_file (r : Rw) : (#[r.sl, .int .i64 r.s, .bool r.d] : Array Value).all (·.oneCell') = true := by simp [Value.oneCell', Rw.sl]
theorem str_info : (Try.prog.info? 9).map (fun i => (i.zero, i.size, i.bytes)) = some (some (.string ⟨#[]⟩), 1, 16) := by kernel_rfl
/-- What find returns: a file's record, an error. -/
noncomputable def fnE (S : Ds) (names : List ByteArray) (k : ByteArray) : Rw × Int := if ckE S.dn names = 0 then (if hs S.fs k then ((gt S.fs k).1, 0) else (default, 10)) else (default, ckE S.dn names)
theorem wpList_getm_okx {w : World} {ops : Array Oper} {rest : List Oper} {o : Oper} {a : Act} {Q : Exit → Act → World → Prop} (hg : o.guard = none) (m x : Operand) (hop : o.op = Op.lookup 63 m x true) (mp : Option Nat) (L : List (Ct Rw)) (hm : a.eval m = .map mp) (h : Mp w mp L) (k : ByteArray) (hk : k.size ≤ 1000000) (hx : a.eval x = .string k) (r : Rw) (hr : gt L k = r) (b : Bool) (hb : decide (hs L k) = b)
    (hK : wpList Try.prog ops Q rest (a.put o.dst (.tuple #[.agg #[r.sl, .int .i64 r.s, .bool r.d], .bool b])) w) : wpList Try.prog ops Q (o :: rest) a w := by
  subst hr hb
  exact wpList_getm_ok hg m x hop mp L hm h k hk hx hK
set_option maxRecDepth 100000 in
set_option maxHeartbeats 4000000 in
theorem find0_any (B p : Nat) (S : Ds) (k : ByteArray) (hk : k.size ≤ 1000000) (w : World) (hD : Dk w B p S) :
    Calls Try.prog 44 #[.pointer (some ⟨p, 0, none⟩), .string k, .slice none 0 0] w fun e w' => e = .returned (.tuple #[(fnE S [k] k).1.val, .int .i64 (fnE S [k] k).2]) ∧ Below w.heap.size w w' := by
  obtain ⟨i0, hi0, hz0, hz1, hz2⟩ := info_parts str_info
  obtain ⟨W0, hW0⟩ : ∃ W0 : World, W0 = w.alloc (.cells #[.slice none 0 0, .int .i64 0, .bool false] 69) := ⟨_, rfl⟩
  have hz : W0.heap.size = w.heap.size + 1 := by rw [hW0]; simp
  have hb0 : Below w.heap.size w W0 := by rw [hW0]; exact (Below.refl _ _).alloc (Nat.le_refl _) _
  have hg0 : W0.heap[w.heap.size]? = some (.cells #[.slice none 0 0, .int .i64 0, .bool false] 69 (0, 0)) := by rw [hW0]; exact Deep.blk_alloc_new _ _
  obtain ⟨W1, hW1⟩ : ∃ W1 : World, W1 = W0.alloc (.cells #[.string k] 9) := ⟨_, rfl⟩
  have hb1 : Below W0.heap.size W0 W1 := by rw [hW1]; exact (Below.refl _ _).alloc (Nat.le_refl _) _
  have hz1' : W1.heap.size = w.heap.size + 2 := by rw [hW1]; simp [hz]
  have hk1 : W1.heap[w.heap.size + 1]? = some (.cells #[.string k] 9 (0, 0)) := by
    rw [hW1]
    have := Deep.blk_alloc_new W0 (.cells #[.string k] 9)
    rw [hz] at this; exact this
  have hO : W1.ownsRow (w.heap.size + 1) 9 1 (.slice (some ⟨w.heap.size + 1, 0, none⟩) 1 1) 1 ([k].map Value.string) := ⟨rfl, .inr ⟨w.heap.size + 1, 1, #[.string k], rfl, Nat.le_refl _, hk1, Nat.le_refl _, by unfold maxLen; decide, rfl, rfl⟩⟩
  have HO := Lib.hid hO
  have HB1 := Lib.hid (hb0.trans (hb1.mono hb0.size))
  have HG0 := Lib.hid ((hb1.block w.heap.size (by omega)).trans hg0)
  have HDk := Lib.hid hD
  have HSb : Hid ((Try.prog.info? 69).map (fun i => i.size) = some 3) := Lib.hid (by kernel_rfl)
  have HE : Hid (fnE S [k] k = if ckE S.dn [k] = 0 then (if hs S.fs k then ((gt S.fs k).1, 0) else (default, 10)) else (default, ckE S.dn [k])) := Lib.hid rfl
  obtain ⟨E, hE⟩ : ∃ E, E = fnE S [k] k := ⟨_, rfl⟩
  rw [← hE] at HE ⊢
  have HCk := Lib.hid (check_any p S (some ⟨w.heap.size + 1, 0, none⟩) 1 [k] (by simp) (by intro s h; simp at h; rw [h]; exact hk) W1 (HDk.out.below HB1.out).blk (Rd.own HO.out))
  dsimp only [List.length_cons, List.length_nil] at HCk
  have hWr := hW1
  rw [hW0] at hWr
  have HWr := Lib.hid hWr
  have Hi0 := Lib.hid hi0
  have Hz0 := Lib.hid hz0
  have Hz1 := Lib.hid hz1
  have Hz2 := Lib.hid hz2
  have HZ1 := Lib.hid hz1'
  clear hE hW0 hW1 hWr hb0 hb1 hg0 hk1 hO hz hi0 hz0 hz1 hz2 hz1' hD
  go_enter Try.func44, Try.ntmps44
  go_wp2_with (at_builtin; (try rw [← HWr.out]); go_loud (refine wpList_append_own_none rfl (.tmp 13) (.tmp 14) 41 rfl (w.heap.size + 1) 9 i0 1 Try.underlying41 Hi0.out (.slice (some ⟨w.heap.size + 1, 0, none⟩) 1 1) 1 ([k].map Value.string) rfl HO.out rfl ?_))
  have HB3 := HB1
  have HG3 := HG0
  have HZ3 := HZ1
  refine (HCk.out).mono ?_
  rintro e w4 ⟨rfl, hb4⟩
  have HB4 := Lib.hid (HB3.out.trans (hb4.mono HB3.out.size))
  have HG4 := Lib.hid ((hb4.block w.heap.size (by have := HB3.out.size; have := HZ3.out; omega)).trans HG3.out)
  have hp4 : w.heap.size < w4.heap.size := by have := hb4.size; have := HZ3.out; omega
  have HP4 := Lib.hid hp4
  have HD4 := Lib.hid (HDk.out.below HB4.out)
  obtain ⟨z, hz⟩ : ∃ z, z = ckE S.dn [k] := ⟨_, rfl⟩
  rw [← hz] at HE ⊢
  clear hb4 hz
  by_cases h0 : z = 0
  · have d0 : (z != 0) = false := by simpa using h0
    have c1 := cell_of_row _ _ 1 _ _ _ HD4.out.blk
    simp [Ds.row] at c1
    have HM := Lib.hid HD4.out.mp
    have hE2 := HE.out
    rw [if_pos h0] at hE2
    have HE2 := Lib.hid hE2
    obtain ⟨b, hbb⟩ : ∃ b, b = decide (hs (mv Prod.fst S.fs) k) := ⟨_, rfl⟩
    obtain ⟨r, hr⟩ : ∃ r, r = gt (mv Prod.fst S.fs) k := ⟨_, rfl⟩
    have HR : Hid (b = true → E = (r, 0)) := Lib.hid (fun h => by
      rw [hbb, decide_eq_true_eq, hs_mv] at h
      rw [hE2, if_pos h, hr, gt_mv _ _ _ h])
    have HN : Hid (b = false → E = (default, 10)) := Lib.hid (fun h => by
      rw [hbb, decide_eq_false_iff_not, hs_mv] at h
      rw [hE2, if_neg h])
    have Hr := Lib.hid hr.symm
    have Hb := Lib.hid hbb.symm
    clear hE2 hbb hr h0
    have hA : (w4.alloc (.cells #[.slice none 0 0, .int .i64 0, .bool false] 69)).heap[w4.heap.size]? = some (.cells #[.slice none 0 0, .int .i64 0, .bool false] 69 (0, 0)) := Deep.blk_alloc_new _ _
    have hX : ((w4.alloc (.cells #[.slice none 0 0, .int .i64 0, .bool false] 69)).setRow w4.heap.size #[r.sl, .int .i64 (r.s : Int), .bool r.d]).heap[w.heap.size]? = some (.cells #[.slice none 0 0, .int .i64 0, .bool false] 69 (0, 0)) := (setRow_other _ _ _ _ (by have := HP4.out; omega)).trans ((Below.heap_alloc _ _ _ HP4.out).trans HG4.out)
    have hB6 : Below w.heap.size w ((w4.alloc (.cells #[.slice none 0 0, .int .i64 0, .bool false] 69)).setRow w4.heap.size #[r.sl, .int .i64 (r.s : Int), .bool r.d]) := below_setRow (HB4.out.alloc HB4.out.size _) (Nat.le_of_lt HP4.out)
    have hy := setRow_heap (w4.alloc (.cells #[.slice none 0 0, .int .i64 0, .bool false] 69)) w4.heap.size _ #[r.sl, .int .i64 (r.s : Int), .bool r.d] _ _ hA
    have y0 := cell_of_row _ _ 0 _ _ _ hy
    have y1 := cell_of_row _ _ 1 _ _ _ hy
    have y2 := cell_of_row _ _ 2 _ _ _ hy
    simp at y0 y1 y2
    have HA := Lib.hid hA
    have HX := Lib.hid hX
    have HB6 := Lib.hid hB6
    clear hA hX hB6 hy
    cases b with
    | false =>
      have HEn := Lib.hid (HN.out rfl)
      go_wp2_with (first
        | (at_lookup; go_loud (refine wpList_getm_okx rfl (.tmp 25) (.tmp 26) rfl S.mp (mv Prod.fst S.fs) rfl HM.out k hk rfl r Hr.out false Hb.out ?_))
        | (refine wpList_store_row rfl _ _ _ rfl w4.heap.size #[r.sl, .int .i64 (r.s : Int), .bool r.d] rfl rfl 69 _ HA.out HSb.out rfl (one_file r) ?_)
        | (refine wpList_store_row rfl _ _ _ rfl w.heap.size #[.slice none 0 0, .int .i64 0, .bool false] rfl rfl 69 _ HX.out HSb.out rfl (one_file default) ?_))
      have ho := setRow_heap ((w4.alloc (.cells #[.slice none 0 0, .int .i64 0, .bool false] 69)).setRow w4.heap.size #[r.sl, .int .i64 (r.s : Int), .bool r.d]) w.heap.size _ #[.slice none 0 0, .int .i64 0, .bool false] _ _ HX.out
      have k0 := cell_of_row _ _ 0 _ _ _ ho
      have k1 := cell_of_row _ _ 1 _ _ _ ho
      have k2 := cell_of_row _ _ 2 _ _ _ ho
      simp at k0 k1 k2
      refine bodyPost_ret (v := .tuple #[.agg #[.slice none 0 0, .int .i64 0, .bool false], .int .i64 10]) ?_ rfl ⟨by rw [HEn.out]; rfl, below_setRow HB6.out (Nat.le_refl _)⟩
      rw [results_cell_tmp1 rfl]; go_simp <;> rfl
    | true =>
      have HEn := Lib.hid (HR.out rfl)
      go_wp2_with (first
        | (at_lookup; go_loud (refine wpList_getm_okx rfl (.tmp 25) (.tmp 26) rfl S.mp (mv Prod.fst S.fs) rfl HM.out k hk rfl r Hr.out true Hb.out ?_))
        | (refine wpList_store_row rfl _ _ _ rfl w4.heap.size #[r.sl, .int .i64 (r.s : Int), .bool r.d] rfl rfl 69 _ HA.out HSb.out rfl (one_file r) ?_)
        | (refine wpList_store_row rfl _ _ _ rfl w.heap.size #[r.sl, .int .i64 (r.s : Int), .bool r.d] rfl rfl 69 _ HX.out HSb.out rfl (one_file r) ?_))
      have ho := setRow_heap ((w4.alloc (.cells #[.slice none 0 0, .int .i64 0, .bool false] 69)).setRow w4.heap.size #[r.sl, .int .i64 (r.s : Int), .bool r.d]) w.heap.size _ #[r.sl, .int .i64 (r.s : Int), .bool r.d] _ _ HX.out
      have k0 := cell_of_row _ _ 0 _ _ _ ho
      have k1 := cell_of_row _ _ 1 _ _ _ ho
      have k2 := cell_of_row _ _ 2 _ _ _ ho
      simp at k0 k1 k2
      refine bodyPost_ret (v := .tuple #[.agg #[r.sl, .int .i64 (r.s : Int), .bool r.d], .int .i64 0]) ?_ rfl ⟨by rw [HEn.out]; rfl, below_setRow HB6.out (Nat.le_refl _)⟩
      rw [results_cell_tmp1 rfl]; go_simp <;> rfl
  · have d0 : (z != 0) = true := by simpa using h0
    have HEn := Lib.hid (show E = (default, z) by rw [HE.out, if_neg h0])
    clear h0
    go_wp2_with (refine wpList_store_row rfl _ _ _ rfl w.heap.size #[.slice none 0 0, .int .i64 0, .bool false] rfl rfl 69 _ HG4.out HSb.out rfl (one_file default) ?_)
    have ho := setRow_heap w4 w.heap.size _ #[.slice none 0 0, .int .i64 0, .bool false] _ _ HG4.out
    have k0 := cell_of_row _ _ 0 _ _ _ ho
    have k1 := cell_of_row _ _ 1 _ _ _ ho
    have k2 := cell_of_row _ _ 2 _ _ _ ho
    simp at k0 k1 k2
    refine bodyPost_ret (v := .tuple #[.agg #[.slice none 0 0, .int .i64 0, .bool false], .int .i64 z]) ?_ rfl ⟨by rw [HEn.out]; rfl, below_setRow HB4.out (Nat.le_refl _)⟩
    rw [results_cell_tmp1 rfl]; go_simp <;> rfl
set_option maxRecDepth 100000 in
set_option maxHeartbeats 4000000 in
theorem find1_any (B p : Nat) (S : Ds) (k : ByteArray) (hk : k.size ≤ 1000000) (ad : Addr) (c : Nat) (k2 : ByteArray) (hk2 : k2.size ≤ 1000000) (w : World) (hD : Dk w B p S) (hR : Rd Value.string w (some ad) [k2]) :
    Calls Try.prog 44 #[.pointer (some ⟨p, 0, none⟩), .string k, .slice (some ad) 1 c] w fun e w' => e = .returned (.tuple #[(fnE S [k, k2] k).1.val, .int .i64 (fnE S [k, k2] k).2]) ∧ Below w.heap.size w w' := by
  obtain ⟨i0, hi0, hz0, hz1, hz2⟩ := info_parts str_info
  obtain ⟨W0, hW0⟩ : ∃ W0 : World, W0 = w.alloc (.cells #[.slice none 0 0, .int .i64 0, .bool false] 69) := ⟨_, rfl⟩
  have hz : W0.heap.size = w.heap.size + 1 := by rw [hW0]; simp
  have hb0 : Below w.heap.size w W0 := by rw [hW0]; exact (Below.refl _ _).alloc (Nat.le_refl _) _
  have hg0 : W0.heap[w.heap.size]? = some (.cells #[.slice none 0 0, .int .i64 0, .bool false] 69 (0, 0)) := by rw [hW0]; exact Deep.blk_alloc_new _ _
  obtain ⟨W1, hW1⟩ : ∃ W1 : World, W1 = W0.alloc (.cells #[.string k] 9) := ⟨_, rfl⟩
  have hb1 : Below W0.heap.size W0 W1 := by rw [hW1]; exact (Below.refl _ _).alloc (Nat.le_refl _) _
  have hz1' : W1.heap.size = w.heap.size + 2 := by rw [hW1]; simp [hz]
  have hk1 : W1.heap[w.heap.size + 1]? = some (.cells #[.string k] 9 (0, 0)) := by
    rw [hW1]
    have := Deep.blk_alloc_new W0 (.cells #[.string k] 9)
    rw [hz] at this; exact this
  have hO : W1.ownsRow (w.heap.size + 1) 9 1 (.slice (some ⟨w.heap.size + 1, 0, none⟩) 1 1) 1 ([k].map Value.string) := ⟨rfl, .inr ⟨w.heap.size + 1, 1, #[.string k], rfl, Nat.le_refl _, hk1, Nat.le_refl _, by unfold maxLen; decide, rfl, rfl⟩⟩
  have HO := Lib.hid hO
  have HB1 := Lib.hid (hb0.trans (hb1.mono hb0.size))
  have HG0 := Lib.hid ((hb1.block w.heap.size (by omega)).trans hg0)
  have HDk := Lib.hid hD
  have HSb : Hid ((Try.prog.info? 69).map (fun i => i.size) = some 3) := Lib.hid (by kernel_rfl)
  have HE : Hid (fnE S [k, k2] k = if ckE S.dn [k, k2] = 0 then (if hs S.fs k then ((gt S.fs k).1, 0) else (default, 10)) else (default, ckE S.dn [k, k2])) := Lib.hid rfl
  obtain ⟨E, hE⟩ : ∃ E, E = fnE S [k, k2] k := ⟨_, rfl⟩
  rw [← hE] at HE ⊢
  have HR := Lib.hid (hR.below (hb0.trans (hb1.mono hb0.size)))
  have hnw : ∀ j u, ([k2].map Value.string)[j]? = some u → W1.cell? (ad.add j) = some u := by
    intro j u hu
    have hj : j < [k2].length := by
      have := (List.getElem?_eq_some_iff.1 hu).1
      simpa using this
    obtain ⟨b, off, e, _, h3⟩ := HR.out j hj
    injection e with e
    subst e
    have hj0 : j = 0 := by simpa using hj
    subst hj0
    rw [add_flat]
    simp at hu h3
    rw [← hu]; exact h3
  have HNw := Lib.hid hnw
  clear hnw hR
  have hWr := hW1
  rw [hW0] at hWr
  have HWr := Lib.hid hWr
  have Hi0 := Lib.hid hi0
  have Hz0 := Lib.hid hz0
  have Hz1 := Lib.hid hz1
  have Hz2 := Lib.hid hz2
  have HZ1 := Lib.hid hz1'
  clear hE hW0 hW1 hWr hb0 hb1 hg0 hk1 hO hz hi0 hz0 hz1 hz2 hz1' hD
  go_enter Try.func44, Try.ntmps44
  go_wp2_with (at_builtin; (try rw [← HWr.out]); go_loud (refine wpList_append_own _ rfl (.tmp 13) (.tmp 14) 41 rfl (w.heap.size + 1) 9 i0 _ 1 16 Try.underlying41 Hi0.out Hz0.out Hz1.out Hz2.out rfl (by omega) (.slice (some ⟨w.heap.size + 1, 0, none⟩) 1 1) 1 ([k].map Value.string) rfl HO.out ad 1 c ([k2].map Value.string) rfl rfl HNw.out (by simp [Value.oneCell']) (by unfold maxLen; omega) (by omega) (by have := HZ1.out; omega) ?_); go_loud (intro v3 w3 hown hg _); go_loud (obtain ⟨g3, c3, rfl, _, _, _⟩ := own_pos hown (by omega)); have HO3 := Lib.hid hown; have HBq := Lib.hid (below_grownBy (B := w.heap.size + 1) (a := W1) (Below.refl _ _) HO.out hg (Nat.le_refl _) (by have := HZ1.out; omega)); clear hown hg)
  have HB3 := Lib.hid (HB1.out.trans (HBq.out.mono (Nat.le_succ _)))
  have HG3 := Lib.hid ((HBq.out.block w.heap.size (by omega)).trans HG0.out)
  have HZ3 : Hid (w.heap.size + 2 ≤ w3.heap.size) := Lib.hid (by have := HBq.out.size; have := HZ1.out; omega)
  have HCk := Lib.hid (check_any p S (some ⟨g3, 0, none⟩) c3 [k, k2] (by simp) (by intro s h; simp at h; rcases h with h | h <;> rw [h] <;> assumption) w3 (HDk.out.below HB3.out).blk (Rd.own HO3.out))
  dsimp only [List.length_cons, List.length_nil] at HCk
  refine (HCk.out).mono ?_
  rintro e w4 ⟨rfl, hb4⟩
  have HB4 := Lib.hid (HB3.out.trans (hb4.mono HB3.out.size))
  have HG4 := Lib.hid ((hb4.block w.heap.size (by have := HB3.out.size; have := HZ3.out; omega)).trans HG3.out)
  have hp4 : w.heap.size < w4.heap.size := by have := hb4.size; have := HZ3.out; omega
  have HP4 := Lib.hid hp4
  have HD4 := Lib.hid (HDk.out.below HB4.out)
  obtain ⟨z, hz⟩ : ∃ z, z = ckE S.dn [k, k2] := ⟨_, rfl⟩
  rw [← hz] at HE ⊢
  clear hb4 hz
  by_cases h0 : z = 0
  · have d0 : (z != 0) = false := by simpa using h0
    have c1 := cell_of_row _ _ 1 _ _ _ HD4.out.blk
    simp [Ds.row] at c1
    have HM := Lib.hid HD4.out.mp
    have hE2 := HE.out
    rw [if_pos h0] at hE2
    have HE2 := Lib.hid hE2
    obtain ⟨b, hbb⟩ : ∃ b, b = decide (hs (mv Prod.fst S.fs) k) := ⟨_, rfl⟩
    obtain ⟨r, hr⟩ : ∃ r, r = gt (mv Prod.fst S.fs) k := ⟨_, rfl⟩
    have HR : Hid (b = true → E = (r, 0)) := Lib.hid (fun h => by
      rw [hbb, decide_eq_true_eq, hs_mv] at h
      rw [hE2, if_pos h, hr, gt_mv _ _ _ h])
    have HN : Hid (b = false → E = (default, 10)) := Lib.hid (fun h => by
      rw [hbb, decide_eq_false_iff_not, hs_mv] at h
      rw [hE2, if_neg h])
    have Hr := Lib.hid hr.symm
    have Hb := Lib.hid hbb.symm
    clear hE2 hbb hr h0
    have hA : (w4.alloc (.cells #[.slice none 0 0, .int .i64 0, .bool false] 69)).heap[w4.heap.size]? = some (.cells #[.slice none 0 0, .int .i64 0, .bool false] 69 (0, 0)) := Deep.blk_alloc_new _ _
    have hX : ((w4.alloc (.cells #[.slice none 0 0, .int .i64 0, .bool false] 69)).setRow w4.heap.size #[r.sl, .int .i64 (r.s : Int), .bool r.d]).heap[w.heap.size]? = some (.cells #[.slice none 0 0, .int .i64 0, .bool false] 69 (0, 0)) := (setRow_other _ _ _ _ (by have := HP4.out; omega)).trans ((Below.heap_alloc _ _ _ HP4.out).trans HG4.out)
    have hB6 : Below w.heap.size w ((w4.alloc (.cells #[.slice none 0 0, .int .i64 0, .bool false] 69)).setRow w4.heap.size #[r.sl, .int .i64 (r.s : Int), .bool r.d]) := below_setRow (HB4.out.alloc HB4.out.size _) (Nat.le_of_lt HP4.out)
    have hy := setRow_heap (w4.alloc (.cells #[.slice none 0 0, .int .i64 0, .bool false] 69)) w4.heap.size _ #[r.sl, .int .i64 (r.s : Int), .bool r.d] _ _ hA
    have y0 := cell_of_row _ _ 0 _ _ _ hy
    have y1 := cell_of_row _ _ 1 _ _ _ hy
    have y2 := cell_of_row _ _ 2 _ _ _ hy
    simp at y0 y1 y2
    have HA := Lib.hid hA
    have HX := Lib.hid hX
    have HB6 := Lib.hid hB6
    clear hA hX hB6 hy
    cases b with
    | false =>
      have HEn := Lib.hid (HN.out rfl)
      go_wp2_with (first
        | (at_lookup; go_loud (refine wpList_getm_okx rfl (.tmp 25) (.tmp 26) rfl S.mp (mv Prod.fst S.fs) rfl HM.out k hk rfl r Hr.out false Hb.out ?_))
        | (refine wpList_store_row rfl _ _ _ rfl w4.heap.size #[r.sl, .int .i64 (r.s : Int), .bool r.d] rfl rfl 69 _ HA.out HSb.out rfl (one_file r) ?_)
        | (refine wpList_store_row rfl _ _ _ rfl w.heap.size #[.slice none 0 0, .int .i64 0, .bool false] rfl rfl 69 _ HX.out HSb.out rfl (one_file default) ?_))
      have ho := setRow_heap ((w4.alloc (.cells #[.slice none 0 0, .int .i64 0, .bool false] 69)).setRow w4.heap.size #[r.sl, .int .i64 (r.s : Int), .bool r.d]) w.heap.size _ #[.slice none 0 0, .int .i64 0, .bool false] _ _ HX.out
      have k0 := cell_of_row _ _ 0 _ _ _ ho
      have k1 := cell_of_row _ _ 1 _ _ _ ho
      have k2 := cell_of_row _ _ 2 _ _ _ ho
      simp at k0 k1 k2
      refine bodyPost_ret (v := .tuple #[.agg #[.slice none 0 0, .int .i64 0, .bool false], .int .i64 10]) ?_ rfl ⟨by rw [HEn.out]; rfl, below_setRow HB6.out (Nat.le_refl _)⟩
      rw [results_cell_tmp1 rfl]; go_simp <;> rfl
    | true =>
      have HEn := Lib.hid (HR.out rfl)
      go_wp2_with (first
        | (at_lookup; go_loud (refine wpList_getm_okx rfl (.tmp 25) (.tmp 26) rfl S.mp (mv Prod.fst S.fs) rfl HM.out k hk rfl r Hr.out true Hb.out ?_))
        | (refine wpList_store_row rfl _ _ _ rfl w4.heap.size #[r.sl, .int .i64 (r.s : Int), .bool r.d] rfl rfl 69 _ HA.out HSb.out rfl (one_file r) ?_)
        | (refine wpList_store_row rfl _ _ _ rfl w.heap.size #[r.sl, .int .i64 (r.s : Int), .bool r.d] rfl rfl 69 _ HX.out HSb.out rfl (one_file r) ?_))
      have ho := setRow_heap ((w4.alloc (.cells #[.slice none 0 0, .int .i64 0, .bool false] 69)).setRow w4.heap.size #[r.sl, .int .i64 (r.s : Int), .bool r.d]) w.heap.size _ #[r.sl, .int .i64 (r.s : Int), .bool r.d] _ _ HX.out
      have k0 := cell_of_row _ _ 0 _ _ _ ho
      have k1 := cell_of_row _ _ 1 _ _ _ ho
      have k2 := cell_of_row _ _ 2 _ _ _ ho
      simp at k0 k1 k2
      refine bodyPost_ret (v := .tuple #[.agg #[r.sl, .int .i64 (r.s : Int), .bool r.d], .int .i64 0]) ?_ rfl ⟨by rw [HEn.out]; rfl, below_setRow HB6.out (Nat.le_refl _)⟩
      rw [results_cell_tmp1 rfl]; go_simp <;> rfl
  · have d0 : (z != 0) = true := by simpa using h0
    have HEn := Lib.hid (show E = (default, z) by rw [HE.out, if_neg h0])
    clear h0
    go_wp2_with (refine wpList_store_row rfl _ _ _ rfl w.heap.size #[.slice none 0 0, .int .i64 0, .bool false] rfl rfl 69 _ HG4.out HSb.out rfl (one_file default) ?_)
    have ho := setRow_heap w4 w.heap.size _ #[.slice none 0 0, .int .i64 0, .bool false] _ _ HG4.out
    have k0 := cell_of_row _ _ 0 _ _ _ ho
    have k1 := cell_of_row _ _ 1 _ _ _ ho
    have k2 := cell_of_row _ _ 2 _ _ _ ho
    simp at k0 k1 k2
    refine bodyPost_ret (v := .tuple #[.agg #[.slice none 0 0, .int .i64 0, .bool false], .int .i64 z]) ?_ rfl ⟨by rw [HEn.out]; rfl, below_setRow HB4.out (Nat.le_refl _)⟩
    rw [results_cell_tmp1 rfl]; go_simp <;> rfl
end Go.Proofs.Ytjajmlamlmnljaa
