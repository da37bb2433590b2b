/- begin (written by wip/bin/gen_di26.py). -/
import Derived.Test.YtjajmlamlmnljaaDh
namespace Go.Proofs.Ytjajmlamlmnljaa
open Go.ChangeShapes Go.WideShapes Go.ChangeAt Go.RowKit Go.Joins Go.Maps Go.ChangeMaps Go.MapKept

/-- A disk whose block alone has turned. -/
theorem Dk.flag {w w' : World} {B p : Nat} {S S' : Ds} (h : Dk w B p S) (hm : S'.mp = S.mp) (hf : S'.fs = S.fs) (hd : w'.heap[p]? = some (.cells S'.row 65 (0, 0))) (hT : Tn (· = p) w w') : Dk w' B p S' := by
  refine ⟨hd, h.lo, (fun e => by rw [hf]; exact h.non (by rw [← hm]; exact e)), fun b e => ?_, by rw [hf]; exact h.sd, fun x hx => ?_, by rw [hf]; exact h.apart⟩
  · rw [hm] at e
    have hb := h.map b e
    have hne : b ≠ p := fun e' => by
      obtain ⟨es, c, h2⟩ := hb.2.block
      rw [e', h.blk] at h2; cases h2
    exact ⟨hb.1, by rw [hf]; exact hb.2.keep (hT.block b hb.2.lt hne)⟩
  · rw [hf] at hx
    refine (h.rows x hx).keep fun g hg => hT.block g ((h.rows x hx).lt hg).2 fun e' => ?_
    have e' : g = p := e'
    obtain ⟨cs, m, h2⟩ := (h.rows x hx).cells hg
    rw [e', h.blk] at h2
    injection h2 with h2
    injection h2 with _ h2 _
    exact absurd h2 (by decide)
theorem opS_mp (S : Ds) : (opS S).1.mp = S.mp ∧ (opS S).1.fs = S.fs ∧ (opS S).1.cap = S.cap := by unfold opS; split; exact ⟨rfl, rfl, rfl⟩; split <;> exact ⟨rfl, rfl, rfl⟩
/-- What begin returns, and what it makes of the disk. -/
noncomputable def bgE (S : Ds) (names : List ByteArray) (k : ByteArray) : Ds × Rw × Int := if (fnE S names k).2 = 0 then ((opS S).1, (fnE S names k).1, (opS S).2) else (S, (fnE S names k).1, (fnE S names k).2)
theorem bg_mp (S : Ds) (names : List ByteArray) (k : ByteArray) : (bgE S names k).1.mp = S.mp ∧ (bgE S names k).1.fs = S.fs ∧ (bgE S names k).1.cap = S.cap := by unfold bgE; split; exact opS_mp S; exact ⟨rfl, rfl, rfl⟩
theorem alloc_setRow (w : World) (cs cs' : Array Value) (t : TypeId) : (w.alloc (.cells cs t)).setRow w.heap.size cs' = w.alloc (.cells cs' t) := by
  have h : (w.heap.push (Obj.cells cs t)).modify w.heap.size (fun | .cells _ elem frozen => .cells cs' elem frozen | o => o) = w.heap.push (Obj.cells cs' t) := by
    apply Array.ext_getElem?
    intro i
    rw [Array.getElem?_modify, Array.getElem?_push, Array.getElem?_push]
    by_cases e : i = w.heap.size
    · subst e; simp
    · have e' : w.heap.size ≠ i := fun h => e h.symm
      simp [e, e']
  show ({ w with heap := (w.heap.push (Obj.cells cs t)).modify w.heap.size (fun | .cells _ elem frozen => .cells cs' elem frozen | o => o) } : World) = { w with heap := w.heap.push (Obj.cells cs' t) }
  rw [h]
/-- A file's box is no block of a disk. -/
theorem dk_file {w : World} {B p i : Nat} {S : Ds} {cs : Array Value} (h : Dk w B p S) (hf : w.heap[i]? = some (.cells cs 69 (0, 0))) (hi : S.ft p i) : False := by
  rcases hi with rfl | hi | ⟨x, hx, hi⟩
  · rw [h.blk] at hf; injection hf with hf; injection hf with _ hf _; exact absurd hf (by decide)
  · obtain ⟨es, c, h2⟩ := (h.map i hi).2.block
    rw [h2] at hf; cases hf
  · obtain ⟨cs', m, h2⟩ := (h.rows x hx).cells hi
    rw [h2] at hf; injection hf with hf; injection hf with _ hf _; exact absurd hf (by decide)
theorem Tn.of_setRow (w : World) (g : Nat) (cs : Array Value) : Tn (· = g) w (w.setRow g cs) :=
  ⟨rfl, rfl, rfl, by simp, fun i _ h => setRow_other w g i cs h⟩
set_option maxRecDepth 100000 in
set_option maxHeartbeats 4000000 in
theorem begin0_any (B p : Nat) (S : Ds) (hl : 0 ≤ S.lft ∧ S.lft ≤ 9223372036854775807) (k : ByteArray) (hk : k.size ≤ 1000000) (w : World) (hD : Dk w B p S) :
    Calls Try.prog 45 #[.pointer (some ⟨p, 0, none⟩), .string k, .slice none 0 0] w fun e w' => e = .returned (.tuple #[(bgE S [k] k).2.1.val, .int .i64 (bgE S [k] k).2.2]) ∧ Dk w' B p (bgE S [k] k).1 ∧ Tn (· = p) w w' := by
  obtain ⟨W0, hW0⟩ : ∃ W0 : World, W0 = w.alloc (.cells #[.slice none 0 0, .int .i64 0, .bool false] 69) := ⟨_, rfl⟩
  have hz : W0.heap.size = w.heap.size + 1 := by rw [hW0]; simp
  have hb0 : Below w.heap.size w W0 := by rw [hW0]; exact (Below.refl _ _).alloc (Nat.le_refl _) _
  have hg0 : W0.heap[w.heap.size]? = some (.cells #[.slice none 0 0, .int .i64 0, .bool false] 69 (0, 0)) := by rw [hW0]; exact Deep.blk_alloc_new _ _
  have hcl := find0_any B p S k hk W0 (hD.below hb0)
  have HSb : Hid ((Try.prog.info? 69).map (fun i => i.size) = some 3) := Lib.hid (by kernel_rfl)
  have HE : Hid (bgE S [k] k = if (fnE S [k] k).2 = 0 then ((opS S).1, (fnE S [k] k).1, (opS S).2) else (S, (fnE S [k] k).1, (fnE S [k] k).2)) := Lib.hid rfl
  obtain ⟨E, hE⟩ : ∃ E, E = bgE S [k] k := ⟨_, rfl⟩
  rw [← hE] at HE ⊢
  obtain ⟨fr, hfr⟩ : ∃ fr, fr = fnE S [k] k := ⟨_, rfl⟩
  rw [← hfr] at HE hcl
  obtain ⟨r, z⟩ := fr
  have hcl' : Calls Try.prog 44 #[.pointer (some ⟨p, 0, none⟩), .string k, .slice none 0 0] W0 fun e w' => e = .returned (.tuple #[.agg #[r.sl, .int .i64 (r.s : Int), .bool r.d], .int .i64 z]) ∧ Below W0.heap.size W0 w' := hcl
  have HCl := Lib.hid hcl'
  have HB0 := Lib.hid hb0
  have HG0 := Lib.hid hg0
  have HW := Lib.hid hW0
  have HDk := Lib.hid hD
  have HZ := Lib.hid hz
  have hp := hD.lt
  clear hcl hcl' hE hfr hW0 hb0 hg0 hz hD
  go_enter Try.func45, Try.ntmps45
  go_wp2_with fail
  rw [← HW.out]
  refine HCl.out.mono ?_
  rintro e w1 ⟨rfl, hb1⟩
  have HB1 := Lib.hid (HB0.out.trans (hb1.mono HB0.out.size))
  have HG1 := Lib.hid ((hb1.block w.heap.size (by have := HZ.out; omega)).trans HG0.out)
  have hp1 : w.heap.size < w1.heap.size := by have := hb1.size; have := HZ.out; omega
  obtain ⟨W2, hW2⟩ : ∃ W2, W2 = w1.alloc (.cells #[r.sl, .int .i64 (r.s : Int), .bool r.d] 69) := ⟨_, rfl⟩
  have hb2 : Below w1.heap.size w1 W2 := by rw [hW2]; exact (Below.refl _ _).alloc (Nat.le_refl _) _
  have HB2 := Lib.hid (HB1.out.trans (hb2.mono HB1.out.size))
  have HG2 := Lib.hid ((hb2.block w.heap.size hp1).trans HG1.out)
  have HX2 : Hid (W2.heap[w1.heap.size]? = some (.cells #[r.sl, .int .i64 (r.s : Int), .bool r.d] 69 (0, 0))) := Lib.hid (by rw [hW2]; exact Deep.blk_alloc_new _ _)
  have HD2 := Lib.hid (HDk.out.below HB2.out)
  have HOp := Lib.hid (operate_any p S hl W2 HD2.out.blk)
  have HA : Hid ((w1.alloc (.cells #[.slice none 0 0, .int .i64 0, .bool false] 69)).heap[w1.heap.size]? = some (.cells #[.slice none 0 0, .int .i64 0, .bool false] 69 (0, 0))) := Lib.hid (Deep.blk_alloc_new _ _)
  have HW2 : Hid (W2 = (w1.alloc (.cells #[.slice none 0 0, .int .i64 0, .bool false] 69)).setRow w1.heap.size #[r.sl, .int .i64 (r.s : Int), .bool r.d]) := Lib.hid (by rw [hW2]; exact (alloc_setRow _ _ _ _).symm)
  have HP1 := Lib.hid hp1
  clear hb1 hp1 hW2 hb2
  by_cases h0 : z = 0
  · subst h0
    have hE2 := HE.out
    rw [if_pos rfl] at hE2
    have HE2 := Lib.hid hE2
    clear hE2
    obtain ⟨os, hos⟩ : ∃ os, os = opS S := ⟨_, rfl⟩
    have HOm := Lib.hid (opS_mp S)
    rw [← hos] at HE2 HOp HOm
    obtain ⟨S2, z2⟩ := os
    clear hos
    dsimp only at HE2 HOp HOm
    go_wp2_with (go_loud (refine wpList_store_row rfl _ _ _ rfl w1.heap.size #[r.sl, .int .i64 (r.s : Int), .bool r.d] rfl rfl 69 _ HA.out HSb.out rfl (one_file r) ?_))
    rw [← HW2.out]
    refine HOp.out.mono ?_
    rintro e w3 ⟨rfl, hd3, hT3⟩
    have HD3 := Lib.hid (HD2.out.flag HOm.out.1 HOm.out.2.1 hd3 hT3)
    have HT3 := Lib.hid ((Tn.of HB2.out : Tn (· = p) w W2).trans hT3 (fun i h => .inl h))
    have hx3 := (hT3.block w1.heap.size (Array.getElem?_eq_some_iff.1 HX2.out).1 (by show w1.heap.size ≠ p; have := HP1.out; omega)).trans HX2.out
    have HG3 := Lib.hid ((hT3.block w.heap.size (Array.getElem?_eq_some_iff.1 HG2.out).1 (by show w.heap.size ≠ p; omega)).trans HG2.out)
    have y0 := cell_of_row _ _ 0 _ _ _ hx3
    have y1 := cell_of_row _ _ 1 _ _ _ hx3
    have y2 := cell_of_row _ _ 2 _ _ _ hx3
    simp at y0 y1 y2
    clear hd3 hT3 hx3
    go_wp2_with (go_loud (refine wpList_store_row rfl _ _ _ rfl w.heap.size #[r.sl, .int .i64 (r.s : Int), .bool r.d] rfl rfl 69 _ HG3.out HSb.out rfl (one_file r) ?_))
    have ho := setRow_heap w3 w.heap.size _ #[r.sl, .int .i64 (r.s : Int), .bool r.d] _ _ HG3.out
    have k0 := cell_of_row _ _ 0 _ _ _ ho
    have k1 := cell_of_row _ _ 1 _ _ _ ho
    have k2 := cell_of_row _ _ 2 _ _ _ ho
    simp at k0 k1 k2
    refine bodyPost_ret (v := .tuple #[.agg #[r.sl, .int .i64 (r.s : Int), .bool r.d], .int .i64 z2]) ?_ rfl ⟨by rw [HE2.out]; rfl, ?_, ?_⟩
    · rw [results_cell_tmp1 rfl]; go_simp <;> rfl
    · rw [HE2.out]
      exact HD3.out.keep fun i hi => setRow_other _ _ _ _ (fun e => by
        subst e
        have h3 := HD3.out
        exact dk_file h3 HG3.out hi)
    · exact HT3.out.trans (Tn.of_setRow _ _ _) (fun i h => .inr (by rw [h]; exact Nat.le_refl _))
  · have d0 : (z == 0) = false := by simpa using h0
    have HE2 := Lib.hid (show E = (S, r, z) by rw [HE.out, if_neg h0])
    clear h0
    have y0 := cell_of_row _ _ 0 _ _ _ HX2.out
    have y1 := cell_of_row _ _ 1 _ _ _ HX2.out
    have y2 := cell_of_row _ _ 2 _ _ _ HX2.out
    simp at y0 y1 y2
    rw [HW2.out] at y0 y1 y2
    have hg2 := HG2.out
    rw [HW2.out] at hg2
    have HG2r := Lib.hid hg2
    clear hg2
    go_wp2_with (first
      | (refine wpList_store_row rfl _ _ _ rfl w1.heap.size #[r.sl, .int .i64 (r.s : Int), .bool r.d] rfl rfl 69 _ HA.out HSb.out rfl (one_file r) ?_)
      | (go_loud (refine wpList_store_row rfl _ _ _ rfl w.heap.size #[r.sl, .int .i64 (r.s : Int), .bool r.d] rfl rfl 69 _ HG2r.out HSb.out rfl (one_file r) ?_)))
    rw [← HW2.out]
    have ho := setRow_heap W2 w.heap.size _ #[r.sl, .int .i64 (r.s : Int), .bool r.d] _ _ HG2.out
    have k0 := cell_of_row _ _ 0 _ _ _ ho
    have k1 := cell_of_row _ _ 1 _ _ _ ho
    have k2 := cell_of_row _ _ 2 _ _ _ ho
    simp at k0 k1 k2
    refine bodyPost_ret (v := .tuple #[.agg #[r.sl, .int .i64 (r.s : Int), .bool r.d], .int .i64 z]) ?_ rfl ⟨by rw [HE2.out]; rfl, ?_, ?_⟩
    · rw [results_cell_tmp1 rfl]; go_simp <;> rfl
    · rw [HE2.out]
      exact HD2.out.keep fun i hi => setRow_other _ _ _ _ (fun e => by
        subst e
        exact dk_file HD2.out HG2.out hi)
    · exact (Tn.of (below_setRow HB2.out (Nat.le_refl _)))
set_option maxRecDepth 100000 in
set_option maxHeartbeats 4000000 in
theorem begin1_any (B p : Nat) (S : Ds) (hl : 0 ≤ S.lft ∧ S.lft ≤ 9223372036854775807) (k : ByteArray) (hk : k.size ≤ 1000000) (ad : Addr) (c : Nat) (k2 : ByteArray) (hk2 : k2.size ≤ 1000000) (w : World) (hD : Dk w B p S) (hR : Rd Value.string w (some ad) [k2]) :
    Calls Try.prog 45 #[.pointer (some ⟨p, 0, none⟩), .string k, .slice (some ad) 1 c] w fun e w' => e = .returned (.tuple #[(bgE S [k, k2] k).2.1.val, .int .i64 (bgE S [k, k2] k).2.2]) ∧ Dk w' B p (bgE S [k, k2] k).1 ∧ Tn (· = p) w w' := by
  obtain ⟨W0, hW0⟩ : ∃ W0 : World, W0 = w.alloc (.cells #[.slice none 0 0, .int .i64 0, .bool false] 69) := ⟨_, rfl⟩
  have hz : W0.heap.size = w.heap.size + 1 := by rw [hW0]; simp
  have hb0 : Below w.heap.size w W0 := by rw [hW0]; exact (Below.refl _ _).alloc (Nat.le_refl _) _
  have hg0 : W0.heap[w.heap.size]? = some (.cells #[.slice none 0 0, .int .i64 0, .bool false] 69 (0, 0)) := by rw [hW0]; exact Deep.blk_alloc_new _ _
  have hcl := find1_any B p S k hk ad c k2 hk2 W0 (hD.below hb0) (hR.below hb0)
  have HSb : Hid ((Try.prog.info? 69).map (fun i => i.size) = some 3) := Lib.hid (by kernel_rfl)
  have HE : Hid (bgE S [k, k2] k = if (fnE S [k, k2] k).2 = 0 then ((opS S).1, (fnE S [k, k2] k).1, (opS S).2) else (S, (fnE S [k, k2] k).1, (fnE S [k, k2] k).2)) := Lib.hid rfl
  obtain ⟨E, hE⟩ : ∃ E, E = bgE S [k, k2] k := ⟨_, rfl⟩
  rw [← hE] at HE ⊢
  obtain ⟨fr, hfr⟩ : ∃ fr, fr = fnE S [k, k2] k := ⟨_, rfl⟩
  rw [← hfr] at HE hcl
  obtain ⟨r, z⟩ := fr
  have hcl' : Calls Try.prog 44 #[.pointer (some ⟨p, 0, none⟩), .string k, .slice (some ad) 1 c] W0 fun e w' => e = .returned (.tuple #[.agg #[r.sl, .int .i64 (r.s : Int), .bool r.d], .int .i64 z]) ∧ Below W0.heap.size W0 w' := hcl
  have HCl := Lib.hid hcl'
  have HB0 := Lib.hid hb0
  have HG0 := Lib.hid hg0
  have HW := Lib.hid hW0
  have HDk := Lib.hid hD
  have HZ := Lib.hid hz
  have hp := hD.lt
  clear hcl hcl' hE hfr hW0 hb0 hg0 hz hD
  go_enter Try.func45, Try.ntmps45
  go_wp2_with fail
  rw [← HW.out]
  refine HCl.out.mono ?_
  rintro e w1 ⟨rfl, hb1⟩
  have HB1 := Lib.hid (HB0.out.trans (hb1.mono HB0.out.size))
  have HG1 := Lib.hid ((hb1.block w.heap.size (by have := HZ.out; omega)).trans HG0.out)
  have hp1 : w.heap.size < w1.heap.size := by have := hb1.size; have := HZ.out; omega
  obtain ⟨W2, hW2⟩ : ∃ W2, W2 = w1.alloc (.cells #[r.sl, .int .i64 (r.s : Int), .bool r.d] 69) := ⟨_, rfl⟩
  have hb2 : Below w1.heap.size w1 W2 := by rw [hW2]; exact (Below.refl _ _).alloc (Nat.le_refl _) _
  have HB2 := Lib.hid (HB1.out.trans (hb2.mono HB1.out.size))
  have HG2 := Lib.hid ((hb2.block w.heap.size hp1).trans HG1.out)
  have HX2 : Hid (W2.heap[w1.heap.size]? = some (.cells #[r.sl, .int .i64 (r.s : Int), .bool r.d] 69 (0, 0))) := Lib.hid (by rw [hW2]; exact Deep.blk_alloc_new _ _)
  have HD2 := Lib.hid (HDk.out.below HB2.out)
  have HOp := Lib.hid (operate_any p S hl W2 HD2.out.blk)
  have HA : Hid ((w1.alloc (.cells #[.slice none 0 0, .int .i64 0, .bool false] 69)).heap[w1.heap.size]? = some (.cells #[.slice none 0 0, .int .i64 0, .bool false] 69 (0, 0))) := Lib.hid (Deep.blk_alloc_new _ _)
  have HW2 : Hid (W2 = (w1.alloc (.cells #[.slice none 0 0, .int .i64 0, .bool false] 69)).setRow w1.heap.size #[r.sl, .int .i64 (r.s : Int), .bool r.d]) := Lib.hid (by rw [hW2]; exact (alloc_setRow _ _ _ _).symm)
  have HP1 := Lib.hid hp1
  clear hb1 hp1 hW2 hb2
  by_cases h0 : z = 0
  · subst h0
    have hE2 := HE.out
    rw [if_pos rfl] at hE2
    have HE2 := Lib.hid hE2
    clear hE2
    obtain ⟨os, hos⟩ : ∃ os, os = opS S := ⟨_, rfl⟩
    have HOm := Lib.hid (opS_mp S)
    rw [← hos] at HE2 HOp HOm
    obtain ⟨S2, z2⟩ := os
    clear hos
    dsimp only at HE2 HOp HOm
    go_wp2_with (go_loud (refine wpList_store_row rfl _ _ _ rfl w1.heap.size #[r.sl, .int .i64 (r.s : Int), .bool r.d] rfl rfl 69 _ HA.out HSb.out rfl (one_file r) ?_))
    rw [← HW2.out]
    refine HOp.out.mono ?_
    rintro e w3 ⟨rfl, hd3, hT3⟩
    have HD3 := Lib.hid (HD2.out.flag HOm.out.1 HOm.out.2.1 hd3 hT3)
    have HT3 := Lib.hid ((Tn.of HB2.out : Tn (· = p) w W2).trans hT3 (fun i h => .inl h))
    have hx3 := (hT3.block w1.heap.size (Array.getElem?_eq_some_iff.1 HX2.out).1 (by show w1.heap.size ≠ p; have := HP1.out; omega)).trans HX2.out
    have HG3 := Lib.hid ((hT3.block w.heap.size (Array.getElem?_eq_some_iff.1 HG2.out).1 (by show w.heap.size ≠ p; omega)).trans HG2.out)
    have y0 := cell_of_row _ _ 0 _ _ _ hx3
    have y1 := cell_of_row _ _ 1 _ _ _ hx3
    have y2 := cell_of_row _ _ 2 _ _ _ hx3
    simp at y0 y1 y2
    clear hd3 hT3 hx3
    go_wp2_with (go_loud (refine wpList_store_row rfl _ _ _ rfl w.heap.size #[r.sl, .int .i64 (r.s : Int), .bool r.d] rfl rfl 69 _ HG3.out HSb.out rfl (one_file r) ?_))
    have ho := setRow_heap w3 w.heap.size _ #[r.sl, .int .i64 (r.s : Int), .bool r.d] _ _ HG3.out
    have k0 := cell_of_row _ _ 0 _ _ _ ho
    have k1 := cell_of_row _ _ 1 _ _ _ ho
    have k2 := cell_of_row _ _ 2 _ _ _ ho
    simp at k0 k1 k2
    refine bodyPost_ret (v := .tuple #[.agg #[r.sl, .int .i64 (r.s : Int), .bool r.d], .int .i64 z2]) ?_ rfl ⟨by rw [HE2.out]; rfl, ?_, ?_⟩
    · rw [results_cell_tmp1 rfl]; go_simp <;> rfl
    · rw [HE2.out]
      exact HD3.out.keep fun i hi => setRow_other _ _ _ _ (fun e => by
        subst e
        have h3 := HD3.out
        exact dk_file h3 HG3.out hi)
    · exact HT3.out.trans (Tn.of_setRow _ _ _) (fun i h => .inr (by rw [h]; exact Nat.le_refl _))
  · have d0 : (z == 0) = false := by simpa using h0
    have HE2 := Lib.hid (show E = (S, r, z) by rw [HE.out, if_neg h0])
    clear h0
    have y0 := cell_of_row _ _ 0 _ _ _ HX2.out
    have y1 := cell_of_row _ _ 1 _ _ _ HX2.out
    have y2 := cell_of_row _ _ 2 _ _ _ HX2.out
    simp at y0 y1 y2
    rw [HW2.out] at y0 y1 y2
    have hg2 := HG2.out
    rw [HW2.out] at hg2
    have HG2r := Lib.hid hg2
    clear hg2
    go_wp2_with (first
      | (refine wpList_store_row rfl _ _ _ rfl w1.heap.size #[r.sl, .int .i64 (r.s : Int), .bool r.d] rfl rfl 69 _ HA.out HSb.out rfl (one_file r) ?_)
      | (go_loud (refine wpList_store_row rfl _ _ _ rfl w.heap.size #[r.sl, .int .i64 (r.s : Int), .bool r.d] rfl rfl 69 _ HG2r.out HSb.out rfl (one_file r) ?_)))
    rw [← HW2.out]
    have ho := setRow_heap W2 w.heap.size _ #[r.sl, .int .i64 (r.s : Int), .bool r.d] _ _ HG2.out
    have k0 := cell_of_row _ _ 0 _ _ _ ho
    have k1 := cell_of_row _ _ 1 _ _ _ ho
    have k2 := cell_of_row _ _ 2 _ _ _ ho
    simp at k0 k1 k2
    refine bodyPost_ret (v := .tuple #[.agg #[r.sl, .int .i64 (r.s : Int), .bool r.d], .int .i64 z]) ?_ rfl ⟨by rw [HE2.out]; rfl, ?_, ?_⟩
    · rw [results_cell_tmp1 rfl]; go_simp <;> rfl
    · rw [HE2.out]
      exact HD2.out.keep fun i hi => setRow_other _ _ _ _ (fun e => by
        subst e
        exact dk_file HD2.out HG2.out hi)
    · exact (Tn.of (below_setRow HB2.out (Nat.le_refl _)))
end Go.Proofs.Ytjajmlamlmnljaa
