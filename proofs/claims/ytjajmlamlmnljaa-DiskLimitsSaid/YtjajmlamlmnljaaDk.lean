/- Remove, Rename. -/
import Derived.Test.YtjajmlamlmnljaaDj
namespace Go.Proofs.Ytjajmlamlmnljaa
open Go.ChangeShapes Go.WideShapes Go.ChangeAt Go.RowKit Go.Joins Go.Maps Go.ChangeMaps Go.MapKept

theorem Dk.del {w w' : World} {B p : Nat} {S : Ds} (h : Dk w B p S) {b : Nat} (hb : S.mp = some b) {k : ByteArray} (hH : Hm w' b (dl (mv Prod.fst S.fs) k)) (hg : w.grownBy w' (some b)) : Dk w' B p { S with fs := dl S.fs k } := by
  have hm := h.map b hb
  have hne : ¬ some p = some b := fun e => by
    injection e with e
    obtain ⟨es, c, h2⟩ := hm.2.block
    rw [← e, h.blk] at h2; cases h2
  refine ⟨(hg.block p h.lt (fun e => hne e)).trans h.blk, h.lo, (fun e => by rw [hb] at e; cases e), fun b' e => ?_, sd_dl h.sd k, fun x hx => (h.rows x (mem_dl.1 hx).1).apart hm.2 hg, h.apart.filter _⟩
  rw [hb] at e
  injection e with e
  subst e
  exact ⟨hm.1, by rw [dl_mv]; exact hH⟩
theorem box_grown {w w' : World} {g b : Nat} {cs : Array Value} {L : List (Ct Rw)} (h : w.heap[g]? = some (.cells cs 69 (0, 0))) (hm : Hm w b L) (hg : w.grownBy w' (some b)) : w'.heap[g]? = some (.cells cs 69 (0, 0)) :=
  (hg.block g (Array.getElem?_eq_some_iff.1 h).1 (fun e => by
    injection e with e
    obtain ⟨es, c, h2⟩ := hm.block
    rw [e, h2] at h; cases h)).trans h
set_option maxRecDepth 100000 in
set_option maxHeartbeats 4000000 in
theorem remove_any (B p : Nat) (S : Ds) (hl : 0 ≤ S.lft ∧ S.lft ≤ 9223372036854775807) (k : ByteArray) (hk : k.size ≤ 1000000) (w : World) (hD : Dk w B p S) :
    Calls Try.prog 26 #[.pointer (some ⟨p, 0, none⟩), .string k] w fun e w' => e = .returned (.int .i64 (rmS S k).2) ∧ Dk w' B p (rmS S k).1 ∧ Tn (fun i => i = p ∨ S.mp = some i) w w' := by
  have HBg := Lib.hid (begin0_any B p S hl k hk w hD)
  have HE : Hid (rmS S k = if (bgE S [k] k).2.2 = 0 then ({ (bgE S [k] k).1 with fs := dl S.fs k }, 0) else ((bgE S [k] k).1, (bgE S [k] k).2.2)) := Lib.hid rfl
  obtain ⟨E, hE⟩ : ∃ E, E = rmS S k := ⟨_, rfl⟩
  rw [← hE] at HE ⊢
  have HOk := Lib.hid (@bg_ok S [k] k)
  have HMp := Lib.hid (bg_mp S [k] k)
  obtain ⟨g, hg⟩ : ∃ g, g = bgE S [k] k := ⟨_, rfl⟩
  rw [← hg] at HBg HE HOk HMp
  obtain ⟨S2, r, z⟩ := g
  dsimp only at HBg HE HOk HMp
  have HDk := Lib.hid hD
  have HV : Hid (r.val = .agg #[r.sl, .int .i64 (r.s : Int), .bool r.d]) := Lib.hid rfl
  rw [HV.out] at HBg
  clear hE hg hD HV
  go_enter Try.func26, Try.ntmps26
  go_wp2_with fail
  refine HBg.out.mono ?_
  rintro e w1 ⟨rfl, hd1, hT1⟩
  have HD1 := Lib.hid hd1
  have HT1 := Lib.hid hT1
  clear hd1 hT1
  obtain ⟨w2, hw2⟩ : ∃ w2, w2 = w1.alloc (.cells #[r.sl, .int .i64 (r.s : Int), .bool r.d] 69) := ⟨_, rfl⟩
  have hb2 : Below w1.heap.size w1 w2 := by rw [hw2]; exact (Below.refl _ _).alloc (Nat.le_refl _) _
  have HD2 := Lib.hid (HD1.out.below hb2)
  have HT2 := Lib.hid (HT1.out.trans (Tn.of hb2 : Tn (· = p) w1 w2) (fun i h => .inl h))
  have HA : Hid ((w1.alloc (.cells #[.slice none 0 0, .int .i64 0, .bool false] 69)).heap[w1.heap.size]? = some (.cells #[.slice none 0 0, .int .i64 0, .bool false] 69 (0, 0))) := Lib.hid (Deep.blk_alloc_new _ _)
  have HW2 : Hid (w2 = (w1.alloc (.cells #[.slice none 0 0, .int .i64 0, .bool false] 69)).setRow w1.heap.size #[r.sl, .int .i64 (r.s : Int), .bool r.d]) := Lib.hid (by rw [hw2]; exact (alloc_setRow _ _ _ _).symm)
  have HSb : Hid ((Try.prog.info? 69).map (fun i => i.size) = some 3) := Lib.hid (by kernel_rfl)
  clear hw2 hb2
  by_cases h0 : z = 0
  · subst h0
    have hE2 := HE.out
    rw [if_pos rfl] at hE2
    have HE2 := Lib.hid hE2
    obtain ⟨hh, hr⟩ := HOk.out rfl
    obtain ⟨b, hb⟩ := HDk.out.hasmap hh
    have hm2 : S2.mp = some b := HMp.out.1.trans hb
    have HM2 := Lib.hid hm2
    have HMb := Lib.hid hb
    have HF2 := Lib.hid HMp.out.2.1
    have HH := Lib.hid (HD2.out.map b hm2).2
    have c1 := cell_of_row _ _ 1 _ _ _ HD2.out.blk
    simp [Ds.row] at c1
    rw [hm2, HW2.out] at c1
    clear hE2 hh hr hb hm2
    go_wp2_with (first
      | (at_delete; (try rw [← HW2.out]); go_loud (refine wpList_del rfl (.tmp 19) (.tmp 20) rfl b (mv Prod.fst S2.fs) rfl HH.out k hk rfl ?_); intro w3 hm3 hg3; have HM3 := Lib.hid hm3; have HG3 := Lib.hid hg3; clear hm3 hg3)
      | (refine wpList_store_row rfl _ _ _ rfl w1.heap.size #[r.sl, .int .i64 (r.s : Int), .bool r.d] rfl rfl 69 _ HA.out HSb.out rfl (one_file r) ?_))
    go_ret
    rw [HE2.out]
    refine ⟨rfl, ?_, HT2.out.trans' (Tn.grown (F := fun i => i = b) HG3.out (fun i e => by injection e with e; exact e.symm)) (fun i h => .inl h) (fun i h => .inr (by rw [HMb.out, h]))⟩
    have h := HD2.out.del HM2.out HM3.out HG3.out
    rw [HF2.out] at h
    exact h
  · have d0 : (z != 0) = true := by simpa using h0
    have HE2 := Lib.hid (show E = (S2, z) by rw [HE.out, if_neg h0])
    clear h0
    go_wp2_with (go_loud (refine wpList_store_row rfl _ _ _ rfl w1.heap.size #[r.sl, .int .i64 (r.s : Int), .bool r.d] rfl rfl 69 _ HA.out HSb.out rfl (one_file r) ?_))
    try rw [← HW2.out]
    go_ret
    rw [HE2.out]
    exact ⟨rfl, HD2.out, HT2.out.imp (fun i h => .inl h)⟩
/-- What Rename does. -/
noncomputable def rnL (fs : List (Ct Fl)) (k k2 : ByteArray) : List (Ct Fl) := pt (dl fs k) k2 (gt fs k)
noncomputable def rnS (S : Ds) (k k2 : ByteArray) : Ds × Int := if (bgE S [k, k2] k).2.2 = 0 then ({ (bgE S [k, k2] k).1 with fs := rnL S.fs k k2 }, 0) else ((bgE S [k, k2] k).1, (bgE S [k, k2] k).2.2)
set_option maxRecDepth 100000 in
set_option maxHeartbeats 4000000 in
theorem rename_any (B p : Nat) (S : Ds) (hl : 0 ≤ S.lft ∧ S.lft ≤ 9223372036854775807) (hfl : S.fs.length ≤ 100000) (k k2 : ByteArray) (hk : k.size ≤ 1000000) (hk2 : k2.size ≤ 1000000) (w : World) (hB : B ≤ w.heap.size) (hD : Dk w B p S) :
    Calls Try.prog 25 #[.pointer (some ⟨p, 0, none⟩), .string k, .string k2] w fun e w' => e = .returned (.int .i64 (rnS S k k2).2) ∧ Dk w' B p (rnS S k k2).1 ∧ Tn (fun i => i = p ∨ S.mp = some i) w w' := by
  obtain ⟨W0, hW0⟩ : ∃ W0 : World, W0 = w.alloc (.cells #[.string k2] 9) := ⟨_, rfl⟩
  have hz : W0.heap.size = w.heap.size + 1 := by rw [hW0]; simp
  have hb0 : Below w.heap.size w W0 := by rw [hW0]; exact (Below.refl _ _).alloc (Nat.le_refl _) _
  have hk0 : W0.heap[w.heap.size]? = some (.cells #[.string k2] 9 (0, 0)) := by rw [hW0]; exact Deep.blk_alloc_new _ _
  have hO : W0.ownsRow w.heap.size 9 1 (.slice (some ⟨w.heap.size, 0, none⟩) 1 1) 1 ([k2].map Value.string) := ⟨rfl, .inr ⟨w.heap.size, 1, #[.string k2], rfl, Nat.le_refl _, hk0, Nat.le_refl _, by unfold maxLen; decide, rfl, rfl⟩⟩
  have HBg := Lib.hid (begin1_any B p S hl k hk ⟨w.heap.size, 0, none⟩ 1 k2 hk2 W0 (hD.below hb0) (Rd.own hO))
  have HE : Hid (rnS S k k2 = if (bgE S [k, k2] k).2.2 = 0 then ({ (bgE S [k, k2] k).1 with fs := rnL S.fs k k2 }, 0) else ((bgE S [k, k2] k).1, (bgE S [k, k2] k).2.2)) := Lib.hid rfl
  obtain ⟨E, hE⟩ : ∃ E, E = rnS S k k2 := ⟨_, rfl⟩
  rw [← hE] at HE ⊢
  have HOk := Lib.hid (@bg_ok S [k, k2] k)
  have HMp := Lib.hid (bg_mp S [k, k2] k)
  obtain ⟨g, hg⟩ : ∃ g, g = bgE S [k, k2] k := ⟨_, rfl⟩
  rw [← hg] at HBg HE HOk HMp
  obtain ⟨S2, r, z⟩ := g
  dsimp only at HBg HE HOk HMp
  have HDk := Lib.hid hD
  have HT0 := Lib.hid (Tn.of hb0 : Tn (· = p) w W0)
  have HW0 := Lib.hid hW0
  have HV : Hid (r.val = .agg #[r.sl, .int .i64 (r.s : Int), .bool r.d]) := Lib.hid rfl
  rw [HV.out] at HBg
  clear hE hg hD hW0 hb0 hk0 hO hz
  go_enter Try.func25, Try.ntmps25
  go_wp2_with fail
  rw [← HW0.out]
  refine HBg.out.mono ?_
  rintro e w1 ⟨rfl, hd1, hT1⟩
  have HD1 := Lib.hid hd1
  have HT1 := Lib.hid (HT0.out.trans hT1 (fun i h => .inl h))
  clear hd1 hT1
  obtain ⟨w2, hw2⟩ : ∃ w2, w2 = w1.alloc (.cells #[r.sl, .int .i64 (r.s : Int), .bool r.d] 69) := ⟨_, rfl⟩
  have hb2 : Below w1.heap.size w1 w2 := by rw [hw2]; exact (Below.refl _ _).alloc (Nat.le_refl _) _
  have HX2 : Hid (w2.heap[w1.heap.size]? = some (.cells #[r.sl, .int .i64 (r.s : Int), .bool r.d] 69 (0, 0))) := Lib.hid (by rw [hw2]; exact Deep.blk_alloc_new _ _)
  have HD2 := Lib.hid (HD1.out.below hb2)
  have HT2 := Lib.hid (HT1.out.trans (Tn.of hb2 : Tn (· = p) w1 w2) (fun i h => .inl h))
  have HA : Hid ((w1.alloc (.cells #[.slice none 0 0, .int .i64 0, .bool false] 69)).heap[w1.heap.size]? = some (.cells #[.slice none 0 0, .int .i64 0, .bool false] 69 (0, 0))) := Lib.hid (Deep.blk_alloc_new _ _)
  have HW2 : Hid (w2 = (w1.alloc (.cells #[.slice none 0 0, .int .i64 0, .bool false] 69)).setRow w1.heap.size #[r.sl, .int .i64 (r.s : Int), .bool r.d]) := Lib.hid (by rw [hw2]; exact (alloc_setRow _ _ _ _).symm)
  have HSb : Hid ((Try.prog.info? 69).map (fun i => i.size) = some 3) := Lib.hid (by kernel_rfl)
  clear hw2 hb2
  by_cases h0 : z = 0
  · subst h0
    have hE2 := HE.out
    rw [if_pos rfl] at hE2
    have HE2 := Lib.hid hE2
    obtain ⟨hh, hr⟩ := HOk.out rfl
    obtain ⟨b, hb⟩ := HDk.out.hasmap hh
    have hm2 : S2.mp = some b := HMp.out.1.trans hb
    have HM2 := Lib.hid hm2
    have HMb := Lib.hid hb
    have HF2 := Lib.hid HMp.out.2.1
    have HHs := Lib.hid hh
    have HRr := Lib.hid hr
    have HH := Lib.hid (HD2.out.map b hm2).2
    have c1 := cell_of_row _ _ 1 _ _ _ HD2.out.blk
    simp [Ds.row] at c1
    rw [hm2, HW2.out] at c1
    clear hE2 hh hr hb hm2
    go_wp2_with (first
      | (at_delete; (try rw [← HW2.out]); go_loud (refine wpList_del rfl (.tmp 23) (.tmp 24) rfl b (mv Prod.fst S2.fs) rfl HH.out k hk rfl ?_); intro w3 hm3 hg3; have HM3 := Lib.hid hm3; have HG3 := Lib.hid hg3; have HX3 := Lib.hid (box_grown HX2.out HH.out hg3); have x0 := cell_of_row _ _ 0 _ _ _ HX3.out; have x1 := cell_of_row _ _ 1 _ _ _ HX3.out; have x2 := cell_of_row _ _ 2 _ _ _ HX3.out; simp at x0 x1 x2; clear hm3 hg3)
      | (refine wpList_store_row rfl _ _ _ rfl w1.heap.size #[r.sl, .int .i64 (r.s : Int), .bool r.d] rfl rfl 69 _ HA.out HSb.out rfl (one_file r) ?_))
    have hD3 := HD2.out.del HM2.out HM3.out HG3.out
    have hT3 : Tn (fun i => i = p ∨ S.mp = some i) w w3 := HT2.out.trans' (Tn.grown (F := fun i => i = b) HG3.out (fun i e => by injection e with e; exact e.symm)) (fun i h => .inl h) (fun i h => .inr (by rw [HMb.out, h]))
    have hgm : (k, gt S.fs k) ∈ S2.fs := by rw [HF2.out]; exact gt_in HHs.out
    have hrp := (HD2.out.rows _ hgm).apart HH.out HG3.out
    have hpu := put_any B p { S2 with fs := dl S2.fs k } k2 hk2 r (gt S.fs k).2 (by show (dl S2.fs k).length ≤ 100000; rw [HF2.out]; exact Nat.le_trans (List.length_filter_le _ _) hfl) w3 (Nat.le_trans hB hT3.size) hD3 (by rw [HRr.out]; exact hrp) (fun x hx hne g0 e0 e1 => by
      have hx2 := mem_dl.1 hx
      have := HD2.out.apart2 hx2.1 hgm hx2.2 e0
      rw [HRr.out] at e1
      exact this e1)
    rw [show r.val = .agg #[r.sl, .int .i64 (r.s : Int), .bool r.d] from rfl] at hpu
    refine hpu.mono ?_
    rintro e w6 ⟨rfl, ⟨b', hb', hd6⟩, hT6⟩
    have hbb : b' = b := by
      rcases hb' with h | ⟨h, _⟩
      · have h : S2.mp = some b' := h
        rw [HM2.out] at h; injection h with h; exact h.symm
      · have h : S2.mp = none := h
        rw [HM2.out] at h; cases h
    rw [hbb] at hd6
    have HD6 := Lib.hid hd6
    have HT6 := Lib.hid hT6
    have HT3 := Lib.hid hT3
    clear hd6 hT6 hb' hbb hD3 hT3 hgm hrp hpu x0 x1 x2 c1
    go_wp2_with fail
    go_ret
    rw [HE2.out]
    refine ⟨rfl, ?_, HT3.out.trans' HT6.out (fun i h => h) (fun i h => h.imp_right fun h => by rw [HMb.out, ← HM2.out]; exact h)⟩
    have h6 := HD6.out
    rw [HRr.out] at h6
    have e : S2.mp = some b := HM2.out
    unfold rnL
    rw [← e, HF2.out] at h6
    exact h6
  · have d0 : (z != 0) = true := by simpa using h0
    have HE2 := Lib.hid (show E = (S2, z) by rw [HE.out, if_neg h0])
    clear h0
    go_wp2_with (go_loud (refine wpList_store_row rfl _ _ _ rfl w1.heap.size #[r.sl, .int .i64 (r.s : Int), .bool r.d] rfl rfl 69 _ HA.out HSb.out rfl (one_file r) ?_))
    try rw [← HW2.out]
    go_ret
    rw [HE2.out]
    exact ⟨rfl, HD2.out, HT2.out.imp (fun i h => .inl h)⟩
end Go.Proofs.Ytjajmlamlmnljaa
