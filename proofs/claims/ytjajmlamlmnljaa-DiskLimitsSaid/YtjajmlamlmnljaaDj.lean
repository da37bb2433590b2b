/- Sync, Remove. -/
import Derived.Test.YtjajmlamlmnljaaDi
namespace Go.Proofs.Ytjajmlamlmnljaa
open Go.ChangeShapes Go.WideShapes Go.ChangeAt Go.RowKit Go.Joins Go.Maps Go.ChangeMaps Go.MapKept

theorem fn_ok {S : Ds} {ns : List ByteArray} {k : ByteArray} (h : (fnE S ns k).2 = 0) : hs S.fs k ∧ (fnE S ns k).1 = (gt S.fs k).1 ∧ ckE S.dn ns = 0 := by
  unfold fnE at h ⊢
  by_cases h0 : ckE S.dn ns = 0
  · rw [if_pos h0] at h ⊢
    by_cases h1 : hs S.fs k
    · rw [if_pos h1]; exact ⟨h1, rfl, h0⟩
    · rw [if_neg h1] at h; exact absurd h (by decide)
  · rw [if_neg h0] at h; exact absurd h h0
theorem bg_ok {S : Ds} {ns : List ByteArray} {k : ByteArray} (h : (bgE S ns k).2.2 = 0) : hs S.fs k ∧ (bgE S ns k).2.1 = (gt S.fs k).1 := by
  unfold bgE at h ⊢
  by_cases h0 : (fnE S ns k).2 = 0
  · rw [if_pos h0] at h ⊢
    exact ⟨(fn_ok h0).1, (fn_ok h0).2.1⟩
  · rw [if_neg h0] at h; exact absurd h h0
theorem bg_lft (S : Ds) (ns : List ByteArray) (k : ByteArray) (hl : 0 ≤ S.lft ∧ S.lft ≤ 9223372036854775807) : 0 ≤ (bgE S ns k).1.lft ∧ (bgE S ns k).1.lft ≤ 9223372036854775807 := by
  unfold bgE
  split
  · unfold opS
    split
    · exact hl
    · split
      · exact hl
      · rename_i h; show 0 ≤ S.lft - 1 ∧ S.lft - 1 ≤ _; have h : ¬ S.lft = 0 := h; omega
  · exact hl
theorem Dk.hasmap {w : World} {B p : Nat} {S : Ds} (h : Dk w B p S) {k : ByteArray} (hk : hs S.fs k) : ∃ b, S.mp = some b := by
  cases e : S.mp with
  | some b => exact ⟨b, rfl⟩
  | none => rw [h.non e] at hk; simp [hs] at hk
/-- What Sync does, and Remove. -/
noncomputable def sySL (fs : List (Ct Fl)) (k : ByteArray) : List (Ct Fl) := pt fs k (⟨(gt fs k).1.A, (gt fs k).1.n, (gt fs k).1.c, (gt fs k).1.n, true⟩, (gt fs k).2)
noncomputable def syS (S : Ds) (k : ByteArray) : Ds × Int := if (bgE S [k] k).2.2 = 0 then ({ (bgE S [k] k).1 with fs := sySL S.fs k }, 0) else ((bgE S [k] k).1, (bgE S [k] k).2.2)
noncomputable def rmS (S : Ds) (k : ByteArray) : Ds × Int := if (bgE S [k] k).2.2 = 0 then ({ (bgE S [k] k).1 with fs := dl S.fs k }, 0) else ((bgE S [k] k).1, (bgE S [k] k).2.2)
theorem Dk.al {w : World} {B p : Nat} {S : Ds} (h : Dk w B p S) (o : Obj) : Dk (w.alloc o) B p S := h.below ((Below.refl _ _).alloc (Nat.le_refl _) _)
theorem Dk.box {w : World} {B p g j : Nat} {S : Ds} {cs : Array Value} (h : Dk w B p S) (hg : w.heap[g]? = some (.cells cs 69 (0, 0))) (v : Value) : Dk (w.setCell ⟨g, j, none⟩ v) B p S :=
  h.keep fun i hi => Below.heap_setCell w _ _ _ (fun e => by
    have e : i = g := e
    subst e
    exact dk_file h hg hi)
theorem Dk.apart2 {w : World} {B p : Nat} {S : Ds} (h : Dk w B p S) {x y : Ct Fl} (hx : x ∈ S.fs) (hy : y ∈ S.fs) (hne : x.1 ≠ y.1) {g : Nat} (e : x.2.1.A = some g) : y.2.1.A ≠ some g := by
  have := h.apart
  rw [List.pairwise_iff_getElem] at this
  obtain ⟨i, hi, rfl⟩ := List.getElem_of_mem hx
  obtain ⟨j, hj, rfl⟩ := List.getElem_of_mem hy
  rcases Nat.lt_trichotomy i j with hij | hij | hij
  · exact this i j hi hj hij g e
  · subst hij; exact absurd rfl hne
  · exact fun e' => this j i hj hi hij g e' e
theorem tn_set (w : World) (g j : Nat) (v : Value) : Tn (· = g) w (w.setCell ⟨g, j, none⟩ v) := ⟨rfl, rfl, rfl, by simp, fun i _ h => Below.heap_setCell w _ _ _ h⟩
theorem Tn.imp {F G : Nat → Prop} {w w' : World} (h : Tn F w w') (k : ∀ i, F i → G i) : Tn G w w' := ⟨h.os, h.tape, h.output, h.size, fun i hi hG => h.block i hi (fun hF => hG (k i hF))⟩
theorem Tn.trans' {F G H : Nat → Prop} {a b c : World} (h : Tn F a b) (k : Tn G b c) (hF : ∀ i, F i → H i) (hG : ∀ i, G i → H i) : Tn H a c := (h.imp hF).trans (k.imp hG) (fun _ h => .inl h)
set_option maxRecDepth 100000 in
set_option maxHeartbeats 4000000 in
theorem sync_any (B p : Nat) (S : Ds) (hl : 0 ≤ S.lft ∧ S.lft ≤ 9223372036854775807) (hfl : S.fs.length ≤ 100000) (k : ByteArray) (hk : k.size ≤ 1000000) (w : World) (hB : B ≤ w.heap.size) (hD : Dk w B p S) :
    Calls Try.prog 22 #[.pointer (some ⟨p, 0, none⟩), .string k] w fun e w' => e = .returned (.int .i64 (syS S k).2) ∧ Dk w' B p (syS S k).1 ∧ Tn (fun i => i = p ∨ S.mp = some i) w w' := by
  have HBg := Lib.hid (begin0_any B p S hl k hk w hD)
  have HE : Hid (syS S k = if (bgE S [k] k).2.2 = 0 then ({ (bgE S [k] k).1 with fs := sySL S.fs k }, 0) else ((bgE S [k] k).1, (bgE S [k] k).2.2)) := Lib.hid rfl
  obtain ⟨E, hE⟩ : ∃ E, E = syS S k := ⟨_, rfl⟩
  rw [← hE] at HE ⊢
  have HOk := Lib.hid (@bg_ok S [k] k)
  have HMp := Lib.hid (bg_mp S [k] k)
  obtain ⟨g, hg⟩ : ∃ g, g = bgE S [k] k := ⟨_, rfl⟩
  rw [← hg] at HBg HE HOk HMp
  obtain ⟨S2, r, z⟩ := g
  dsimp only at HBg HE HOk HMp
  have HDk := Lib.hid hD
  have hp := hD.lt
  have HV : Hid (r.val = .agg #[.slice (r.A.map fun g => ⟨g, 0, none⟩) r.n r.c, .int .i64 (r.s : Int), .bool r.d]) := Lib.hid rfl
  rw [HV.out] at HBg
  obtain ⟨A9, hA9⟩ : ∃ A9, A9 = r.A.map fun g => (⟨g, 0, none⟩ : Addr) := ⟨_, rfl⟩
  have HA9 := Lib.hid hA9
  rw [← hA9] at HBg
  clear hE hg hD HV hA9
  go_enter Try.func22, Try.ntmps22
  go_wp2_with fail
  refine HBg.out.mono ?_
  rintro e w1 ⟨rfl, hd1, hT1⟩
  have HD1 := Lib.hid hd1
  have HT1 := Lib.hid hT1
  clear hd1 hT1
  obtain ⟨w2, hw2⟩ : ∃ w2, w2 = w1.alloc (.cells #[.slice A9 r.n r.c, .int .i64 (r.s : Int), .bool r.d] 69) := ⟨_, rfl⟩
  have hb2 : Below w1.heap.size w1 w2 := by rw [hw2]; exact (Below.refl _ _).alloc (Nat.le_refl _) _
  have HX2 : Hid (w2.heap[w1.heap.size]? = some (.cells #[.slice A9 r.n r.c, .int .i64 (r.s : Int), .bool r.d] 69 (0, 0))) := Lib.hid (by rw [hw2]; exact Deep.blk_alloc_new _ _)
  have HD2 := Lib.hid (HD1.out.below hb2)
  have HT2 := Lib.hid (HT1.out.trans (Tn.of hb2 : Tn (· = p) w1 w2) (fun i h => .inl h))
  have HA : Hid ((w1.alloc (.cells #[.slice none 0 0, .int .i64 0, .bool false] 69)).heap[w1.heap.size]? = some (.cells #[.slice none 0 0, .int .i64 0, .bool false] 69 (0, 0))) := Lib.hid (Deep.blk_alloc_new _ _)
  have HW2 : Hid (w2 = (w1.alloc (.cells #[.slice none 0 0, .int .i64 0, .bool false] 69)).setRow w1.heap.size #[.slice A9 r.n r.c, .int .i64 (r.s : Int), .bool r.d]) := Lib.hid (by rw [hw2]; exact (alloc_setRow _ _ _ _).symm)
  have HSb : Hid ((Try.prog.info? 69).map (fun i => i.size) = some 3) := Lib.hid (by kernel_rfl)
  have H1r : Hid ((#[.slice A9 r.n r.c, .int .i64 (r.s : Int), .bool r.d] : Array Value).all (·.oneCell') = true) := Lib.hid (by simp [Value.oneCell'])
  clear hw2 hb2
  by_cases h0 : z = 0
  · subst h0
    have hE2 := HE.out
    rw [if_pos rfl] at hE2
    have HE2 := Lib.hid hE2
    obtain ⟨hh, hr⟩ := HOk.out rfl
    obtain ⟨b, hb⟩ := HDk.out.hasmap hh
    have HMb := Lib.hid hb
    have HHs := Lib.hid hh
    have HRr := Lib.hid hr
    have c0 := cell_of_row _ _ 0 _ _ _ HX2.out
    have c1 := cell_of_row _ _ 1 _ _ _ HX2.out
    have c2 := cell_of_row _ _ 2 _ _ _ HX2.out
    have f1 := frz HX2.out 1
    have f2 := frz HX2.out 2
    have hx := (Array.getElem?_eq_some_iff.1 HX2.out).1
    simp at c0 c1 c2
    obtain ⟨W5, hW5⟩ : ∃ W5, W5 = (w2.setCell ⟨w1.heap.size, 1, none⟩ (.int .i64 (r.n : Int))).setCell ⟨w1.heap.size, 2, none⟩ (.bool true) := ⟨_, rfl⟩
    have s5 : W5.heap[w1.heap.size]? = some (.cells #[.slice A9 r.n r.c, .int .i64 (r.n : Int), .bool true] 69 (0, 0)) := by rw [hW5, blk_set _ (blk_set _ HX2.out)]; rfl
    have t0 := cell_of_row _ _ 0 _ _ _ s5
    have t1 := cell_of_row _ _ 1 _ _ _ s5
    have t2 := cell_of_row _ _ 2 _ _ _ s5
    simp at t0 t1 t2
    have hD5 : Dk W5 B p S2 := by rw [hW5]; exact (HD2.out.box HX2.out _).box (blk_set _ HX2.out) _
    have hT5 : Tn (· = p) w W5 := HT2.out.trans (show Tn (· = w1.heap.size) w2 W5 by rw [hW5]; exact (tn_set _ _ _ _).trans (tn_set _ _ _ _) (fun i h => .inl h)) (fun i h => .inr (by rw [h]; exact HT1.out.size))
    have hm2 : S2.mp = some b := HMp.out.1.trans hb
    have hf2 : S2.fs = S.fs := HMp.out.2.1
    have hg : (k, gt S.fs k) ∈ S2.fs := by rw [hf2]; exact gt_in hh
    have hrp := hD5.rows _ hg
    have hpu := put_any B p S2 k hk ⟨r.A, r.n, r.c, r.n, true⟩ (gt S.fs k).2 (by rw [hf2]; exact hfl) W5 (Nat.le_trans hB hT5.size) hD5 (by
      have e : (gt S.fs k) = ((gt S.fs k).1, (gt S.fs k).2) := rfl
      rw [hr]
      exact ⟨hrp.1, hrp.2.1, Nat.le_refl _⟩) (fun x hx hne g0 e0 e1 => by
      have := hD5.apart2 hx hg hne e0
      rw [hr] at e1
      exact this e1)
    rw [show (⟨r.A, r.n, r.c, r.n, true⟩ : Rw).val = .agg #[.slice A9 r.n r.c, .int .i64 (r.n : Int), .bool true] by rw [HA9.out]; rfl] at hpu
    have HPu := Lib.hid hpu
    have HT5 := Lib.hid hT5
    have HW5 := Lib.hid hW5
    have HM2 := Lib.hid hm2
    have HF2 := Lib.hid hf2
    rw [HW5.out] at t0 t1 t2
    rw [HW2.out] at c0 c1 c2 f1 f2 hx t0 t1 t2
    clear hE2 hh hr hb hW5 s5 hD5 hT5 hm2 hf2 hg hrp hpu
    go_wp2_with (go_loud (refine wpList_store_row rfl _ _ _ rfl w1.heap.size #[.slice A9 r.n r.c, .int .i64 (r.s : Int), .bool r.d] rfl rfl 69 _ HA.out HSb.out rfl H1r.out ?_))
    try rw [← HW2.out]
    try rw [← HW5.out]
    refine HPu.out.mono ?_
    rintro e w6 ⟨rfl, ⟨b', hb', hd6⟩, hT6⟩
    have hbb : b' = b := by
      rcases hb' with h | ⟨h, _⟩
      · rw [HM2.out] at h; injection h with h; exact h.symm
      · rw [HM2.out] at h; cases h
    rw [hbb, HF2.out] at hd6
    have HD6 := Lib.hid hd6
    have HT6 := Lib.hid hT6
    clear hd6 hT6 hb' hbb c0 c1 c2 f1 f2 t0 t1 t2 hx
    go_wp2_with fail
    go_ret
    rw [HE2.out]
    refine ⟨rfl, ?_, HT5.out.trans' HT6.out (fun i h => .inl h) (fun i h => h.imp_right fun h => by rw [HMb.out, ← HM2.out]; exact h)⟩
    have h6 := HD6.out
    rw [HRr.out] at h6
    have e : S2.mp = some b := HM2.out
    unfold sySL
    rw [← e] at h6
    exact h6
  · have d0 : (z != 0) = true := by simpa using h0
    have HE2 := Lib.hid (show E = (S2, z) by rw [HE.out, if_neg h0])
    clear h0
    go_wp2_with (go_loud (refine wpList_store_row rfl _ _ _ rfl w1.heap.size #[.slice A9 r.n r.c, .int .i64 (r.s : Int), .bool r.d] rfl rfl 69 _ HA.out HSb.out rfl H1r.out ?_))
    try rw [← HW2.out]
    go_ret
    rw [HE2.out]
    exact ⟨rfl, HD2.out, HT2.out.imp (fun i h => .inl h)⟩
end Go.Proofs.Ytjajmlamlmnljaa
