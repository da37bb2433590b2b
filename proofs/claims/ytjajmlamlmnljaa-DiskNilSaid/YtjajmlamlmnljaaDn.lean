/- Append. -/
import Derived.Test.YtjajmlamlmnljaaDm
namespace Go.Proofs.Ytjajmlamlmnljaa
open Go.ChangeShapes Go.WideShapes Go.ChangeAt Go.RowKit Go.Joins Go.Maps Go.ChangeMaps Go.MapKept

/-- The number of bytes of all files. -/
def usF (fs : List (Ct Fl)) : Nat := sv (fun f : Fl => f.1.n) fs
/-- Why Append writes nothing: 0 if it does. -/
noncomputable def ap0 (S : Ds) (k data : ByteArray) : Int := if ckE S.dn [k] = 0 then (if ¬ hs S.fs k ∧ 256 ≤ S.fs.length then 6 else if S.cap - (usF S.fs : Int) < (data.size : Int) then 28 else 0) else ckE S.dn [k]
/-- What Append makes of the disk. -/
def ApR (S : Ds) (k data : ByteArray) (S' : Ds) : Prop :=
  if ap0 S k data = 0 then ∃ b r', (S.mp = some b ∨ S.mp = none) ∧ r'.n = (gt S.fs k).1.n + data.size ∧ r'.s = (gt S.fs k).1.s ∧ r'.d = (gt S.fs k).1.d ∧ S' = (opS ⟨S.cap, S.dn, S.lim, S.lft, some b, pt S.fs k (r', (gt S.fs k).2 ++ data.data.toList)⟩).1
  else S' = S
noncomputable def apE (S : Ds) (k data : ByteArray) : Int := if ap0 S k data = 0 then (opS S).2 else ap0 S k data
theorem opS_e (S S' : Ds) (h1 : S'.lim = S.lim) (h2 : S'.lft = S.lft) : (opS S').2 = (opS S).2 := by
  unfold opS; rw [h1, h2]; split; rfl; split <;> rfl
theorem rp_zero (w : World) (B : Nat) : Rp w B (default, []) := ⟨World.ownsRow_nil _ _ _ _, rfl, Nat.le_refl _⟩
theorem box_ne {w w2 : World} {B : Nat} {f : Fl} (h : Rp w B f) (hb : Below w.heap.size w w2) : ¬ some w2.heap.size = f.1.A := fun e => by
  have := (h.lt e.symm).2
  have := hb.size
  omega
/-- A disk where a file's row has grown. -/
theorem Dk.grown {w w' : World} {B p : Nat} {S : Ds} {k : ByteArray} {f : Fl} (h : Dk w B p S) (hr : Rp w B f) (hg : w.grownBy w' f.1.A) (ho : Rp w' B f) (hf : hs S.fs k → gt S.fs k = f) (hn : ¬ hs S.fs k → f.1.A = none) : Dk w' B p S := by
  have hA : ∀ g, f.1.A = some g → (k, f) ∈ S.fs := fun g e => by
    by_cases hh : hs S.fs k
    · rw [← hf hh]; exact gt_in hh
    · rw [hn hh] at e; cases e
  have hpn : ¬ some p = f.1.A := fun e => by
    obtain ⟨cs, m, h2⟩ := hr.cells e.symm
    rw [h.blk] at h2
    injection h2 with h2
    injection h2 with _ h2 _
    exact absurd h2 (by decide)
  refine ⟨(hg.block p h.lt hpn).trans h.blk, h.lo, h.non, fun b e => ?_, h.sd, fun x hx => ?_, h.apart⟩
  · have hb := h.map b e
    refine ⟨hb.1, hb.2.keep (hg.block b hb.2.lt fun e' => ?_)⟩
    obtain ⟨cs, m, h2⟩ := hr.cells e'.symm
    obtain ⟨es, c, h3⟩ := hb.2.block
    rw [h3] at h2; cases h2
  · by_cases hx1 : x.1 = k
    · have hh : hs S.fs k := by rw [← hx1]; exact mem_keys hx
      have := gt_at h.sd hx
      rw [hx1, hf hh] at this
      rw [← this]; exact ho
    · refine (h.rows x hx).keep fun g e => hg.block g ((h.rows x hx).lt e).2 fun e' => ?_
      exact h.apart2 hx (hA g e'.symm) hx1 e e'.symm
theorem run_sizem {w : World} {mp : Option Nat} {L : List (Ct Rw)} (h : Mp w mp L) (ty : TypeId) : (Builtin.len_ #[63] ty #[.map mp]).run Try.prog w = .ok (.int .i64 (L.length : Int)) w := by
  rcases h with ⟨rfl, rfl⟩ | ⟨b, rfl, D, ho, ht, hS⟩
  · exact Maps.len_nil Try.underlying63 ty
  · have := ho.len Try.underlying63 ty
    rw [ht.2.1] at this; exact this
set_option maxRecDepth 100000 in
set_option maxHeartbeats 8000000 in
theorem append_any (B p : Nat) (S : Ds) (hl : 0 ≤ S.lft ∧ S.lft ≤ 9223372036854775807) (hfl : S.fs.length ≤ 100000) (hu : usF S.fs ≤ 100000000) (hcap : 0 ≤ S.cap ∧ S.cap ≤ 100000000) (k : ByteArray) (hk : k.size ≤ 1000000) (data : ByteArray) (hds : data.size ≤ 100000000) (w : World) (hB : B ≤ w.heap.size) (hD : Dk w B p S) :
    Calls Try.prog 24 #[.pointer (some ⟨p, 0, none⟩), .string k, .string data] w fun e w' => e = .returned (.int .i64 (apE S k data)) ∧ (∃ S', Dk w' B p S' ∧ ApR S k data S' ∧ ∀ i, S'.ft p i → S.ft p i ∨ w.heap.size ≤ i) ∧ Tn (S.ft p) w w' := by
  obtain ⟨W1, hW1⟩ : ∃ W1 : World, W1 = w.alloc (.cells #[.string k] 9) := ⟨_, rfl⟩
  have hb1 : Below w.heap.size w W1 := by rw [hW1]; exact (Below.refl _ _).alloc (Nat.le_refl _) _
  have hk1 : W1.heap[w.heap.size]? = some (.cells #[.string k] 9 (0, 0)) := by rw [hW1]; exact Deep.blk_alloc_new _ _
  have hO : W1.ownsRow w.heap.size 9 1 (.slice (some ⟨w.heap.size, 0, none⟩) 1 1) 1 ([k].map Value.string) := ⟨rfl, .inr ⟨w.heap.size, 1, #[.string k], rfl, Nat.le_refl _, hk1, Nat.le_refl _, by unfold maxLen; decide, rfl, rfl⟩⟩
  have HCk := Lib.hid (check_any p S (some ⟨w.heap.size, 0, none⟩) 1 [k] (by simp) (by intro s h; simp at h; rw [h]; exact hk) W1 (hD.below hb1).blk (Rd.own hO))
  dsimp only [List.length_cons, List.length_nil] at HCk
  have HB1 := Lib.hid hb1
  have HW1 := Lib.hid hW1
  have HDk := Lib.hid hD
  have HFl := Lib.hid hfl
  have hp := hD.lt
  have HSb : Hid ((Try.prog.info? 69).map (fun i => i.size) = some 3) := Lib.hid (by kernel_rfl)
  have H0 : Hid (ap0 S k data = if ckE S.dn [k] = 0 then (if ¬ hs S.fs k ∧ 256 ≤ S.fs.length then 6 else if S.cap - (usF S.fs : Int) < (data.size : Int) then 28 else 0) else ckE S.dn [k]) := Lib.hid rfl
  have HAE : Hid (apE S k data = if ap0 S k data = 0 then (opS S).2 else ap0 S k data) := Lib.hid rfl
  have HAR : Hid (∀ S', ApR S k data S' = if ap0 S k data = 0 then ∃ b r', (S.mp = some b ∨ S.mp = none) ∧ r'.n = (gt S.fs k).1.n + data.size ∧ r'.s = (gt S.fs k).1.s ∧ r'.d = (gt S.fs k).1.d ∧ S' = (opS ⟨S.cap, S.dn, S.lim, S.lft, some b, pt S.fs k (r', (gt S.fs k).2 ++ data.data.toList)⟩).1 else S' = S) := Lib.hid (fun _ => rfl)
  obtain ⟨a0, ha0⟩ : ∃ a0, a0 = ap0 S k data := ⟨_, rfl⟩
  rw [← ha0] at H0 HAE HAR
  obtain ⟨z, hz⟩ : ∃ z, z = ckE S.dn [k] := ⟨_, rfl⟩
  rw [← hz] at HCk H0
  have HZd : Hid (z = 0 → S.dn = false) := Lib.hid (fun h => by
    cases e : S.dn with
    | false => rfl
    | true => rw [e] at hz; rw [hz] at h; exact absurd (show (27 : Int) = 0 from h) (by decide))
  clear hW1 hb1 hk1 hO hD ha0 hz
  go_enter Try.func24, Try.ntmps24
  go_wp2_with fail
  rw [← HW1.out]
  refine HCk.out.mono ?_
  rintro e w2 ⟨rfl, hb2⟩
  have HB2 := Lib.hid (HB1.out.trans (hb2.mono HB1.out.size))
  clear hb2
  by_cases h0 : z = 0
  · subst h0
    have hdn := HZd.out rfl
    have hA0 := H0.out
    rw [if_pos rfl] at hA0
    have HA0 := Lib.hid hA0
    clear hA0
    have HD2 := Lib.hid (HDk.out.below HB2.out)
    have c1 := cell_of_row _ _ 1 _ _ _ HD2.out.blk
    simp [Ds.row] at c1
    have HM := Lib.hid HD2.out.mp
    obtain ⟨f, hf⟩ : ∃ f, f = gt S.fs k := ⟨_, rfl⟩
    obtain ⟨r, bs⟩ := f
    have HF := Lib.hid hf
    obtain ⟨b, hbb⟩ : ∃ b, b = decide (hs S.fs k) := ⟨_, rfl⟩
    have HBb := Lib.hid hbb
    have hRaw : gt (mv Prod.fst S.fs) k = r := by
      by_cases hh : hs S.fs k
      · rw [gt_mv _ _ _ hh, ← hf]
      · rw [gt_none hh] at hf
        rw [gt_none (fun h => hh ((hs_mv _ _ _).1 h))]
        injection hf with h1 h2
        rw [h1]
    have hRawB : decide (hs (mv Prod.fst S.fs) k) = b := by rw [hbb]; exact decide_eq_decide.2 (hs_mv _ _ _)
    have HRaw := Lib.hid hRaw
    have HRawB := Lib.hid hRawB
    obtain ⟨A9, hA9⟩ : ∃ A9, A9 = r.A.map fun g => (⟨g, 0, none⟩ : Addr) := ⟨_, rfl⟩
    have HSl : Hid (r.sl = .slice A9 r.n r.c) := Lib.hid (by rw [hA9]; rfl)
    obtain ⟨W3, hW3⟩ : ∃ W3, W3 = w2.alloc (.cells #[.slice A9 r.n r.c, .int .i64 (r.s : Int), .bool r.d] 69) := ⟨_, rfl⟩
    have hb3 : Below w2.heap.size w2 W3 := by rw [hW3]; exact (Below.refl _ _).alloc (Nat.le_refl _) _
    have HX3 : Hid (W3.heap[w2.heap.size]? = some (.cells #[.slice A9 r.n r.c, .int .i64 (r.s : Int), .bool r.d] 69 (0, 0))) := Lib.hid (by rw [hW3]; exact Deep.blk_alloc_new _ _)
    have HB3 := Lib.hid (HB2.out.trans (hb3.mono HB2.out.size))
    have HD3 := Lib.hid (HD2.out.below hb3)
    have HA : Hid ((w2.alloc (.cells #[.slice none 0 0, .int .i64 0, .bool false] 69)).heap[w2.heap.size]? = some (.cells #[.slice none 0 0, .int .i64 0, .bool false] 69 (0, 0))) := Lib.hid (Deep.blk_alloc_new _ _)
    have HW3 : Hid (W3 = (w2.alloc (.cells #[.slice none 0 0, .int .i64 0, .bool false] 69)).setRow w2.heap.size #[.slice A9 r.n r.c, .int .i64 (r.s : Int), .bool r.d]) := Lib.hid (by rw [hW3]; exact (alloc_setRow _ _ _ _).symm)
    have H1r : Hid ((#[.slice A9 r.n r.c, .int .i64 (r.s : Int), .bool r.d] : Array Value).all (·.oneCell') = true) := Lib.hid (by simp [Value.oneCell'])
    have m1 := cell_of_row _ _ 1 _ _ _ HD3.out.blk
    simp [Ds.row] at m1
    rw [HW3.out] at m1
    have q9 := fun ty => run_sizem HD3.out.mp ty
    rw [HW3.out] at q9
    have HLl : Hid ((mv Prod.fst S.fs).length = S.fs.length) := Lib.hid (by simp [mv])
    rw [HLl.out] at q9
    have HUs := Lib.hid (used_any B p S (Nat.le_trans hu (by decide)))
    obtain ⟨us, hus⟩ : ∃ us, us = usF S.fs := ⟨_, rfl⟩
    have HUe := Lib.hid hus
    have HUs' : Hid (∀ W, Dk W B p S → Calls Try.prog 32 #[.pointer (some ⟨p, 0, none⟩)] W fun e w' => e = .returned (.int .i64 (us : Int)) ∧ Below W.heap.size W w') := Lib.hid (fun W h => by
      have := HUs.out W h
      rw [hdn, if_neg (by decide)] at this
      rw [hus]; exact this)
    rw [← hus] at hu HA0
    obtain ⟨nf, hnf⟩ : ∃ nf, nf = S.fs.length := ⟨_, rfl⟩
    rw [← hnf] at HA0 hfl q9
    clear hW3 hb3 hf hbb hRaw hRawB hA9 HUs hus hnf
    by_cases hfull : b = false ∧ 256 ≤ nf
    · obtain ⟨rfl, hnf⟩ := hfull
      have hge : (256 : Int) ≤ (nf : Int) := by omega
      have dge : decide ((256 : Int) ≤ (nf : Int)) = true := by simpa using hge
      have HE : Hid (a0 = 6) := Lib.hid (by
        rw [HA0.out, if_pos ⟨of_decide_eq_false HBb.out.symm, hnf⟩])
      clear hge hnf
      go_wp2_with (first
        | (at_lookup; (refine wpList_getm_okx rfl (.tmp 21) (.tmp 22) rfl S.mp (mv Prod.fst S.fs) rfl HM.out k hk rfl r HRaw.out false HRawB.out ?_); rw [HSl.out])
        | (refine wpList_store_row rfl _ _ _ rfl w2.heap.size #[.slice A9 r.n r.c, .int .i64 (r.s : Int), .bool r.d] rfl rfl 69 _ HA.out HSb.out rfl H1r.out ?_))
      go_ret
      refine ⟨by rw [HAE.out, if_neg (by rw [HE.out]; decide), HE.out]; rfl, ⟨S, by rw [← HW3.out]; exact HD3.out, ?_, fun i h => .inl h⟩, by rw [← HW3.out]; exact Tn.of HB3.out⟩
      rw [HAR.out, if_neg (by rw [HE.out]; decide)]
    · have HNf : Hid (¬ (¬ hs S.fs k ∧ 256 ≤ nf)) := Lib.hid (fun h => hfull ⟨by rw [HBb.out]; exact decide_eq_false h.1, h.2⟩)
      have HRp : Hid (Rp w B (r, bs)) := Lib.hid (by
        by_cases hh : hs S.fs k
        · have := HDk.out.rows _ (gt_in hh)
          rw [← HF.out] at this; exact this
        · have e := HF.out
          rw [gt_none hh] at e
          rw [e]; exact rp_zero _ _)
      have HRn : Hid (r.n ≤ 100000000) := Lib.hid (by
        by_cases hh : hs S.fs k
        · have h1 := sv_pt HDk.out.sd (fun f : Fl => f.1.n) k (default, [])
          rw [if_pos hh, ← HF.out] at h1
          have h1 : sv (fun f : Fl => f.1.n) (pt S.fs k (default, [])) + r.n = sv (fun f : Fl => f.1.n) S.fs + 0 := h1
          have h3 := hu
          rw [HUe.out] at h3
          unfold usF at h3
          omega
        · have e := HF.out
          rw [gt_none hh] at e
          injection e with e _
          rw [e]; exact Nat.zero_le _)
      have HNo : Hid (¬ hs S.fs k → r.A = none) := Lib.hid (fun hh => by
        have e := HF.out
        rw [gt_none hh] at e
        injection e with e _
        rw [e]; rfl)
      have HHs : Hid (∀ g, r.A = some g → hs S.fs k ∧ (k, (r, bs)) ∈ S.fs) := Lib.hid (fun g hg => by
        by_cases hh : hs S.fs k
        · exact ⟨hh, by rw [HF.out]; exact gt_in hh⟩
        · rw [HNo.out hh] at hg; cases hg)
      have HFt : Hid (∀ i, r.A = some i → S.ft p i) := Lib.hid (fun i hi => .inr (.inr ⟨_, (HHs.out i hi).2, hi⟩))
      obtain ⟨cap, hcp⟩ : ∃ cap, cap = S.cap := ⟨_, rfl⟩
      have HCp := Lib.hid hcp
      rw [← hcp] at hcap HA0
      clear hcp
      cases b with
      | true =>
        go_wp2_with (first
          | (at_lookup; (refine wpList_getm_okx rfl (.tmp 21) (.tmp 22) rfl S.mp (mv Prod.fst S.fs) rfl HM.out k hk rfl r HRaw.out true HRawB.out ?_); rw [HSl.out])
          | (refine wpList_store_row rfl _ _ _ rfl w2.heap.size #[.slice A9 r.n r.c, .int .i64 (r.s : Int), .bool r.d] rfl rfl 69 _ HA.out HSb.out rfl H1r.out ?_))
        rw [← HW3.out]
        clear c1 m1 q9
        have HK0 : Hid (∀ W, Below W3.heap.size W3 W → W.cell? ⟨p, 0, none⟩ = some (.int .i64 cap)) := Lib.hid (fun W h => by
          have := cell_of_row _ _ 0 _ _ _ (HD3.out.below h).blk
          simp [Ds.row] at this
          rw [← HCp.out] at this; exact this)
        have HQ0 : Hid (Below W3.heap.size W3 W3.drew) := Lib.hid (Below.refl _ _).drew
        have hws : IntKind.i64.wrap (cap - (us : Int)) = cap - (us : Int) := by simp only [IntKind.wrap_i64]; omega
        by_cases hroom : cap - (us : Int) < (data.size : Int)
        · have dr : decide (cap - (us : Int) < (data.size : Int)) = true := by simpa using hroom
          have HE : Hid (a0 = 28) := Lib.hid (by rw [HA0.out, if_neg HNf.out, if_pos hroom])
          go_region_held3 (fun W => W.cell? ⟨p, 0, none⟩ = some (.int .i64 cap))
              (first | exact HK0.out _ HQ1.out | exact HK0.out _ HQ0.out)
            ((first
              | (go_at_call 32; (with_reducible refine (HUs'.out _ (HD3.out.below HQ0.out)).mono ?_); rintro e u1 ⟨rfl, hb⟩; have HQ1 : Hid (Below W3.heap.size W3 u1) := Lib.hid (HQ0.out.trans (hb.mono HQ0.out.size)); clear hb)
              | fail))
          go_wp2_with fail
          go_ret
          refine ⟨by rw [HAE.out, if_neg (by rw [HE.out]; decide), HE.out]; rfl, ⟨S, HD3.out.below HQ1.out, ?_, fun i h => .inl h⟩, Tn.of (HB3.out.trans (HQ1.out.mono HB3.out.size))⟩
          rw [HAR.out, if_neg (by rw [HE.out]; decide)]
        · have dr : decide (cap - (us : Int) < (data.size : Int)) = false := by simpa using hroom
          have HE : Hid (a0 = 0) := Lib.hid (by rw [HA0.out, if_neg HNf.out, if_neg hroom])
          go_region_held3 (fun W => W.cell? ⟨p, 0, none⟩ = some (.int .i64 cap))
              (first | exact HK0.out _ HQ1.out | exact HK0.out _ HQ0.out)
            ((first
              | (go_at_call 32; (with_reducible refine (HUs'.out _ (HD3.out.below HQ0.out)).mono ?_); rintro e u1 ⟨rfl, hb⟩; have HQ1 : Hid (Below W3.heap.size W3 u1) := Lib.hid (HQ0.out.trans (hb.mono HQ0.out.size)); clear hb)
              | fail))
          have HB4 := Lib.hid (HB3.out.trans (HQ1.out.mono HB3.out.size))
          have HD4 := Lib.hid (HD3.out.below HQ1.out)
          have HX4 := Lib.hid ((HQ1.out.block w2.heap.size (Array.getElem?_eq_some_iff.1 HX3.out).1).trans HX3.out)
          have HR4 := Lib.hid (HRp.out.below HB4.out)
          have hX4 := (Array.getElem?_eq_some_iff.1 HX4.out).1
          have x0 := cell_of_row _ _ 0 _ _ _ HX4.out
          simp at x0
          clear hroom dr hws
          go_wp2_with (at_builtin; go_loud (refine wpList_app rfl (.tmp 49) (.tmp 50) rfl B r bs HSl.out.symm HR4.out data rfl (by have := HRn.out; omega) (Nat.le_trans hB HB4.out.size) ?_); go_loud (intro r' w5 hr5 hn5 hs5 hd5 hg5 hk5 ho5); obtain ⟨A8, hA8⟩ : ∃ A8, A8 = r'.A.map fun g => (⟨g, 0, none⟩ : Addr) := ⟨_, rfl⟩; have hsl : r'.sl = .slice A8 r'.n r'.c := (by rw [hA8]; rfl); rw [hsl]; have hX5 := (hg5.block w2.heap.size hX4 (box_ne HRp.out HB2.out)).trans HX4.out; have hz5 := hg5.size; have hX5l := (Array.getElem?_eq_some_iff.1 hX5).1; have y0 := cell_of_row _ _ 0 _ _ _ hX5; have f0 := frz hX5 0; simp at y0; have HR5 := Lib.hid hr5; have HN5 := Lib.hid hn5; have HS5 := Lib.hid hs5; have HDd5 := Lib.hid hd5; have HG5 := Lib.hid hg5; have HK5 := Lib.hid hk5; have HO5 := Lib.hid ho5; have HX5 := Lib.hid hX5; have HSl5 := Lib.hid hsl; have t0 := cell_of_row _ _ 0 _ _ _ (blk_set (off := 0) (.slice A8 r'.n r'.c) hX5); have t1 := cell_of_row _ _ 1 _ _ _ (blk_set (off := 0) (.slice A8 r'.n r'.c) hX5); have t2 := cell_of_row _ _ 2 _ _ _ (blk_set (off := 0) (.slice A8 r'.n r'.c) hX5); simp at t0 t1 t2; clear hr5 hn5 hs5 hd5 hg5 hk5 ho5 hX5 hsl hA8)
          have HW5 : Hid (Dk w5 B p S) := Lib.hid (HD4.out.grown HR4.out HG5.out HO5.out (fun h => by rw [HF.out]) HNo.out)
          obtain ⟨W6, hW6⟩ : ∃ W6, W6 = w5.setCell ⟨w2.heap.size, 0, none⟩ (.slice A8 r'.n r'.c) := ⟨_, rfl⟩
          have hD6 : Dk W6 B p S := by rw [hW6]; exact HW5.out.box HX5.out _
          have hR6 : Rp W6 B (r', bs ++ data.data.toList) := HR5.out.keep fun g hg => by
            rw [hW6]
            exact Below.heap_setCell w5 _ _ _ (fun e => by
              have e : g = w2.heap.size := e
              obtain ⟨cs, m, h⟩ := HR5.out.cells hg
              rw [e, HX5.out] at h
              injection h with h
              injection h with _ h _
              exact absurd h (by decide))
          have hT6 : Tn (S.ft p) w W6 := (((Tn.of HB4.out : Tn (S.ft p) w u1).trans (Tn.grown (F := fun i => r.A = some i) HG5.out (fun i e => e)) (fun i h => .inl (HFt.out i h))).trans (show Tn (· = w2.heap.size) w5 W6 by rw [hW6]; exact tn_set _ _ _ _) (fun i h => .inr (by rw [h]; exact HB2.out.size)))
          have hpu := put_any B p S k hk r' (bs ++ data.data.toList) HFl.out W6 (Nat.le_trans hB hT6.size) hD6 hR6 (fun x hx hne g0 e0 e1 => by
            rcases HK5.out g0 e1 with h | h
            · obtain ⟨hh, hmem⟩ := HHs.out g0 h
              exact hD6.apart2 hx hmem hne e0 h
            · have := (HD4.out.ft_lt (.inr (.inr ⟨x, hx, e0⟩))).2
              omega)
          rw [show r'.val = .agg #[.slice A8 r'.n r'.c, .int .i64 (r.s : Int), .bool r.d] by unfold Rw.val; rw [HSl5.out, HS5.out, HDd5.out]] at hpu
          rw [← hW6]
          refine hpu.mono ?_
          rintro e w7 ⟨rfl, ⟨b', hb', hd7⟩, hT7⟩
          have HD7 := Lib.hid hd7
          have HMf : Hid (S.mp = some b' ∨ w.heap.size ≤ b') := Lib.hid (hb'.imp_right fun h => Nat.le_trans hT6.size h.2)
          have HMb := Lib.hid (hb'.imp_right fun h => h.1 : S.mp = some b' ∨ S.mp = none)
          have HT7 : Hid (Tn (S.ft p) w w7) := Lib.hid (hT6.trans hT7 (fun i h => .inl (h.elim .inl fun h => .inr (.inl h))))
          have HOp := Lib.hid (operate_any p ⟨S.cap, S.dn, S.lim, S.lft, some b', pt S.fs k (r', bs ++ data.data.toList)⟩ hl w7 hd7.blk)
          clear hd7 hT7 hb' hW6 hD6 hR6 hT6 hpu y0 f0 t0 t1 t2
          go_wp2_with fail
          refine HOp.out.mono ?_
          rintro e w8 ⟨rfl, hd8, hT8⟩
          have HD8 := Lib.hid (HD7.out.flag (opS_mp _).1 (opS_mp _).2.1 hd8 hT8)
          have HT8 := Lib.hid (HT7.out.trans hT8 (fun i h => .inl (.inl h)))
          clear hd8 hT8
          go_wp2_with fail
          go_ret
          refine ⟨?_, ⟨_, HD8.out, ?_, ?_⟩, HT8.out⟩
          · rw [HAE.out, if_pos HE.out, ← opS_e S ⟨S.cap, false, S.lim, S.lft, some b', pt S.fs k (r', bs ++ data.data.toList)⟩ rfl rfl]; rfl
          · rw [HAR.out, if_pos HE.out, ← HF.out]
            exact ⟨b', r', HMb.out, HN5.out, HS5.out, HDd5.out, rfl⟩
          · rintro i (h | h | ⟨x, hx, h⟩)
            · exact .inl (.inl h)
            · rw [(opS_mp _).1] at h
              injection h with h
              rcases HMf.out with e | e
              · exact .inl (.inr (.inl (by rw [e, h])))
              · exact .inr (by rw [← h]; exact e)
            · rw [(opS_mp _).2.1] at hx
              rcases mem_pt hx with rfl | ⟨hx, _⟩
              · rcases HK5.out i h with e | e
                · exact .inl (HFt.out i e)
                · exact .inr (Nat.le_trans HB4.out.size e)
              · exact .inl (.inr (.inr ⟨x, hx, h⟩))
      | false =>
        have hnf : nf < 256 := by
          rcases Nat.lt_or_ge nf 256 with h | h
          · exact h
          · exact absurd ⟨rfl, h⟩ hfull
        have hnI : decide ((256 : Int) ≤ (nf : Int)) = false := by simp; omega
        go_wp2_with (first
          | (at_lookup; (refine wpList_getm_okx rfl (.tmp 21) (.tmp 22) rfl S.mp (mv Prod.fst S.fs) rfl HM.out k hk rfl r HRaw.out false HRawB.out ?_); rw [HSl.out])
          | (refine wpList_store_row rfl _ _ _ rfl w2.heap.size #[.slice A9 r.n r.c, .int .i64 (r.s : Int), .bool r.d] rfl rfl 69 _ HA.out HSb.out rfl H1r.out ?_))
        rw [← HW3.out]
        clear c1 m1 q9
        have HK0 : Hid (∀ W, Below W3.heap.size W3 W → W.cell? ⟨p, 0, none⟩ = some (.int .i64 cap)) := Lib.hid (fun W h => by
          have := cell_of_row _ _ 0 _ _ _ (HD3.out.below h).blk
          simp [Ds.row] at this
          rw [← HCp.out] at this; exact this)
        have HQ0 : Hid (Below W3.heap.size W3 W3.drew) := Lib.hid (Below.refl _ _).drew
        have hws : IntKind.i64.wrap (cap - (us : Int)) = cap - (us : Int) := by simp only [IntKind.wrap_i64]; omega
        by_cases hroom : cap - (us : Int) < (data.size : Int)
        · have dr : decide (cap - (us : Int) < (data.size : Int)) = true := by simpa using hroom
          have HE : Hid (a0 = 28) := Lib.hid (by rw [HA0.out, if_neg HNf.out, if_pos hroom])
          go_region_held3 (fun W => W.cell? ⟨p, 0, none⟩ = some (.int .i64 cap))
              (first | exact HK0.out _ HQ1.out | exact HK0.out _ HQ0.out)
            ((first
              | (go_at_call 32; (with_reducible refine (HUs'.out _ (HD3.out.below HQ0.out)).mono ?_); rintro e u1 ⟨rfl, hb⟩; have HQ1 : Hid (Below W3.heap.size W3 u1) := Lib.hid (HQ0.out.trans (hb.mono HQ0.out.size)); clear hb)
              | fail))
          go_wp2_with fail
          go_ret
          refine ⟨by rw [HAE.out, if_neg (by rw [HE.out]; decide), HE.out]; rfl, ⟨S, HD3.out.below HQ1.out, ?_, fun i h => .inl h⟩, Tn.of (HB3.out.trans (HQ1.out.mono HB3.out.size))⟩
          rw [HAR.out, if_neg (by rw [HE.out]; decide)]
        · have dr : decide (cap - (us : Int) < (data.size : Int)) = false := by simpa using hroom
          have HE : Hid (a0 = 0) := Lib.hid (by rw [HA0.out, if_neg HNf.out, if_neg hroom])
          go_region_held3 (fun W => W.cell? ⟨p, 0, none⟩ = some (.int .i64 cap))
              (first | exact HK0.out _ HQ1.out | exact HK0.out _ HQ0.out)
            ((first
              | (go_at_call 32; (with_reducible refine (HUs'.out _ (HD3.out.below HQ0.out)).mono ?_); rintro e u1 ⟨rfl, hb⟩; have HQ1 : Hid (Below W3.heap.size W3 u1) := Lib.hid (HQ0.out.trans (hb.mono HQ0.out.size)); clear hb)
              | fail))
          have HB4 := Lib.hid (HB3.out.trans (HQ1.out.mono HB3.out.size))
          have HD4 := Lib.hid (HD3.out.below HQ1.out)
          have HX4 := Lib.hid ((HQ1.out.block w2.heap.size (Array.getElem?_eq_some_iff.1 HX3.out).1).trans HX3.out)
          have HR4 := Lib.hid (HRp.out.below HB4.out)
          have hX4 := (Array.getElem?_eq_some_iff.1 HX4.out).1
          have x0 := cell_of_row _ _ 0 _ _ _ HX4.out
          simp at x0
          clear hroom dr hws
          go_wp2_with (at_builtin; go_loud (refine wpList_app rfl (.tmp 49) (.tmp 50) rfl B r bs HSl.out.symm HR4.out data rfl (by have := HRn.out; omega) (Nat.le_trans hB HB4.out.size) ?_); go_loud (intro r' w5 hr5 hn5 hs5 hd5 hg5 hk5 ho5); obtain ⟨A8, hA8⟩ : ∃ A8, A8 = r'.A.map fun g => (⟨g, 0, none⟩ : Addr) := ⟨_, rfl⟩; have hsl : r'.sl = .slice A8 r'.n r'.c := (by rw [hA8]; rfl); rw [hsl]; have hX5 := (hg5.block w2.heap.size hX4 (box_ne HRp.out HB2.out)).trans HX4.out; have hz5 := hg5.size; have hX5l := (Array.getElem?_eq_some_iff.1 hX5).1; have y0 := cell_of_row _ _ 0 _ _ _ hX5; have f0 := frz hX5 0; simp at y0; have HR5 := Lib.hid hr5; have HN5 := Lib.hid hn5; have HS5 := Lib.hid hs5; have HDd5 := Lib.hid hd5; have HG5 := Lib.hid hg5; have HK5 := Lib.hid hk5; have HO5 := Lib.hid ho5; have HX5 := Lib.hid hX5; have HSl5 := Lib.hid hsl; have t0 := cell_of_row _ _ 0 _ _ _ (blk_set (off := 0) (.slice A8 r'.n r'.c) hX5); have t1 := cell_of_row _ _ 1 _ _ _ (blk_set (off := 0) (.slice A8 r'.n r'.c) hX5); have t2 := cell_of_row _ _ 2 _ _ _ (blk_set (off := 0) (.slice A8 r'.n r'.c) hX5); simp at t0 t1 t2; clear hr5 hn5 hs5 hd5 hg5 hk5 ho5 hX5 hsl hA8)
          have HW5 : Hid (Dk w5 B p S) := Lib.hid (HD4.out.grown HR4.out HG5.out HO5.out (fun h => by rw [HF.out]) HNo.out)
          obtain ⟨W6, hW6⟩ : ∃ W6, W6 = w5.setCell ⟨w2.heap.size, 0, none⟩ (.slice A8 r'.n r'.c) := ⟨_, rfl⟩
          have hD6 : Dk W6 B p S := by rw [hW6]; exact HW5.out.box HX5.out _
          have hR6 : Rp W6 B (r', bs ++ data.data.toList) := HR5.out.keep fun g hg => by
            rw [hW6]
            exact Below.heap_setCell w5 _ _ _ (fun e => by
              have e : g = w2.heap.size := e
              obtain ⟨cs, m, h⟩ := HR5.out.cells hg
              rw [e, HX5.out] at h
              injection h with h
              injection h with _ h _
              exact absurd h (by decide))
          have hT6 : Tn (S.ft p) w W6 := (((Tn.of HB4.out : Tn (S.ft p) w u1).trans (Tn.grown (F := fun i => r.A = some i) HG5.out (fun i e => e)) (fun i h => .inl (HFt.out i h))).trans (show Tn (· = w2.heap.size) w5 W6 by rw [hW6]; exact tn_set _ _ _ _) (fun i h => .inr (by rw [h]; exact HB2.out.size)))
          have hpu := put_any B p S k hk r' (bs ++ data.data.toList) HFl.out W6 (Nat.le_trans hB hT6.size) hD6 hR6 (fun x hx hne g0 e0 e1 => by
            rcases HK5.out g0 e1 with h | h
            · obtain ⟨hh, hmem⟩ := HHs.out g0 h
              exact hD6.apart2 hx hmem hne e0 h
            · have := (HD4.out.ft_lt (.inr (.inr ⟨x, hx, e0⟩))).2
              omega)
          rw [show r'.val = .agg #[.slice A8 r'.n r'.c, .int .i64 (r.s : Int), .bool r.d] by unfold Rw.val; rw [HSl5.out, HS5.out, HDd5.out]] at hpu
          rw [← hW6]
          refine hpu.mono ?_
          rintro e w7 ⟨rfl, ⟨b', hb', hd7⟩, hT7⟩
          have HD7 := Lib.hid hd7
          have HMf : Hid (S.mp = some b' ∨ w.heap.size ≤ b') := Lib.hid (hb'.imp_right fun h => Nat.le_trans hT6.size h.2)
          have HMb := Lib.hid (hb'.imp_right fun h => h.1 : S.mp = some b' ∨ S.mp = none)
          have HT7 : Hid (Tn (S.ft p) w w7) := Lib.hid (hT6.trans hT7 (fun i h => .inl (h.elim .inl fun h => .inr (.inl h))))
          have HOp := Lib.hid (operate_any p ⟨S.cap, S.dn, S.lim, S.lft, some b', pt S.fs k (r', bs ++ data.data.toList)⟩ hl w7 hd7.blk)
          clear hd7 hT7 hb' hW6 hD6 hR6 hT6 hpu y0 f0 t0 t1 t2
          go_wp2_with fail
          refine HOp.out.mono ?_
          rintro e w8 ⟨rfl, hd8, hT8⟩
          have HD8 := Lib.hid (HD7.out.flag (opS_mp _).1 (opS_mp _).2.1 hd8 hT8)
          have HT8 := Lib.hid (HT7.out.trans hT8 (fun i h => .inl (.inl h)))
          clear hd8 hT8
          go_wp2_with fail
          go_ret
          refine ⟨?_, ⟨_, HD8.out, ?_, ?_⟩, HT8.out⟩
          · rw [HAE.out, if_pos HE.out, ← opS_e S ⟨S.cap, false, S.lim, S.lft, some b', pt S.fs k (r', bs ++ data.data.toList)⟩ rfl rfl]; rfl
          · rw [HAR.out, if_pos HE.out, ← HF.out]
            exact ⟨b', r', HMb.out, HN5.out, HS5.out, HDd5.out, rfl⟩
          · rintro i (h | h | ⟨x, hx, h⟩)
            · exact .inl (.inl h)
            · rw [(opS_mp _).1] at h
              injection h with h
              rcases HMf.out with e | e
              · exact .inl (.inr (.inl (by rw [e, h])))
              · exact .inr (by rw [← h]; exact e)
            · rw [(opS_mp _).2.1] at hx
              rcases mem_pt hx with rfl | ⟨hx, _⟩
              · rcases HK5.out i h with e | e
                · exact .inl (HFt.out i e)
                · exact .inr (Nat.le_trans HB4.out.size e)
              · exact .inl (.inr (.inr ⟨x, hx, h⟩))
  · have d0 : (z != 0) = true := by simpa using h0
    have hA0 := H0.out
    rw [if_neg h0] at hA0
    have HA0 := Lib.hid hA0
    have HDd := Lib.hid (HDk.out.below HB2.out)
    have Hn0 := Lib.hid h0
    clear hA0 h0
    go_wp2_with fail
    go_ret
    refine ⟨by rw [HAE.out, if_neg (by rw [HA0.out]; exact Hn0.out), HA0.out]; rfl, ⟨S, HDd.out, ?_, fun i h => .inl h⟩, Tn.of HB2.out⟩
    rw [HAR.out, if_neg (by rw [HA0.out]; exact Hn0.out)]
end Go.Proofs.Ytjajmlamlmnljaa
