/- The example of the chapter. -/
import Derived.Test.YtjajmlamlmnljaaDq
namespace Go.Proofs.Ytjajmlamlmnljaa
open Go.ChangeShapes Go.WideShapes Go.ChangeAt Go.RowKit Go.Joins Go.Maps Go.ChangeMaps Go.MapKept

def ka : ByteArray := ⟨#[97]⟩
def kb : ByteArray := ⟨#[98]⟩
theorem ab : bl ka kb = true := (bl_iff _ _).2 (by decide)
theorem ne_ab : ka ≠ kb := bl_not ab
theorem nm_a : nmK ka = true := by decide
theorem nm_b : nmK kb = true := by decide
/-- A disk that is up and has no limit. -/
abbrev Up (c : Int) (m : Option Nat) (L : List (Ct Fl)) : Ds := ⟨c, false, false, 0, m, L⟩
theorem ck_good {k : ByteArray} (hk : nmK k = true) : ckE false [k] = 0 := by simp [ckE, hk]
theorem ap_good {L : List (Ct Fl)} {m : Option Nat} {c : Int} {k data : ByteArray} (hk : nmK k = true) (hn : hs L k ∨ L.length < 256) (hc : (data.size : Int) ≤ c - (usF L : Int)) :
    apE (Up c m L) k data = 0 ∧ ∀ S', ApR (Up c m L) k data S' → ∃ b r, S' = Up c (some b) (pt L k (r, (gt L k).2 ++ data.data.toList)) ∧ r.n = (gt L k).1.n + data.size ∧ r.s = (gt L k).1.s ∧ r.d = (gt L k).1.d := by
  have h0 : ap0 (Up c m L) k data = 0 := by
    unfold ap0
    rw [if_pos (ck_good hk), if_neg (fun h => by
      rcases hn with hn | hn
      · exact h.1 hn
      · have := h.2; dsimp only at this; omega), if_neg (by dsimp only; omega)]
  refine ⟨by unfold apE; rw [if_pos h0]; rfl, fun S' h => ?_⟩
  unfold ApR at h
  rw [if_pos h0] at h
  obtain ⟨b, r, _, h1, h2, h3, h4⟩ := h
  exact ⟨b, r, h4, h1, h2, h3⟩
theorem app_step (B p : Nat) (c : Int) (m : Option Nat) (L : List (Ct Fl)) (hc0 : 0 ≤ c ∧ c ≤ 100000000) (hL : L.length ≤ 1000) (hu : usF L ≤ 100000000) (k : ByteArray) (hkz : k.size ≤ 1000) (data : ByteArray) (hdz : data.size ≤ 1000) (hk : nmK k = true) (hn : hs L k ∨ L.length < 256) (hc : (data.size : Int) ≤ c - (usF L : Int))
    (w0 w : World) (hB : B ≤ w0.heap.size) (hb : Below B w0 w) (hD : Dk w B p (Up c m L)) :
    Calls Try.prog 24 #[.pointer (some ⟨p, 0, none⟩), .string k, .string data] w fun e w' => e = .returned (.int .i64 0) ∧ (∃ b r, Dk w' B p (Up c (some b) (pt L k (r, (gt L k).2 ++ data.data.toList))) ∧ r.n = (gt L k).1.n + data.size ∧ r.s = (gt L k).1.s ∧ r.d = (gt L k).1.d) ∧ Below B w0 w' := by
  have hg := ap_good (m := m) hk hn hc
  refine (append_any B p (Up c m L) (show (0 : Int) ≤ 0 ∧ (0 : Int) ≤ 9223372036854775807 from by decide) (Nat.le_trans hL (by decide)) hu hc0 k (Nat.le_trans hkz (by decide)) data (Nat.le_trans hdz (by decide)) w (Nat.le_trans hB hb.size) hD).mono ?_
  rintro e w' ⟨rfl, ⟨S', hD', hA, _⟩, hT⟩
  obtain ⟨b, r, rfl, h1, h2, h3⟩ := hg.2 S' hA
  exact ⟨by rw [hg.1], ⟨b, r, hD', h1, h2, h3⟩, hT.below hb (fun i hi => (hD.ft_lt hi).1) hB⟩
theorem fn_good {S : Ds} {k : ByteArray} (hd : S.dn = false) (hk : nmK k = true) (hh : hs S.fs k) : fnE S [k] k = ((gt S.fs k).1, 0) := by
  unfold fnE; rw [hd, if_pos (ck_good hk), if_pos hh]
theorem sync_step (B p : Nat) (c : Int) (m : Option Nat) (L : List (Ct Fl)) (hL : L.length ≤ 1000) (k : ByteArray) (hkz : k.size ≤ 1000) (hk : nmK k = true) (hh : hs L k)
    (w0 w : World) (hB : B ≤ w0.heap.size) (hb : Below B w0 w) (hD : Dk w B p (Up c m L)) :
    Calls Try.prog 22 #[.pointer (some ⟨p, 0, none⟩), .string k] w fun e w' => e = .returned (.int .i64 0) ∧ Dk w' B p (Up c m (sySL L k)) ∧ Below B w0 w' := by
  have hf := fn_good (S := Up c m L) rfl hk hh
  have hg : bgE (Up c m L) [k] k = (Up c m L, (gt L k).1, 0) := by
    unfold bgE; rw [hf, if_pos rfl]; rfl
  have hy : syS (Up c m L) k = (Up c m (sySL L k), 0) := by
    unfold syS; rw [hg, if_pos rfl]
  refine (sync_any B p (Up c m L) (show (0 : Int) ≤ 0 ∧ (0 : Int) ≤ 9223372036854775807 from by decide) (Nat.le_trans hL (by decide)) k (Nat.le_trans hkz (by decide)) w (Nat.le_trans hB hb.size) hD).mono ?_
  rintro e w' ⟨rfl, hD', hT⟩
  rw [hy] at hD'
  exact ⟨by rw [hy], hD', hT.below hb (fun i hi => (hD.ft_lt (hi.elim .inl fun h => .inr (.inl h))).1) hB⟩
theorem gt_one (k : ByteArray) (v : Fl) : gt [(k, v)] k = v := if_pos rfl
theorem pt_one (k : ByteArray) (v v' : Fl) : pt [(k, v)] k v' = [(k, v')] := if_pos rfl
theorem gt_ab (v : Fl) : gt [(ka, v)] kb = (⟨none, 0, 0, 0, false⟩, []) := by
  rw [gt, if_neg ne_ab]; rfl
theorem pt_ab (v x : Fl) : pt [(ka, v)] kb x = [(ka, v), (kb, x)] := by
  rw [pt, if_neg ne_ab, if_pos ab]; rfl
theorem us_one (k : ByteArray) (r : Rw) (bs : List UInt8) : usF [(k, (r, bs))] = r.n := by simp [usF, sv]
theorem st_ex {r r' : Rw} (hn : r.n = 4) (hs : r.s = 2) (hd : r.d = true) (hd' : r'.d = false) : stF [(ka, (r, [120, 121, 122, 119])), (kb, (r', [113]))] [1] = [(ka, (⟨r.A, 3, r.c, 3, true⟩, [120, 121, 122]))] := by
  simp [stF, cutN, hn, hs, hd, hd']
theorem gt_nil (k : ByteArray) : gt ([] : List (Ct Fl)) k = (⟨none, 0, 0, 0, false⟩, []) := rfl
set_option maxRecDepth 100000 in
set_option maxHeartbeats 4000000 in
theorem known_any (w : World) :
    Calls Try.prog 12 #[] w fun e w' => e = .returned (.bool true) ∧ Below w.heap.size w w' := by
  have HNw := Lib.hid (new_any 100 w)
  obtain ⟨B, hB⟩ : ∃ B, B = w.heap.size := ⟨_, rfl⟩
  have HBe := Lib.hid hB
  clear hB
  go_enter Try.func12, Try.ntmps12
  go_wp2_with fail
  refine HNw.out.mono ?_
  rintro e w1 ⟨h, hb⟩
  rw [if_neg (by omega)] at h
  obtain ⟨rfl, hD⟩ := h
  rw [← HBe.out] at hb hD ⊢
  obtain ⟨p, hp⟩ : ∃ p, p = B := ⟨_, rfl⟩
  rw [show Dk w1 B B = Dk w1 B p by rw [hp]] at hD
  have HPe := Lib.hid hp
  rw [← hp]
  have HB1 := Lib.hid hb
  have HD1 : Hid (Dk w1 B p (Up 100 none [])) := Lib.hid hD
  clear hb hD hp
  have HBl : Hid (B ≤ w.heap.size) := Lib.hid (by rw [HBe.out]; exact Nat.le_refl _)
  go_wp2_with fail
  refine (app_step B p 100 none [] (by decide) (by decide) (by decide) ka (by decide) ⟨#[120, 121]⟩ (by decide) nm_a (.inr (by decide)) (by decide) w w1 HBl.out HB1.out HD1.out).mono ?_
  rintro e w2 ⟨rfl, ⟨b2, r2, hD, h1, h2, h3⟩, hb⟩
  have HD2 : Hid (Dk w2 B p (Up 100 (some b2) [(ka, (r2, [120, 121]))])) := Lib.hid hD
  have HB2 := Lib.hid hb
  have HR2 : Hid (r2.n = 2) := Lib.hid h1
  clear hD h1 h2 h3 hb
  go_wp2_with fail
  refine (sync_step B p 100 (some b2) [(ka, (r2, [120, 121]))] (by simp) ka (by decide) nm_a (by simp [hs]) w w2 HBl.out HB2.out HD2.out).mono ?_
  rintro e w3 ⟨rfl, hD, hb⟩
  rw [sySL, gt_one, pt_one] at hD
  have HD3 : Hid (Dk w3 B p (Up 100 (some b2) [(ka, (⟨r2.A, r2.n, r2.c, r2.n, true⟩, [120, 121]))])) := Lib.hid hD
  have HB3 := Lib.hid hb
  clear hD hb
  go_wp2_with fail
  refine (app_step B p 100 (some b2) [(ka, (⟨r2.A, r2.n, r2.c, r2.n, true⟩, [120, 121]))] (by decide) (by simp) (by rw [us_one]; show r2.n ≤ _; rw [HR2.out]; decide) ka (by decide) ⟨#[122, 119]⟩ (by decide) nm_a (.inl (by simp [hs])) (by rw [us_one]; show _ ≤ (100 : Int) - (r2.n : Int); rw [HR2.out]; decide) w w3 HBl.out HB3.out HD3.out).mono ?_
  rintro e w4 ⟨rfl, ⟨b4, r4, hD, h1, h2, h3⟩, hb⟩
  rw [gt_one, pt_one] at hD
  rw [gt_one] at h1 h2 h3
  have HD4 : Hid (Dk w4 B p (Up 100 (some b4) [(ka, (r4, [120, 121, 122, 119]))])) := Lib.hid hD
  have HB4 := Lib.hid hb
  have HR4 : Hid (r4.n = 4 ∧ r4.s = 2 ∧ r4.d = true) := Lib.hid ⟨by rw [h1]; show r2.n + 2 = 4; rw [HR2.out], by rw [h2]; exact HR2.out, h3⟩
  clear hD h1 h2 h3 hb
  go_wp2_with fail
  refine (app_step B p 100 (some b4) [(ka, (r4, [120, 121, 122, 119]))] (by decide) (by simp) (by rw [us_one, HR4.out.1]; decide) kb (by decide) ⟨#[113]⟩ (by decide) nm_b (.inr (by simp)) (by rw [us_one, HR4.out.1]; decide) w w4 HBl.out HB4.out HD4.out).mono ?_
  rintro e w5 ⟨rfl, ⟨b5, r5, hD, h1, h2, h3⟩, hb⟩
  rw [gt_ab, pt_ab] at hD
  rw [gt_ab] at h1 h2 h3
  have HD5 : Hid (Dk w5 B p (Up 100 (some b5) [(ka, (r4, [120, 121, 122, 119])), (kb, (r5, [113]))])) := Lib.hid hD
  have HB5 := Lib.hid hb
  have HR5 : Hid (r5.n = 1 ∧ r5.d = false) := Lib.hid ⟨h1, h3⟩
  clear hD h1 h2 h3 hb
  go_wp2_with fail
  refine (crash_any p _ w5 HD5.out.blk).mono ?_
  rintro e w6 ⟨rfl, hd, hT⟩
  have HD6 : Hid (Dk w6 B p ⟨100, true, false, 0, some b5, [(ka, (r4, [120, 121, 122, 119])), (kb, (r5, [113]))]⟩) := Lib.hid (HD5.out.flag rfl rfl hd hT)
  have HB6 : Hid (Below B w w6) := Lib.hid (hT.below HB5.out (fun i hi => by rw [hi]; exact HD5.out.lo) HBl.out)
  clear hd hT
  obtain ⟨W6, hW6⟩ : ∃ W6, W6 = w6.alloc (.cells #[.int .i64 1] 3) := ⟨_, rfl⟩
  have hb6 : Below w6.heap.size w6 W6 := by rw [hW6]; exact (Below.refl _ _).alloc (Nat.le_refl _) _
  have hk6 : W6.heap[w6.heap.size]? = some (.cells #[.int .i64 1] 3 (0, 0)) := by rw [hW6]; exact Deep.blk_alloc_new _ _
  have hO : W6.ownsRow w6.heap.size 3 1 (.slice (some ⟨w6.heap.size, 0, none⟩) 1 1) 1 ([(1 : Int)].map (Value.int .i64)) := ⟨rfl, .inr ⟨w6.heap.size, 1, #[.int .i64 1], rfl, Nat.le_refl _, hk6, Nat.le_refl _, by unfold maxLen; decide, rfl, rfl⟩⟩
  have HSt := Lib.hid (start_any B p ⟨100, true, false, 0, some b5, [(ka, (r4, [120, 121, 122, 119])), (kb, (r5, [113]))]⟩ (by simp) (by intro x hx; simp at hx; rcases hx with rfl | rfl; exact (by decide : ka.size ≤ 1000000); exact (by decide : kb.size ≤ 1000000)) (by
    intro x hx
    simp at hx
    rcases hx with rfl | rfl
    · show r4.n ≤ _; rw [HR4.out.1]; decide
    · show r5.n ≤ _; rw [HR5.out.1]; decide) (some ⟨w6.heap.size, 0, none⟩) 1 [1] (by decide) (by decide) W6 (Nat.le_trans HBl.out (Nat.le_trans HB6.out.size hb6.size)) (HD6.out.below hb6) (Rd.own hO) (fun b off e => by
      injection e with e
      injection e with e1 _ _
      have h1 := HD6.out.lt
      have h2 := (HD6.out.ft_lt (i := b5) (.inr (.inl rfl))).2
      refine ⟨by omega, fun e => ?_⟩
      have e : some b5 = some b := e
      injection e with e
      omega))
  have HW6 := Lib.hid hW6
  have HB66 : Hid (Below B w W6) := Lib.hid (HB6.out.trans (hb6.mono (Nat.le_trans HBl.out HB6.out.size)))
  have HD66 := Lib.hid (HD6.out.below hb6)
  clear hW6 hb6 hk6 hO
  go_wp2_with fail
  try rw [← HW6.out]
  refine HSt.out.mono ?_
  rintro e w7 ⟨rfl, hD, hT⟩
  have HB7 : Hid (Below B w w7) := Lib.hid (hT.below HB66.out (fun i hi => (HD66.out.ft_lt (hi.elim .inl fun h => .inr (.inl h))).1) HBl.out)
  have HD7 : Hid (Dk w7 B p (Up 100 (some b5) [(ka, (⟨r4.A, 3, r4.c, 3, true⟩, [120, 121, 122]))])) := Lib.hid (by
    have h := hD
    rw [stS, if_pos rfl] at h
    dsimp only at h
    rw [st_ex HR4.out.1 HR4.out.2.1 HR4.out.2.2 HR5.out.2] at h
    exact h)
  clear hD hT HSt
  have hrd : rdE (Up 100 (some b5) [(ka, (⟨r4.A, 3, r4.c, 3, true⟩, [120, 121, 122]))]) ka = (⟨#[120, 121, 122]⟩, 0) := by
    unfold rdE
    rw [fn_good rfl nm_a (by simp [hs]), if_pos rfl, gt_one]
  have HRd := Lib.hid (read_any B p _ ka (by decide) w7 HD7.out)
  rw [hrd] at HRd
  clear hrd
  go_wp2_with fail
  refine HRd.out.mono ?_
  rintro e w8 ⟨rfl, hb⟩
  have HB8 := Lib.hid (HB7.out.trans (hb.mono (Nat.le_trans HBl.out HB7.out.size)))
  have HD8 := Lib.hid (HD7.out.below hb)
  clear hb
  go_wp2_with fail
  refine (list_any B p _ (by simp) w8 HD8.out).mono ?_
  rintro e w9 ⟨⟨v, rfl, ho⟩, hb⟩
  have HB9 := Lib.hid (HB8.out.trans (hb.mono (Nat.le_trans HBl.out HB8.out.size)))
  obtain ⟨A9, c9, rfl, hc9⟩ := own_slice ho
  have hR : Rd Value.string w9 A9 [ka] := Rd.own ho
  obtain ⟨ba, oa, rfl, hba, ha⟩ := hR 0 (by decide)
  have ha : w9.cell? ⟨ba, oa, none⟩ = some (.string ka) := ha
  clear hb hR ho
  have hkd : ka = (⟨#[97]⟩ : ByteArray) := rfl
  rw [hkd] at ha
  rw [show (liL (Up 100 (some b5) [(ka, (⟨r4.A, 3, r4.c, 3, true⟩, [120, 121, 122]))])).length = 1 from rfl]
  go_wp2_with fail
  go_ret
  exact ⟨by first | rfl | simp, by rw [← HBe.out]; exact HB9.out⟩
end Go.Proofs.Ytjajmlamlmnljaa
