/- merged of two lists of keys. -/
import Derived.Test.YtajainkaomkbjaaBx
import Derived.Deep.RegionLaw
namespace Go.Proofs.Ytajainkaomkbjaa
open Go.ChangeShapes Go.WideShapes Go.ChangeAt Go.RowKit Go.Joins Bt

def slLen : Value → Nat
  | .slice _ n _ => n
  | _ => 0
theorem kr_head {w : World} {A : Option Addr} {x : Ky} {X : List Ky} (h : KR w A (x :: X)) : ∃ b off, A = some ⟨b, off, none⟩ ∧ b < w.heap.size ∧ w.cell? ⟨b, off, none⟩ = some (.int .i64 x.1) ∧ w.cell? ⟨b, off + 1, none⟩ = some (.string x.2) := by
  obtain ⟨b, off, e, hb, h0, h1⟩ := h.at 0 (by simp)
  refine ⟨b, off, e, hb, ?_, ?_⟩
  · simpa using h0
  · simpa using h1
theorem slv_tail {w : World} {A : Option Addr} {x : Ky} {X : List Ky} {c : Nat} (hR : KR w A (x :: X)) (hlc : X.length + 1 ≤ c) (hnl : A = none → c = 0) : SlV w (.slice (if c = 1 then A else A.map (fun a => a.add 2)) X.length (c - 1)) X := by
  have h := slv_drop (k := 1) hR (by simpa using hlc) hnl (by simp)
  simpa using h
theorem run_tail (W : World) (A : Option Addr) (l c : Nat) (hl : 1 ≤ l) (_hc : l ≤ c) : (Instr.slice 26 (.slice A l c) (some (.int .i64 1)) none none).run Try.prog W = .ok (.slice (if c = 1 then A else A.map (fun a => a.add 2)) (l - 1) (c - 1)) W := by
  simp [go_sem, Try.underlying26, show (1 : Int) ≤ (l : Int) by omega, sliced]
theorem blk_one (wr : World) (x1 : Int) (x2 : ByteArray) : (wr.alloc (.cells #[.int .i64 x1, .string x2] 50)).drew.heap[wr.heap.size]? = some (.cells #[.int .i64 x1, .string x2] 50 (0, 0)) := Deep.blk_alloc_new wr _
theorem kr_one (wr : World) (x1 : Int) (x2 : ByteArray) : KR (wr.alloc (.cells #[.int .i64 x1, .string x2] 50)).drew (some ⟨wr.heap.size, 0, none⟩) [(x1, x2)] := fun j hj => by
  obtain rfl : j = 0 := by simpa using hj
  exact ⟨_, 0, _, rfl, blk_one wr x1 x2, rfl, rfl⟩
theorem bel_one (wr : World) (x1 : Int) (x2 : ByteArray) : Below wr.heap.size wr (wr.alloc (.cells #[.int .i64 x1, .string x2] 50)).drew := ((Below.refl _ _).alloc (Nat.le_refl _) _).drew

theorem own_below {w w' : World} {base n e k : Nat} {v : Value} {xs : List Value} (h : w.ownsRow base e k v n xs) (hb : Below w.heap.size w w') : w'.ownsRow base e k v n xs :=
  h.kept (row := none) ⟨hb.os, hb.tape, hb.output, hb.size, fun i hi _ => hb.block i hi⟩ (Classical.em _)
theorem own_slk {w : World} {base n : Nat} {v : Value} {P : List Ky} (h : w.ownsRow base 50 2 v n (kyCells P)) : ∃ A c, v = .slice A n c := by
  obtain ⟨A, c, e, _⟩ := rs_own h
  exact ⟨A, c, e⟩

set_option maxRecDepth 100000 in
set_option maxHeartbeats 8000000 in
theorem merged_any (v u : Value) (L M : List Ky) (hl : L.length ≤ 1024) (hm : M.length ≤ 1024) (w : World) (hv : SlV w v L) (hu : SlV w u M) :
    Calls Try.prog 46 #[v, u, .func (.func 47) #[] #[]] w fun e w' => (∃ v', e = .returned v' ∧ SlV w' v' (mrg L M)) ∧ Below w.heap.size w w' := by
  have HV := Lib.hid hv
  have HU := Lib.hid hu
  obtain ⟨A0, c0, rfl, _, _, _⟩ := hv
  obtain ⟨B0, d0, rfl, _, _, _⟩ := hu
  obtain ⟨ln, hln⟩ : ∃ ln, ln = L.length := ⟨_, rfl⟩
  obtain ⟨lm, hlm⟩ : ∃ lm, lm = M.length := ⟨_, rfl⟩
  have HLn := Lib.hid hln
  have HLm := Lib.hid hlm
  rw [← hln] at HV ⊢
  rw [← hlm] at HU ⊢
  have HLs : Hid (L.length + M.length ≤ 2048) := Lib.hid (by omega)
  clear hln hlm hl hm
  go_enter Try.func46, Try.ntmps46
  go_wp2_with fail
  go_loopw [0, 1, 7] (fun av bv lv wr => ∃ X Y P : List Ky, SlV w av X ∧ SlV w bv Y ∧ Hid (P ++ mrg X Y = mrg L M) ∧ P.length + X.length + Y.length ≤ 2048 ∧ Hid (wr.ownsRow w.heap.size 50 2 lv P.length (kyCells P)) ∧ Hid (Below w.heap.size w wr)) (fun av bv _ _ => slLen av + slLen bv)
  case atStart => exact ⟨L, M, [], HV.out, HU.out, Lib.hid rfl, by simpa using HLs.out, Lib.hid (own_nilk _ _), Lib.hid (Below.refl _ _)⟩
  case round =>
    obtain ⟨X, Y, P, hX, hY, HE, hlen, HO, HB⟩ := hrel
    obtain ⟨A7, c7, rfl⟩ := own_slk HO.out
    obtain ⟨A, c, rfl, hXc, hXn, hXR⟩ := hX
    obtain ⟨B, d, rfl, hYc, hYn, hYR⟩ := hY
    match X, Y with
    | [], Y =>
      simp only [List.length_nil] at hXc hlen ⊢
      have hE := HE.out
      rw [mrg_nil_l] at hE
      have HE2 : Hid (P ++ [] ++ Y = mrg L M) := Lib.hid (by rw [List.append_nil]; exact hE)
      have HVX : Hid (SlV w (.slice A 0 c) []) := Lib.hid ⟨A, c, rfl, hXc, hXn, hXR⟩
      have HVY : Hid (SlV w (.slice B Y.length d) Y) := Lib.hid ⟨B, d, rfl, hYc, hYn, hYR⟩
      have HVP := Lib.hid (SlV.own HO.out)
      have HPl : Hid (P.length ≤ 2048) := Lib.hid (by omega)
      have HYl : Hid (Y.length ≤ 2048) := Lib.hid (by omega)
      obtain ⟨lb, hlb⟩ : ∃ lb, lb = Y.length := ⟨_, rfl⟩
      obtain ⟨lp, hlp⟩ : ∃ lp, lp = P.length := ⟨_, rfl⟩
      rw [← hlb] at HVY ⊢
      rw [← hlp] at HVP ⊢
      clear hlb hlp hXc hXn hXR hYc hYn hYR hE hlen HE HO
      go_wp2_with fail
      have HBz : Hid (Below wr.heap.size wr (wr.alloc (.cells #[.slice A7 lp c7, .slice A 0 c, .slice B lb d] 26))) := Lib.hid ((Below.refl _ _).alloc (Nat.le_refl _) _)
      have HBw := Lib.hid (HB.out.trans (HBz.out.mono HB.out.size))
      refine (concat_any wr.heap.size _ _ _ P [] Y (Nat.le_trans HPl.out (by decide)) (by decide) (Nat.le_trans HYl.out (by decide)) _ _ (Deep.blk_alloc_new wr _) (HVP.out.below HBz.out) (HVX.out.below HBw.out) (HVY.out.below HBw.out)).mono ?_
      rintro e w1 ⟨⟨v', rfl, hown⟩, hb⟩
      have HBe := Lib.hid (HBw.out.trans (hb.mono HBw.out.size))
      have hs := SlV.own hown
      rw [HE2.out] at hs
      obtain ⟨A9, c9, rfl, hs2⟩ := hs
      have HS9 : Hid (SlV w1 _ (mrg L M)) := Lib.hid ⟨A9, c9, rfl, hs2⟩
      obtain ⟨l9, hl9⟩ : ∃ l9, l9 = (mrg L M).length := ⟨_, rfl⟩
      rw [← hl9] at HS9 ⊢
      clear hb hown hs2 hl9
      go_wp2_with fail
      go_ret
      exact ⟨⟨_, rfl, HS9.out⟩, HBe.out⟩
    | x :: X, [] =>
      have hE := HE.out
      rw [mrg_nil] at hE
      have HE2 : Hid (P ++ (x :: X) ++ [] = mrg L M) := Lib.hid (by rw [List.append_nil]; exact hE)
      have HVX : Hid (SlV w (.slice A (x :: X).length c) (x :: X)) := Lib.hid ⟨A, c, rfl, hXc, hXn, hXR⟩
      have HVY : Hid (SlV w (.slice B 0 d) []) := Lib.hid ⟨B, d, rfl, hYc, hYn, hYR⟩
      have HVP := Lib.hid (SlV.own HO.out)
      have HPl : Hid (P.length ≤ 2048) := Lib.hid (by omega)
      have hla0 : 0 < (x :: X).length := by simp
      have HXl : Hid ((x :: X).length ≤ 2048) := Lib.hid (by omega)
      simp only [List.length_nil] at ⊢
      obtain ⟨Z, hZ⟩ : ∃ Z, Z = x :: X := ⟨_, rfl⟩
      rw [← hZ] at HVX HE2 HXl hla0 ⊢
      obtain ⟨la, hla⟩ : ∃ la, la = Z.length := ⟨_, rfl⟩
      obtain ⟨lp, hlp⟩ : ∃ lp, lp = P.length := ⟨_, rfl⟩
      rw [← hla] at HVX hla0 ⊢
      rw [← hlp] at HVP ⊢
      have hlaI : (0 : Int) < (la : Int) := by omega
      clear hla hlp hXc hXn hXR hYc hYn hYR hE hlen HE HO hZ hla0
      go_wp2_with fail
      have HBz : Hid (Below wr.heap.size wr (wr.alloc (.cells #[.slice A7 lp c7, .slice A la c, .slice B 0 d] 26))) := Lib.hid ((Below.refl _ _).alloc (Nat.le_refl _) _)
      have HBw := Lib.hid (HB.out.trans (HBz.out.mono HB.out.size))
      refine (concat_any wr.heap.size _ _ _ P Z [] (Nat.le_trans HPl.out (by decide)) (Nat.le_trans HXl.out (by decide)) (by decide) _ _ (Deep.blk_alloc_new wr _) (HVP.out.below HBz.out) (HVX.out.below HBw.out) (HVY.out.below HBw.out)).mono ?_
      rintro e w1 ⟨⟨v', rfl, hown⟩, hb⟩
      have HBe := Lib.hid (HBw.out.trans (hb.mono HBw.out.size))
      have hs := SlV.own hown
      rw [HE2.out] at hs
      obtain ⟨A9, c9, rfl, hs2⟩ := hs
      have HS9 : Hid (SlV w1 _ (mrg L M)) := Lib.hid ⟨A9, c9, rfl, hs2⟩
      obtain ⟨l9, hl9⟩ : ∃ l9, l9 = (mrg L M).length := ⟨_, rfl⟩
      rw [← hl9] at HS9 ⊢
      clear hb hown hs2 hl9
      go_wp2_with fail
      go_ret
      exact ⟨⟨_, rfl, HS9.out⟩, HBe.out⟩
    | x :: X, y :: Y =>
      obtain ⟨la, hla⟩ : ∃ la, la = (x :: X).length := ⟨_, rfl⟩
      obtain ⟨lb, hlb⟩ : ∃ lb, lb = (y :: Y).length := ⟨_, rfl⟩
      obtain ⟨lp, hlp⟩ : ∃ lp, lp = P.length := ⟨_, rfl⟩
      have hla1 : la = X.length + 1 := by rw [hla]; rfl
      have hlb1 : lb = Y.length + 1 := by rw [hlb]; rfl
      obtain ⟨x1, x2⟩ := x
      obtain ⟨y1, y2⟩ := y
      obtain ⟨b1, o1, rfl, hb1, h0, h1⟩ := kr_head (hXR.below HB.out)
      obtain ⟨b2, o2, rfl, hb2, g0, g1⟩ := kr_head (hYR.below HB.out)
      dsimp only at h0 h1 g0 g1
      have hXc2 : X.length + 1 ≤ c := by simpa using hXc
      have hYc2 : Y.length + 1 ≤ d := by simpa using hYc
      have hVX0 : SlV w (.slice (some ⟨b1, o1, none⟩) la c) ((x1, x2) :: X) := ⟨_, c, by rw [hla], hXc, hXn, hXR⟩
      have hVY0 : SlV w (.slice (some ⟨b2, o2, none⟩) lb d) ((y1, y2) :: Y) := ⟨_, d, by rw [hlb], hYc, hYn, hYR⟩
      have hVX := slv_tail hXR hXc2 hXn
      have hVY := slv_tail hYR hYc2 hYn
      have hsX := fun W => run_tail W (some ⟨b1, o1, none⟩) la c (by omega) (by omega)
      have hsY := fun W => run_tail W (some ⟨b2, o2, none⟩) lb d (by omega) (by omega)
      obtain ⟨VX, hVXe⟩ : ∃ VX, VX = (if c = 1 then (some ⟨b1, o1, none⟩ : Option Addr) else (some ⟨b1, o1, none⟩ : Option Addr).map (fun a => a.add 2)) := ⟨_, rfl⟩
      obtain ⟨VY, hVYe⟩ : ∃ VY, VY = (if d = 1 then (some ⟨b2, o2, none⟩ : Option Addr) else (some ⟨b2, o2, none⟩ : Option Addr).map (fun a => a.add 2)) := ⟨_, rfl⟩
      rw [← hVXe] at hVX hsX
      rw [← hVYe] at hVY hsY
      obtain ⟨qa, hqa⟩ : ∃ qa, qa = la - 1 := ⟨_, rfl⟩
      obtain ⟨qb, hqb⟩ : ∃ qb, qb = lb - 1 := ⟨_, rfl⟩
      obtain ⟨ca, hca⟩ : ∃ ca, ca = c - 1 := ⟨_, rfl⟩
      obtain ⟨cb, hcb⟩ : ∃ cb, cb = d - 1 := ⟨_, rfl⟩
      rw [show X.length = qa by omega, ← hca] at hVX
      rw [show Y.length = qb by omega, ← hcb] at hVY
      rw [← hqa, ← hca] at hsX
      rw [← hqb, ← hcb] at hsY
      have HVX := Lib.hid hVX
      have HVY := Lib.hid hVY
      have HVX0 := Lib.hid hVX0
      have HVY0 := Lib.hid hVY0
      have HQ1 : Hid (la = qa + 1) := Lib.hid (by omega)
      have HQ2 : Hid (lb = qb + 1) := Lib.hid (by omega)
      have HXq : Hid (X.length = qa) := Lib.hid (by omega)
      have HYq : Hid (Y.length = qb) := Lib.hid (by omega)
      have hlen2 : lp + (qa + 1) + (qb + 1) ≤ 2048 := by simp only [List.length_cons] at hlen; omega
      have HM := Lib.hid (mrg_cons (x1, x2) (y1, y2) X Y)
      have HCl := Lib.hid (@ck_lt (x1, x2) (y1, y2))
      have HCg := Lib.hid (@ck_gt (x1, x2) (y1, y2))
      have HCp := Lib.hid (fun W => compare_any x1 y1 x2 y2 W)
      obtain ⟨r, hr⟩ : ∃ r, r = ckI (x1, x2) (y1, y2) := ⟨_, rfl⟩
      rw [← hr] at HCp HCl HCg
      have HO1 := HO
      rw [← hlp] at HO1 ⊢
      have HLp := Lib.hid hlp
      rw [← hla, ← hlb]
      have hla0 : (0 : Int) < (la : Int) := by omega
      have hlb0 : (0 : Int) < (lb : Int) := by omega
      have HC : Hid (wr.cell? ⟨b1, o1, none⟩ = some (.int .i64 x1) ∧ wr.cell? ⟨b1, o1 + 1, none⟩ = some (.string x2) ∧ wr.cell? ⟨b2, o2, none⟩ = some (.int .i64 y1) ∧ wr.cell? ⟨b2, o2 + 1, none⟩ = some (.string y2)) := Lib.hid ⟨h0, h1, g0, g1⟩
      have HP : Hid (∀ W, Below wr.heap.size wr W → W.cell? ⟨b1, o1, none⟩ = some (.int .i64 x1) ∧ W.cell? ⟨b1, o1 + 1, none⟩ = some (.string x2) ∧ W.cell? ⟨b2, o2, none⟩ = some (.int .i64 y1) ∧ W.cell? ⟨b2, o2 + 1, none⟩ = some (.string y2)) := Lib.hid (fun W h => ⟨(h.cell hb1).trans h0, (h.cell hb1).trans h1, (h.cell hb2).trans g0, (h.cell hb2).trans g1⟩)
      have HD0 : Hid (Below wr.heap.size wr wr.drew) := Lib.hid (Below.refl _ _).drew
      clear hla hlb hlp hla1 hlb1 h0 h1 g0 g1 hXc hXn hXR hYc hYn hYR hXc2 hYc2 hVX0 hVY0 hVX hVY hVXe hVYe hqa hqb hca hcb hr hlen HO hb1 hb2
      have hsX2 := Lib.hid hsX
      have hsY2 := Lib.hid hsY
      clear hsX hsY
      go_wp2_with fail
      go_region_held3 (fun W => W.cell? ⟨b1, o1, none⟩ = some (.int .i64 x1) ∧ W.cell? ⟨b1, o1 + 1, none⟩ = some (.string x2) ∧ W.cell? ⟨b2, o2, none⟩ = some (.int .i64 y1) ∧ W.cell? ⟨b2, o2 + 1, none⟩ = some (.string y2))
        (first | exact HP.out _ HD1.out | exact HP.out _ HD0.out)
        ((first
          | (go_at_call 47; (with_reducible refine (HCp.out _).mono ?_); rintro e w1 ⟨rfl, hbc⟩; have HD1 : Hid (Below wr.heap.size wr w1) := Lib.hid (HD0.out.trans (hbc.mono HD0.out.size)); clear hbc)
          | fail))
      obtain ⟨h0, h1, g0, g1⟩ := HP.out _ HD1.out
      have HO2 : Hid (∀ z1 z2, (w1.alloc (.cells #[.int .i64 z1, .string z2] 50)).drew.ownsRow w.heap.size 50 2 (.slice A7 lp c7) lp (kyCells P)) := Lib.hid (fun z1 z2 => own_below HO1.out (HD1.out.trans ((bel_one w1 z1 z2).mono HD1.out.size)))
      have HBo : Hid (∀ z1 z2, Below w.heap.size w (w1.alloc (.cells #[.int .i64 z1, .string z2] 50)).drew) := Lib.hid (fun z1 z2 => HB.out.trans ((HD1.out.trans ((bel_one w1 z1 z2).mono HD1.out.size)).mono HB.out.size))
      have hE := HE.out
      rw [HM.out] at hE
      by_cases hlt : r < 0
      · rw [if_pos (HCl.out.1 hlt)] at hE
        have HE2 : Hid ((P ++ [(x1, x2)]) ++ mrg X ((y1, y2) :: Y) = mrg L M) := Lib.hid (by rw [List.append_assoc]; exact hE)
        have d1 : decide (r < 0) = true := by simpa using hlt
        have hsX := hsX2.out
        clear hlt hE
        go_wp2_with fail
        go_region_law ((first
          | (refine step_append_ky rfl (.tmp 38) (.tmp 42) rfl w.heap.size (.slice A7 lp c7) lp P (by rfl) (HO2.out x1 x2) (some ⟨w1.heap.size, 0, none⟩) 1 1 (by rfl) [(x1, x2)] rfl (fun e => nomatch e) (Nat.le_refl _) (kr_one w1 x1 x2) (by omega) (HBo.out x1 x2).size ?_; intro v2 w2 hown hg; have HO3 := Lib.hid hown; have HB3 := Lib.hid (below_grownk (B := w.heap.size) (a := w) (HBo.out x1 x2) (HO2.out x1 x2) hg (Nat.le_refl _) (Nat.le_refl _)); clear hown hg)
          | fail))
        all_goals
          go_wp2_with fail
          go_roundw
          case rel =>
            (repeat apply Exists.intro)
            exact ⟨⟨X, ((y1, y2) :: Y), P ++ [(x1, x2)], HVX.out, HVY0.out, HE2, by simp only [List.length_append, List.length_cons, List.length_nil]; rw [← HLp.out, HXq.out, HYq.out]; omega, Lib.hid (by rw [List.length_append, ← HLp.out]; exact HO3.out), HB3⟩, rfl⟩
          case measure =>
            have := HQ1.out
            have := HQ2.out
            show qa + lb < la + lb
            omega
      · have d1 : decide (r < 0) = false := by simpa using hlt
        rw [if_neg (fun e => hlt (HCl.out.2 e))] at hE
        by_cases hgt : 0 < r
        · rw [if_pos (HCg.out.1 hgt)] at hE
          have HE2 : Hid ((P ++ [(y1, y2)]) ++ mrg ((x1, x2) :: X) Y = mrg L M) := Lib.hid (by rw [List.append_assoc]; exact hE)
          have d2 : decide (0 < r) = true := by simpa using hgt
          have hsY := hsY2.out
          clear hlt hgt hE
          go_wp2_with fail
          go_region_law ((first
            | (refine step_append_ky rfl (.tmp 49) (.tmp 53) rfl w.heap.size (.slice A7 lp c7) lp P (by rfl) (HO2.out y1 y2) (some ⟨w1.heap.size, 0, none⟩) 1 1 (by rfl) [(y1, y2)] rfl (fun e => nomatch e) (Nat.le_refl _) (kr_one w1 y1 y2) (by omega) (HBo.out y1 y2).size ?_; intro v2 w2 hown hg; have HO3 := Lib.hid hown; have HB3 := Lib.hid (below_grownk (B := w.heap.size) (a := w) (HBo.out y1 y2) (HO2.out y1 y2) hg (Nat.le_refl _) (Nat.le_refl _)); clear hown hg)
            | fail))
          all_goals
            go_wp2_with fail
            go_roundw
            case rel =>
              (repeat apply Exists.intro)
              exact ⟨⟨((x1, x2) :: X), Y, P ++ [(y1, y2)], HVX0.out, HVY.out, HE2, by simp only [List.length_append, List.length_cons, List.length_nil]; rw [← HLp.out, HXq.out, HYq.out]; omega, Lib.hid (by rw [List.length_append, ← HLp.out]; exact HO3.out), HB3⟩, rfl⟩
            case measure =>
              have := HQ1.out
              have := HQ2.out
              show la + qb < la + lb
              omega
        · rw [if_neg (fun e => hgt (HCg.out.2 e))] at hE
          have HE2 : Hid ((P ++ [(x1, x2)]) ++ mrg X Y = mrg L M) := Lib.hid (by rw [List.append_assoc]; exact hE)
          have d2 : decide (0 < r) = false := by simpa using hgt
          have hsX := hsX2.out
          have hsY := hsY2.out
          clear hlt hgt hE
          go_wp2_with fail
          go_region_law ((first
            | (refine step_append_ky rfl (.tmp 25) (.tmp 29) rfl w.heap.size (.slice A7 lp c7) lp P (by rfl) (HO2.out x1 x2) (some ⟨w1.heap.size, 0, none⟩) 1 1 (by rfl) [(x1, x2)] rfl (fun e => nomatch e) (Nat.le_refl _) (kr_one w1 x1 x2) (by omega) (HBo.out x1 x2).size ?_; intro v2 w2 hown hg; have HO3 := Lib.hid hown; have HB3 := Lib.hid (below_grownk (B := w.heap.size) (a := w) (HBo.out x1 x2) (HO2.out x1 x2) hg (Nat.le_refl _) (Nat.le_refl _)); clear hown hg)
            | fail))
          all_goals
            go_wp2_with fail
            go_roundw
            case rel =>
              (repeat apply Exists.intro)
              exact ⟨⟨X, Y, P ++ [(x1, x2)], HVX.out, HVY.out, HE2, by simp only [List.length_append, List.length_cons, List.length_nil]; rw [← HLp.out, HXq.out, HYq.out]; omega, Lib.hid (by rw [List.length_append, ← HLp.out]; exact HO3.out), HB3⟩, rfl⟩
            case measure =>
              have := HQ1.out
              have := HQ2.out
              show qa + qb < la + lb
              omega
end Go.Proofs.Ytajainkaomkbjaa
