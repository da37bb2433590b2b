/- insert. -/
import Derived.Test.YtajainkaomkbjaaBg
import Derived.Deep.RegionWith
namespace Go.Proofs.Ytajainkaomkbjaa
open Go.ChangeShapes Go.WideShapes Go.ChangeAt Go.RowKit Go.Joins Bt

/-- A reslice of keys from k on. -/
theorem slv_drop {w : World} {A : Option Addr} {L : List Ky} {c k : Nat} (hR : KR w A L) (hlc : L.length ≤ c) (hnl : A = none → c = 0) (hk : k ≤ L.length) : SlV w (.slice (if c = k then A else A.map (fun a => a.add (k * 2))) (L.length - k) (c - k)) (L.drop k) := by
  refine ⟨_, _, by rw [List.length_drop], by rw [List.length_drop]; omega, fun e => ?_, fun j hj => ?_⟩
  · split at e
    · omega
    · have := hnl (by cases A with | none => rfl | some a => simp at e)
      omega
  · rw [List.length_drop] at hj
    obtain ⟨b, off, cs, e, h1, h2, h3⟩ := hR (k + j) (by omega)
    subst e
    refine ⟨b, off + k * 2, cs, ?_, h1, ?_, ?_⟩
    · rw [if_neg (by omega)]
      simp only [Option.map_some, add_flat]
    · rw [List.getElem_drop, ← h2]; congr 1; omega
    · rw [List.getElem_drop, ← h3]; congr 1; omega
theorem slv_take {w : World} {A : Option Addr} {L : List Ky} {c k : Nat} (hR : KR w A L) (hlc : L.length ≤ c) (hnl : A = none → c = 0) (hk : k ≤ L.length) : SlV w (.slice A k c) (L.take k) :=
  ⟨A, c, by rw [List.length_take, Nat.min_eq_left hk], by rw [List.length_take]; omega, hnl, hR.take k⟩
theorem slv_one (w : World) (x : Int) (t : ByteArray) (W : World) (h : W.heap[w.heap.size]? = some (.cells #[.int .i64 x, .string t] 50 (0, 0))) : SlV W (.slice (some ⟨w.heap.size, 0, none⟩) 1 1) [(x, t)] :=
  ⟨_, 1, rfl, Nat.le_refl _, (fun e => nomatch e), fun j hj => by
    obtain rfl : j = 0 := by simpa using hj
    exact ⟨_, 0, _, rfl, h, rfl, rfl⟩⟩
set_option maxRecDepth 100000 in
set_option maxHeartbeats 2000000 in
theorem insert_any (g n : Nat) (sd : Int) (hn0 : 1 ≤ n) (hn : n ≤ 1024) (x : List Ky × Bool) (hS : Srt x.1) (hL : x.1.length ≤ n) (kh : Int) (kt : ByteArray) (w : World) (hk : Sk w g n sd x) :
    Calls Try.prog 41 #[.pointer (some ⟨g, 0, none⟩), .agg #[.int .i64 kh, .string kt]] w fun e w' => e = .returned (.tuple #[]) ∧ Sk w' g n sd (stp n x (kh, kt)) ∧ Gs g w w' := by
  obtain ⟨L, m⟩ := x
  dsimp only at hS hL
  obtain ⟨v, ⟨A, c, rfl, hlc, hnl, hR⟩, hg⟩ := hk
  dsimp only at hlc hR hg
  have hlw := lw_le L (kh, kt)
  have HG := Lib.hid hg
  have HR := Lib.hid hR
  have HNl := Lib.hid hnl
  have hgl := (Array.getElem?_eq_some_iff.1 hg).1
  have HBs := Lib.hid (fun W h => bsf_any A c L kh kt hS (by omega) W h)
  have HT : Hid (stp n (L, m) (kh, kt) = if L[lw L (kh, kt)]? = some (kh, kt) then (L, m) else if lw L (kh, kt) = n then (L, true) else kep n (L.take (lw L (kh, kt)) ++ [(kh, kt)] ++ L.drop (lw L (kh, kt))) m) := Lib.hid (by
    unfold stp kep
    simp only [List.append_assoc, List.singleton_append])
  obtain ⟨X, hX⟩ : ∃ X, X = stp n (L, m) (kh, kt) := ⟨_, rfl⟩
  rw [← hX] at HT ⊢
  obtain ⟨p, hp⟩ : ∃ p, p = lw L (kh, kt) := ⟨_, rfl⟩
  rw [← hp] at hlw HBs HT
  obtain ⟨r, hr⟩ : ∃ r, r = decide (L[p]? = some (kh, kt)) := ⟨_, rfl⟩
  rw [← hr] at HBs
  have HRr := Lib.hid hr
  have HP := Lib.hid (fun (W : World) (o k : Nat) (hB : Below w.heap.size w W) (ho : o < w.heap.size) => hB.cell (p := ⟨o, k, none⟩) ho)
  have C2 := Lib.hid (cell_of_row w g 2 _ _ _ hg)
  obtain ⟨ln, hln⟩ : ∃ ln, L.length = ln := ⟨_, rfl⟩
  have HLn := Lib.hid hln
  rw [hln] at hL hlc hlw HBs HG C2
  have HB0 : Hid (Below w.heap.size w (w.alloc (.cells #[.int .i64 kh, .string kt] 50))) := Lib.hid ((Below.refl _ _).alloc (Nat.le_refl _) _)
  have HK0 := Lib.hid (Deep.blk_alloc_new w (.cells #[.int .i64 kh, .string kt] 50))
  have D0 := Lib.hid (cell_of_row _ w.heap.size 0 _ _ _ HK0.out)
  have D1 := Lib.hid (cell_of_row _ w.heap.size 1 _ _ _ HK0.out)
  have hz0 : (w.alloc (.cells #[.int .i64 kh, .string kt] 50)).heap.size = w.heap.size + 1 := by simp
  have HZ := Lib.hid hz0
  clear hg hR hnl hp hr hX hln hz0 hS
  go_enter Try.func41, Try.ntmps41
  go_wp2_with fail
  go_region_held3 (fun W => W.cell? ⟨g, 2, none⟩ = some (.slice A ln c) ∧ W.cell? ⟨w.heap.size, 0, none⟩ = some (.int .i64 kh) ∧ W.cell? ⟨w.heap.size, 1, none⟩ = some (.string kt))
    (first | exact ⟨(HP.out _ g 2 HB0.out hgl).trans C2.out, D0.out, D1.out⟩ | exact ⟨(HP.out _ g 2 HB1.out hgl).trans C2.out, E0.out, E1.out⟩)
    ((first
      | (go_at_call 68; (with_reducible refine (HBs.out _ (HR.out.below HB0.out.drew)).mono ?_); rintro e w1 ⟨rfl, hb1⟩; have HB1 : Hid (Below w.heap.size w w1) := Lib.hid (HB0.out.drew.trans (hb1.mono HB0.out.drew.size)); have HK1 := Lib.hid ((hb1.block w.heap.size (by have := HZ.out; show _ < (World.alloc _ _).heap.size; omega)).trans HK0.out); have E0 := Lib.hid (cell_of_row _ w.heap.size 0 _ _ _ HK1.out); have E1 := Lib.hid (cell_of_row _ w.heap.size 1 _ _ _ HK1.out); clear hb1)
      | fail))
  cases r with
  | true =>
    have ht := HT.out
    rw [if_pos (of_decide_eq_true HRr.out.symm)] at ht
    have Ht := Lib.hid ht
    clear ht
    go_wp2_with fail
    refine bodyPost_end (results_none rfl _ _ _) rfl ⟨rfl, ?_, Gs.of HB1.out⟩
    rw [Ht.out]
    exact ⟨_, SlV.below (w := w) (L := L) ⟨A, c, by rw [HLn.out], by rw [HLn.out]; exact hlc, HNl.out, HR.out⟩ HB1.out, (HB1.out.block g hgl).trans HG.out⟩
  | false =>
    have hne := of_decide_eq_false HRr.out.symm
    have c0 := cell_of_row w1 g 0 _ _ _ ((HB1.out.block g hgl).trans HG.out)
    have c2 := cell_of_row w1 g 2 _ _ _ ((HB1.out.block g hgl).trans HG.out)
    have hgl1 : g < w1.heap.size := Nat.lt_of_lt_of_le hgl HB1.out.size
    simp at c0 c2
    by_cases hpn : p = n
    · have ht := HT.out
      rw [if_neg hne, if_pos hpn] at ht
      have Ht := Lib.hid ht
      clear ht
      have f3 := frozen_of_row w1 g 3 _ _ ((HB1.out.block g hgl).trans HG.out)
      have c3 := cell_of_row w1 g 3 _ _ _ ((HB1.out.block g hgl).trans HG.out)
      simp at c3
      subst hpn
      clear hne
      go_wp2_with fail
      refine bodyPost_end (results_none rfl _ _ _) rfl ⟨rfl, ?_, (Gs.of HB1.out).set _⟩
      rw [Ht.out]
      refine ⟨.slice A ln c, (⟨A, c, by rw [HLn.out], by rw [HLn.out]; exact hlc, HNl.out, (HR.out.below HB1.out).grown ((Gs.refl g w1).set _) ((HB1.out.block g hgl).trans HG.out) (by decide)⟩ : SlV _ _ L), ?_⟩
      rw [blk_set _ ((HB1.out.block g hgl).trans HG.out)]
      simp
    · have ht := HT.out
      rw [if_neg hne, if_neg hpn] at ht
      have Ht := Lib.hid ht
      clear ht
      have hpn2 : ((p : Int) == (n : Int)) = false := by rw [beq_eq_false_iff_ne]; omega
      have g0 := E0.out
      have g1 := E1.out
      have hzl : w.heap.size < w1.heap.size := (Array.getElem?_eq_some_iff.1 HK1.out).1
      have hV := slv_drop (HR.out.below HB1.out) (by rw [HLn.out]; exact hlc) HNl.out (by rw [HLn.out]; exact hlw)
      rw [HLn.out] at hV
      have hsl : ∀ W : World, (Instr.slice 26 (.slice A ln c) (some (.int .i64 (p : Int))) none none).run Try.prog W = .ok (.slice (if c = p then A else A.map (fun a => a.add (p * 2))) (ln - p) (c - p)) W := by
        intro W
        simp [go_sem, Try.underlying26, show (p : Int) ≤ (ln : Int) by omega, sliced]
      obtain ⟨V, hVe⟩ : ∃ V, V = (if c = p then A else A.map (fun a => a.add (p * 2))) := ⟨_, rfl⟩
      rw [← hVe] at hV hsl
      obtain ⟨q, hq⟩ : ∃ q, q = ln - p := ⟨_, rfl⟩
      obtain ⟨cq, hcq⟩ : ∃ cq, cq = c - p := ⟨_, rfl⟩
      rw [← hq, ← hcq] at hV hsl
      have HV := Lib.hid hV
      have Hq := Lib.hid hq
      clear hV hVe hne hpn hq hcq
      have hpl : (p : Int) ≤ (ln : Int) := by omega
      have hpc : (p : Int) ≤ (c : Int) := by omega
      have hp0 : (0 : Int) ≤ (p : Int) := by omega
      go_wp2_with fail
      have HB2 : Hid (Below w1.heap.size w1 ((w1.alloc (.cells #[.int .i64 kh, .string kt] 50)).alloc (.cells #[.slice A p c, .slice (some ⟨w1.heap.size, 0, none⟩) 1 1, .slice V q cq] 26)).drew) := Lib.hid (((Below.refl _ _).alloc (Nat.le_refl _) _).alloc (by simp) _).drew
      have HCc := Lib.hid (concat_any (w1.heap.size + 1) _ _ _ (L.take p) [(kh, kt)] (L.drop p) (by rw [List.length_take]; omega) (by simp) (by rw [List.length_drop, HLn.out]; omega) _ (((w1.alloc (.cells #[.int .i64 kh, .string kt] 50)).alloc (.cells #[.slice A p c, .slice (some ⟨w1.heap.size, 0, none⟩) 1 1, .slice V q cq] 26)).drew) (blk_over w1 _ _)
        (slv_take (HR.out.below (HB1.out.trans (HB2.out.mono HB1.out.size))) (by rw [HLn.out]; exact hlc) HNl.out (by rw [HLn.out]; exact hlw)) (slv_one w1 kh kt _ (blk_under w1 _ _)) (HV.out.below HB2.out))
      go_region_with (first
        | (go_at_call 69; (with_reducible refine HCc.out.mono ?_); rintro e w3 ⟨⟨v, rfl, hown⟩, hb3⟩; have HB3 : Hid (Below w1.heap.size w1 w3) := Lib.hid (HB2.out.trans (hb3.mono HB2.out.size)); have HO3 := Lib.hid (SlV.own hown); clear hown hb3)
        | (go_at_call 45; (with_reducible refine (keep_any g n sd hn m (.slice A ln c) v _ (by simp only [List.length_append, List.length_take, List.length_drop, List.length_singleton, HLn.out]; omega) w3 ((HB1.out.trans (HB3.out.mono HB1.out.size)).block g hgl |>.trans HG.out) HO3.out).mono ?_); rintro e w4 ⟨rfl, hsk, hgs⟩; have HS4 := Lib.hid hsk; have HG4 := Lib.hid hgs; clear hsk hgs))
      all_goals
        first | go_wp2_with fail | skip
        refine bodyPost_end (results_none rfl _ _ _) rfl ⟨rfl, ?_, (Gs.of (HB1.out.trans (HB3.out.mono HB1.out.size))).trans HG4.out⟩
        rw [Ht.out]
        exact HS4.out
end Go.Proofs.Ytajainkaomkbjaa
