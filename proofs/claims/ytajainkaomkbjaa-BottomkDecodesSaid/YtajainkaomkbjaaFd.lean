/- The law's decode. -/
import Derived.Test.YtajainkaomkbjaaFc
import Derived.Deep.RegionHeld3
import Derived.Deep.RegionWith
import Derived.Deep.DeepCutAuto
namespace Go.Proofs.Ytajainkaomkbjaa
open Go.ChangeShapes Go.WideShapes Go.ChangeAt Go.RowKit Go.Joins Bt

theorem blk_row {W W' : World} {z base n e k : Nat} {v : Value} {xs : List Value} {o : Obj} (h : W.heap[z]? = some o) (hown : W.ownsRow base e k v n xs) (hz : z < base) (hg : W.grownBy W' v.ownBlock) : W'.heap[z]? = some o :=
  (hg.block z (Array.getElem?_eq_some_iff.1 h).1 (fun e => by have := (hown.lt z e.symm).1; omega)).trans h
set_option maxRecDepth 100000 in
set_option maxHeartbeats 8000000 in
theorem rdecode_any (s : ByteArray) (hs : s.size ≤ 1000000) (w : World) :
    Calls Try.prog 36 #[.string s] w fun e w' => e = .returned (.int .i64 (dcE s)) ∧ Below w.heap.size w w' := by
  have HN := Lib.hid (fun W => E.new_reader s W)
  have HNm := Lib.hid (fun q st W h => E.number_q q s st hs W h)
  have HBo := Lib.hid (fun q st W h => E.bool_q q s st hs W h)
  have HCo := Lib.hid (fun q st W h => E.count_q q s st hs 1024 W h)
  have HTx := Lib.hid (fun q st W h => E.text_q q s st hs 4096 W h)
  have HEn := Lib.hid (fun q st W h => E.end_q q s st hs W h)
  have hcn := cn_nat s
  have HCn := Lib.hid hcn
  have HR1 : Hid (E.rdG 0 E.scan s (0, 0) = r1 s) := Lib.hid rfl
  have HR2 : Hid (E.rdG 0 E.scan s (r1 s).2 = r2 s) := Lib.hid rfl
  have HR3 : Hid (E.rdG false E.scanB s (r2 s).2 = r3 s) := Lib.hid rfl
  have HR4 : Hid (E.rdG 0 (E.scanZ 1024 6) s (r3 s).2 = r4 s) := Lib.hid rfl
  have HTT : Hid (∀ st, E.rdG ByteArray.empty (E.scanT 4096) s st = tx s st) := Lib.hid (fun st => rfl)
  have HEE : Hid (E.endE s (bdy s).2 = endD s) := Lib.hid rfl
  have HBd : Hid (bdy s = rdT s (cn s) (r4 s).2) := Lib.hid rfl
  have HLen : Hid ((bdy s).1.length = cn s) := Lib.hid (rdT_len _ _ _)
  have HSm : Hid (∀ t ∈ (bdy s).1, t.size ≤ 4096) := Lib.hid (rdT_small _ _ _)
  obtain ⟨n, hn⟩ : ∃ n, n = cn s := ⟨_, rfl⟩
  rw [← hn] at HCn HBd HLen
  have hn1 : n ≤ 1024 := HCn.out.2
  have HEr := Lib.hid (fun q st W h => E.err_q q s st W h)
  have HErr := Lib.hid (fun k st h => rdT_err s k st h)
  clear hcn hn
  obtain ⟨D, hD⟩ : ∃ q, q = dcE s := ⟨_, rfl⟩
  have HDe := Lib.hid hD
  rw [← hD]
  clear hD
  go_enter Try.func36, Try.ntmps36
  go_wp2_with fail
  with_reducible refine (HN.out _).mono ?_
  rintro e w1 ⟨rfl, hrs, hb⟩
  have HB := Lib.hid hb
  have HRP : Hid (E.RP w1 (some ⟨w.heap.size, 0, none⟩) s (0, 0)) := Lib.hid (.inr ⟨_, rfl, hrs⟩)
  have hg0 : w.heap.size < w1.heap.size := hrs.lt
  have HW1 : Hid (w.heap.size ≤ w1.heap.size) := Lib.hid (Nat.le_of_lt hg0)
  obtain ⟨g0, hg0e⟩ : ∃ g0, g0 = w.heap.size := ⟨_, rfl⟩
  have HG0 := Lib.hid hg0e
  have HG1 : Hid (g0 < w1.heap.size) := Lib.hid (by omega)
  rw [← hg0e] at HRP ⊢
  clear hrs hb hg0 hg0e
  go_wp2_with fail
  have HS : Hid (w1.heap.size ≤ w1.heap.size) := Lib.hid (Nat.le_refl _)
  with_reducible refine (HNm.out _ _ _ HRP.out).mono ?_
  rintro e w2 ⟨rfl, hrp, hgq⟩
  rw [HR1.out] at hrp ⊢
  replace HB := Lib.hid (bq_own HB.out hgq (Nat.le_of_eq HG0.out.symm) (Nat.le_refl _))
  replace HS := Lib.hid (Nat.le_trans HS.out hgq.size)
  replace HRP := Lib.hid hrp
  clear hrp hgq
  go_wp2_with fail
  with_reducible refine (HNm.out _ _ _ HRP.out).mono ?_
  rintro e w3 ⟨rfl, hrp, hgq⟩
  rw [HR2.out] at hrp ⊢
  replace HB := Lib.hid (bq_own HB.out hgq (Nat.le_of_eq HG0.out.symm) (Nat.le_refl _))
  replace HS := Lib.hid (Nat.le_trans HS.out hgq.size)
  replace HRP := Lib.hid hrp
  clear hrp hgq
  replace HRP := Lib.hid (HRP.out.below ((Below.refl w3.heap.size w3).alloc (Nat.le_refl _) (.cells #[.int .i64 (r1 s).1, .int .i64 (r2 s).1, .slice none 0 0] 28)))
  replace HB := Lib.hid (HB.out.alloc HB.out.size (.cells #[.int .i64 (r1 s).1, .int .i64 (r2 s).1, .slice none 0 0] 28))
  have HZ := Lib.hid (Deep.blk_alloc_new w3 (.cells #[.int .i64 (r1 s).1, .int .i64 (r2 s).1, .slice none 0 0] 28))
  have HGz : Hid (g0 < w3.heap.size) := Lib.hid (Nat.lt_of_lt_of_le HG1.out HS.out)
  have HLw : Hid (w.heap.size ≤ (w3.alloc (.cells #[.int .i64 (r1 s).1, .int .i64 (r2 s).1, .slice none 0 0] 28)).heap.size) := Lib.hid HB.out.size
  have HLz : Hid (w3.heap.size < (w3.alloc (.cells #[.int .i64 (r1 s).1, .int .i64 (r2 s).1, .slice none 0 0] 28)).heap.size) := Lib.hid (by rw [World.size_alloc]; omega)
  go_wp2_with fail
  obtain ⟨w4, hw4⟩ : ∃ q, q = w3.alloc (.cells #[.int .i64 (r1 s).1, .int .i64 (r2 s).1, .slice none 0 0] 28) := ⟨_, rfl⟩
  obtain ⟨z, hz⟩ : ∃ z, z = w3.heap.size := ⟨_, rfl⟩
  rw [← hw4] at HRP HB HZ HLw HLz ⊢
  rw [← hz] at HZ HGz HLz ⊢
  have HGl : Hid (g0 < w4.heap.size) := Lib.hid (Nat.lt_trans HGz.out HLz.out)
  have HNz : Hid (z ≠ g0) := Lib.hid (Nat.ne_of_gt HGz.out)
  obtain ⟨lo, hlo⟩ : ∃ lo, lo = w4.heap.size := ⟨_, rfl⟩
  rw [← hlo] at HLw HLz HGl
  replace HS : Hid (lo ≤ w4.heap.size) := Lib.hid (Nat.le_of_eq hlo)
  clear hw4 hz hlo
  with_reducible refine (HBo.out _ _ _ HRP.out).mono ?_
  rintro e w5 ⟨rfl, hrp, hgq⟩
  rw [HR3.out] at hrp ⊢
  replace HB := Lib.hid (bq_own HB.out hgq (Nat.le_of_eq HG0.out.symm) (Nat.le_refl _))
  replace HS := Lib.hid (Nat.le_trans HS.out hgq.size)
  replace HZ := Lib.hid (blk_other hgq HZ.out HNz.out)
  replace HRP := Lib.hid hrp
  clear hrp hgq
  go_wp2_with fail
  with_reducible refine (HCo.out _ _ _ HRP.out).mono ?_
  rintro e w6 ⟨rfl, hrp, hgq⟩
  rw [HR4.out] at hrp ⊢
  replace HB := Lib.hid (bq_own HB.out hgq (Nat.le_of_eq HG0.out.symm) (Nat.le_refl _))
  replace HS := Lib.hid (Nat.le_trans HS.out hgq.size)
  replace HZ := Lib.hid (blk_other hgq HZ.out HNz.out)
  replace HRP := Lib.hid hrp
  clear hrp hgq
  rw [HCn.out.1]
  go_wp2_with fail
  have HI0 : Hid ((bdy s).1 = [] ++ (rdT s (n - 0) (r4 s).2).1 ∧ (bdy s).2 = (rdT s (n - 0) (r4 s).2).2) := Lib.hid (by rw [HBd.out]; exact ⟨rfl, rfl⟩)
  have HDf : Hid (D = if endD s ≠ 0 then endD s else if (r1 s).1 < 1 ∨ 1024 < (r1 s).1 ∨ (r2 s).1 < 0 ∨ 1048576 < (r2 s).1 then 2 else if feK (bdy s).1 ≠ 0 then feK (bdy s).1 else if incB (kys (r2 s).1 (bdy s).1) = false then 8 else if (r1 s).1 < (n : Int) ∨ (n : Int) < (r1 s).1 ∧ (r3 s).1 = false then 3 else 0) := Lib.hid (by rw [HDe.out, ← HLen.out, show (bdy s).1.length = cn s from rdT_len _ _ _]; rfl)
  go_loopw [7, 8] (fun kv iv wr => ∃ (k : Nat) (acc : List ByteArray) (st : E.St), k ≤ n ∧ iv = .int .i64 (k : Int) ∧ Hid (wr.ownsRow lo 9 1 kv k (acc.map Value.string)) ∧ Hid (E.RP wr (some ⟨g0, 0, none⟩) s st) ∧ Hid ((bdy s).1 = acc ++ (rdT s (n - k) st).1 ∧ (bdy s).2 = (rdT s (n - k) st).2) ∧ Hid (lo ≤ wr.heap.size) ∧ Hid (wr.heap[z]? = some (.cells #[.int .i64 (r1 s).1, .int .i64 (r2 s).1, .slice none 0 0] 28 (0, 0))) ∧ Hid (Below w.heap.size w wr)) (fun _ iv _ => n - (intOf iv).toNat)
  case atStart => exact ⟨0, [], _, Nat.zero_le _, rfl, Lib.hid (own_nils _ _), HRP, HI0, HS, HZ, HB⟩
  case round =>
    obtain ⟨k, acc, st, hk, rfl, HO, HRP, HI, HS, HZ, HB⟩ := hrel
    by_cases hlt : k < n
    · have hkI : (k : Int) < (n : Int) := by omega
      have hk0 : (0 : Int) ≤ (k : Int) := by omega
      have hw1 : IntKind.i64.wrap ((k : Int) + 1) = (k : Int) + 1 := by simp only [IntKind.wrap_i64]; omega
      by_cases hst : st.2 = 0
      · have HI2 : Hid ((bdy s).1 = (acc ++ [(tx s st).1]) ++ (rdT s (n - (k + 1)) (tx s st).2).1 ∧ (bdy s).2 = (rdT s (n - (k + 1)) (tx s st).2).2) := Lib.hid (by
          have h := HI.out
          rw [show n - k = (n - (k + 1)) + 1 by omega] at h
          refine ⟨h.1.trans ?_, h.2⟩
          rw [List.append_assoc]; rfl)
        go_wp2_with fail
        with_reducible refine (HEr.out _ _ _ HRP.out).mono ?_
        rintro e wa0 ⟨rfl, rfl⟩
        rw [hst]
        clear hst
        go_wp2_with fail
        with_reducible refine (HTx.out _ _ _ HRP.out).mono ?_
        rintro e wa ⟨rfl, hrp, hgq⟩
        rw [HTT.out] at hrp ⊢
        replace HB := Lib.hid (bq_own HB.out hgq (Nat.le_of_eq HG0.out.symm) (Nat.le_refl _))
        replace HS := Lib.hid (Nat.le_trans HS.out hgq.size)
        replace HO := Lib.hid (own_gq HGl.out HO.out hgq)
        replace HZ := Lib.hid (blk_other hgq HZ.out HNz.out)
        obtain ⟨t, ht⟩ : ∃ t, t = (tx s st).1 := ⟨_, rfl⟩
        rw [← ht] at HI2 ⊢
        have HO1 := Lib.hid (HO.out.alloc (.cells #[.string t] 9))
        have HRP1 := Lib.hid (hrp.below ((Below.refl wa.heap.size wa).alloc (Nat.le_refl _) (.cells #[.string t] 9)))
        have HB1 := Lib.hid (HB.out.alloc HB.out.size (.cells #[.string t] 9))
        have HZ1 := Lib.hid (blk_below HZ.out ((Below.refl wa.heap.size wa).alloc (Nat.le_refl _) (.cells #[.string t] 9)))
        have HS1 : Hid (lo ≤ (wa.alloc (.cells #[.string t] 9)).heap.size) := Lib.hid (by rw [World.size_alloc]; have := HS.out; omega)
        have HK1 := Lib.hid (Deep.blk_alloc_new wa (.cells #[.string t] 9))
        clear hrp hgq ht
        go_wp2_with (at_builtin; refine wpList_append_str rfl (.tmp 36) (.tmp 39) rfl lo u7 k acc rfl HO1.out wa.heap.size 1 t 9 rfl HK1.out (by omega) HS1.out ?_; intro v2 w2a hown hg; have HO2 := Lib.hid hown; have HRP2 := Lib.hid (rp_row HRP1.out HGl.out HO1.out hg); have HZ2 := Lib.hid (blk_row HZ1.out HO1.out HLz.out hg); have HB2 := Lib.hid (below_grownBy HB1.out HO1.out hg HLw.out (Nat.le_refl _)); have HS2 := Lib.hid (Nat.le_trans HS1.out hg.size); clear hown hg)
        go_roundw
        case rel => exact ⟨k + 1, _, _, by omega, by go_num, HO2, HRP2, HI2, HS2, HZ2, HB2⟩
        case measure => simp [intOf] <;> omega
      · have HD2 : Hid (D = E.endE s st ∧ E.endE s st ≠ 0) := Lib.hid (by
          have e1 : (bdy s).2 = st := HI.out.2.trans (HErr.out _ _ hst)
          have e2 : endD s = E.endE s st := by unfold endD; rw [e1]
          have e3 : E.endE s st = st.2 := by unfold E.endE; rw [if_neg hst]
          refine ⟨?_, by rw [e3]; exact hst⟩
          rw [HDf.out, e2, if_pos (by rw [e3]; exact hst)])
        have p0 : (st.2 == 0) = false := by simpa using hst
        obtain ⟨q, hq⟩ : ∃ q, q = E.endE s st := ⟨_, rfl⟩
        have HEq := Lib.hid hq
        rw [← hq] at HD2
        have p1 : (q != 0) = true := by simpa using HD2.out.2
        clear hst hq
        go_wp2_with fail
        with_reducible refine (HEr.out _ _ _ HRP.out).mono ?_
        rintro e wa0 ⟨rfl, rfl⟩
        go_wp2_with fail
        with_reducible refine (HEn.out _ _ _ HRP.out).mono ?_
        rintro e wa ⟨rfl, hb⟩
        rw [← HEq.out]
        replace HB := Lib.hid (bz_call HB.out hb)
        clear hb
        go_wp2_with fail
        go_ret
        exact ⟨by rw [HD2.out.1]; rfl, HB.out⟩
    · obtain rfl : k = n := by omega
      have HA : Hid (acc = (bdy s).1 ∧ st = (bdy s).2) := Lib.hid (by
        have h := HI.out
        rw [Nat.sub_self] at h
        exact ⟨by rw [h.1]; simp [rdT], h.2.symm⟩)
      rw [HA.out.1] at HO
      rw [HA.out.2] at HRP
      go_wp2_with fail
      with_reducible refine (HEn.out _ _ _ HRP.out).mono ?_
      rintro e wa ⟨rfl, hb⟩
      rw [HEE.out]
      replace HB := Lib.hid (bz_call HB.out hb)
      replace HO := Lib.hid (own_below HO.out hb)
      replace HZ := Lib.hid (blk_below HZ.out hb)
      obtain ⟨A, c, rfl, hc, hr⟩ := out_own HO.out
      obtain ⟨N, hN⟩ : ∃ q, q = (r1 s).1 := ⟨_, rfl⟩
      obtain ⟨SD, hSD⟩ : ∃ q, q = (r2 s).1 := ⟨_, rfl⟩
      obtain ⟨X, hX⟩ : ∃ q, q = (r3 s).1 := ⟨_, rfl⟩
      obtain ⟨K, hK⟩ : ∃ q, q = (bdy s).1 := ⟨_, rfl⟩
      obtain ⟨En, hEn⟩ : ∃ q, q = endD s := ⟨_, rfl⟩
      have HKl : Hid (K.length = k) := Lib.hid (by rw [hK]; exact HLen.out)
      rw [← hN, ← hSD, ← hX, ← hK, ← hEn] at HDf
      rw [← hK] at HSm hr hc ⊢
      rw [← hN, ← hSD] at HZ
      rw [← hN, ← hSD, ← hX, ← hEn]
      have HR := Lib.hid hr
      rw [HKl.out] at hc ⊢
      have hsm : ∀ t ∈ K, t.size ≤ 1000000 := fun t ht => by have := HSm.out t ht; omega
      have HSm3 := Lib.hid hsm
      clear hb HDe hN hSD hX hK hEn hr hsm HO HI HA HRP HSm HEE HTT HR1 HR2 HR3 HR4 HLen HBd HCn HEn HTx HCo HBo HNm HN HEr HErr hs HI0 hk hlt HW1 HG1 HS HNz HGl HLz HLw HGz
      by_cases h1 : En = 0
      · subst h1
        have r0 := cell_of_row wa z 0 _ _ _ HZ.out
        have r1 := cell_of_row wa z 1 _ _ _ HZ.out
        simp at r0 r1
        by_cases h2 : N < 1 ∨ 1024 < N ∨ SD < 0 ∨ 1048576 < SD
        · have HD2 : Hid (D = 2) := Lib.hid (by rw [HDf.out, if_neg (by simp), if_pos h2])
          rcases (by omega : N < 1 ∨ (1 ≤ N ∧ 1024 < N) ∨ (1 ≤ N ∧ N ≤ 1024 ∧ SD < 0) ∨ (1 ≤ N ∧ N ≤ 1024 ∧ 0 ≤ SD ∧ 1048576 < SD)) with h | ⟨h', h⟩ | ⟨h', h'', h⟩ | ⟨h', h'', h''', h⟩
          · clear h2
            go_wp2_with fail
            go_ret
            exact ⟨by rw [HD2.out]; rfl, HB.out⟩
          · clear h2
            go_wp2_with fail
            go_ret
            exact ⟨by rw [HD2.out]; rfl, HB.out⟩
          · clear h2
            go_wp2_with fail
            go_ret
            exact ⟨by rw [HD2.out]; rfl, HB.out⟩
          · clear h2
            go_wp2_with fail
            go_ret
            exact ⟨by rw [HD2.out]; rfl, HB.out⟩
        · have HD1 : Hid (D = if feK K ≠ 0 then feK K else if incB (kys SD K) = false then 8 else if N < (k : Int) ∨ (k : Int) < N ∧ X = false then 3 else 0) := Lib.hid (by rw [HDf.out, if_neg (by simp), if_neg h2])
          obtain ⟨m, rfl⟩ : ∃ m : Nat, N = (m : Int) := ⟨N.toNat, by omega⟩
          have hm1 : (1 : Int) ≤ (m : Int) := by omega
          have hm2 : (m : Int) ≤ 1024 := by omega
          have hs1 : (0 : Int) ≤ SD := by omega
          have hs2 : SD ≤ 1048576 := by omega
          have HFa := Lib.hid (fun i h => @feK_at K i h)
          clear h2 HDf
          go_wp2_with fail
          clear r0 r1
          go_loopw [10] (fun iv wr => ∃ i : Nat, i ≤ k ∧ iv = .int .i64 (i : Int) ∧ Hid (∀ j (hj : j < K.length), j < i → chkK K[j] = 0) ∧ Hid (Below wa.heap.size wa wr)) (fun iv _ => k - (intOf iv).toNat)
          case atStart => exact ⟨0, Nat.zero_le _, rfl, Lib.hid (fun j hj h => by omega), Lib.hid (Below.refl _ _)⟩
          case round =>
            obtain ⟨i, hi, rfl, HQ, HW⟩ := hrel
            by_cases hlt : i < k
            · have hi2 : i < K.length := by rw [HKl.out]; exact hlt
              obtain ⟨b, off, rfl, hbl, h0⟩ := str_at (HR.out.below HW.out) i hi2
              have hz := HSm3.out _ (List.getElem_mem hi2)
              have HC : Hid (chkK K[i] ≠ 0 → D = chkK K[i]) := Lib.hid (fun hne => by
                have e : feK K = chkK K[i] := by
                  rw [HFa.out i HQ.out, List.drop_eq_getElem_cons hi2]
                  show (if chkK K[i] = 0 then _ else chkK K[i]) = _
                  rw [if_neg hne]
                rw [HD1.out, e, if_pos hne])
              have HQ2 : Hid (chkK K[i] = 0 → ∀ j (hj : j < K.length), j < i + 1 → chkK K[j] = 0) := Lib.hid (fun h j hj hl => by
                by_cases e : j = i
                · subst e; exact h
                · exact HQ.out j hj (by omega))
              obtain ⟨t, ht⟩ : ∃ t, t = K[i] := ⟨_, rfl⟩
              rw [← ht] at h0 hz HC HQ2
              have HCk := Lib.hid (fun W => check_law t hz W)
              obtain ⟨q, hq⟩ : ∃ q, q = chkK t := ⟨_, rfl⟩
              rw [← hq] at HCk HC HQ2
              have hiI : (i : Int) < (k : Int) := by omega
              have hi0 : (0 : Int) ≤ (i : Int) := by omega
              have hwi : IntKind.i64.wrap ((i : Int) + 1) = (i : Int) + 1 := by simp only [IntKind.wrap_i64]; omega
              clear ht hq hz
              go_wp2_with fail
              with_reducible refine (HCk.out _).mono ?_
              rintro e wd ⟨rfl, rfl⟩
              by_cases hq0 : q = 0
              · subst hq0
                have HQ3 := Lib.hid (HQ2.out rfl)
                go_wp2_with fail
                go_roundw
                case rel => exact ⟨i + 1, by omega, by go_num, HQ3, HW⟩
                case measure => simp [intOf] <;> omega
              · have HD2 := Lib.hid (HC.out hq0)
                have p1 : (q != 0) = true := by simpa using hq0
                clear hq0
                go_wp2_with fail
                go_ret
                exact ⟨by rw [HD2.out]; rfl, (bz_call HB.out HW.out)⟩
            · obtain rfl : i = k := by omega
              have HD2 : Hid (D = if incB (kys SD K) = false then 8 else if (m : Int) < (i : Int) ∨ (i : Int) < (m : Int) ∧ X = false then 3 else 0) := Lib.hid (by
                have e : feK K = 0 := by rw [HFa.out i HQ.out, List.drop_of_length_le (by rw [HKl.out]; exact Nat.le_refl _)]; rfl
                rw [HD1.out, e, if_neg (by simp)])
              have HZ := Lib.hid (blk_below HZ.out HW.out)
              have HB := Lib.hid (bz_call HB.out HW.out)
              have HR := Lib.hid (HR.out.below HW.out)
              have HIn := Lib.hid (@incB_get (kys SD K))
              clear HD1 HFa HQ hlt
              obtain ⟨r, hr⟩ : ∃ r, r = incB (kys SD K) := ⟨_, rfl⟩
              rw [← hr] at HIn HD2
              clear hr
              obtain ⟨wb, hwb⟩ : ∃ q, q = wr := ⟨_, rfl⟩
              rw [← hwb] at HZ HB HR ⊢
              clear hwb
              go_wp2_with fail
              go_loopw [12] (fun iv wr => ∃ j : Nat, 1 ≤ j ∧ (j ≤ i ∨ j = 1) ∧ iv = .int .i64 (j : Int) ∧ Hid (∀ q (h : q + 1 < (kys SD K).length), q + 1 < j → kl (kys SD K)[q] (kys SD K)[q + 1] = true) ∧ Hid (Below wb.heap.size wb wr)) (fun iv _ => i - (intOf iv).toNat)
              case atStart => exact ⟨1, Nat.le_refl _, .inr rfl, rfl, Lib.hid (fun q h hj => by omega), Lib.hid (Below.refl _ _)⟩
              case round =>
                obtain ⟨j, hj1, hj, rfl, HQ, HW⟩ := hrel
                have HZr := Lib.hid (blk_below HZ.out HW.out)
                have r0 := cell_of_row wr z 0 _ _ _ HZr.out
                have r1 := cell_of_row wr z 1 _ _ _ HZr.out
                simp at r0 r1
                by_cases hjl : j < i
                · obtain ⟨l, rfl⟩ : ∃ l, j = l + 1 := ⟨j - 1, by omega⟩
                  have hk2 : l + 1 < K.length := by rw [HKl.out]; exact hjl
                  obtain ⟨b, off, rfl, hbl, h0⟩ := str_at (HR.out.below HW.out) l (by omega)
                  obtain ⟨b', off', e, _, h1⟩ := str_at (HR.out.below HW.out) (l + 1) hk2
                  simp only [Option.some.injEq, Addr.mk.injEq, and_true] at e
                  obtain ⟨rfl, rfl⟩ := e
                  have hz0 := HSm3.out _ (List.getElem_mem (show l < K.length by omega))
                  have hz1 := HSm3.out _ (List.getElem_mem hk2)
                  have HKl2 : Hid (kl ((kys SD K)[l]'(by rw [kys_length]; omega)) ((kys SD K)[l + 1]'(by rw [kys_length]; exact hk2)) = kl (kyO SD K[l]) (kyO SD K[l + 1])) := Lib.hid (by rw [kys_at, kys_at])
                  obtain ⟨x, hx⟩ : ∃ s, s = K[l] := ⟨_, rfl⟩
                  obtain ⟨y, hy⟩ : ∃ s, s = K[l + 1] := ⟨_, rfl⟩
                  rw [← hx] at h0 hz0 HKl2
                  rw [← hy] at h1 hz1 HKl2
                  have CX := Lib.hid (fun W => htext_any SD x hz0 W)
                  have CY := Lib.hid (fun W => htext_any SD y hz1 W)
                  have CB := Lib.hid (fun W => before_any (hsh SD x) (hsh SD y) x y W)
                  have hkI : (l : Int) + 1 < (i : Int) := by omega
                  have hkI0 : (l : Int) < (i : Int) := by omega
                  have hk0 : (0 : Int) ≤ (l : Int) := by omega
                  have hk1 : (0 : Int) ≤ (l : Int) + 1 := by omega
                  have hw1 : IntKind.i64.wrap ((l : Int) + 1 - 1) = (l : Int) := by simp only [IntKind.wrap_i64]; omega
                  have hw0 : IntKind.i64.wrap (l : Int) = (l : Int) := by simp only [IntKind.wrap_i64]; omega
                  have hw3 : wrap64 ((l : Int) + 1 - 1) = (l : Int) := by unfold wrap64; omega
                  have hw2 : IntKind.i64.wrap ((l : Int) + 1 + 1) = (l : Int) + 1 + 1 := by simp only [IntKind.wrap_i64]; omega
                  have hci : (((l + 1 : Nat)) : Int) = (l : Int) + 1 := by omega
                  have hcn : ((l : Int) + 1).toNat = l + 1 := by omega
                  rw [hci]
                  have HXe : Hid (kyO SD x = (hsh SD x, x) ∧ kyO SD y = (hsh SD y, y)) := Lib.hid ⟨rfl, rfl⟩
                  obtain ⟨hx1, hx1e⟩ : ∃ q, q = hsh SD x := ⟨_, rfl⟩
                  obtain ⟨hy1, hy1e⟩ : ∃ q, q = hsh SD y := ⟨_, rfl⟩
                  rw [← hx1e] at CX CB HXe
                  rw [← hy1e] at CY CB HXe
                  clear hx hy hz0 hz1 hj hj1 hx1e hy1e
                  go_upto_region 24 with fail
                  go_cut [13, 14] (fun s13 s14 wx => ∃ p1 p2 : Nat, s13 = .pointer (some ⟨p1, 0, none⟩) ∧ s14 = .pointer (some ⟨p2, 0, none⟩) ∧ Hid (Below wr.heap.size wr wx) ∧ Hid (wx.heap[p1]? = some (.cells #[.int .i64 hx1, .string x] 50 (0, 0))) ∧ Hid (wx.heap[p2]? = some (.cells #[.int .i64 hy1, .string y] 50 (0, 0))))
                  case first =>
                    have HP : Hid (∀ W, Below wr.heap.size wr W → W.cell? ⟨z, 1, none⟩ = some (.int .i64 SD) ∧ W.cell? ⟨b, off + l, none⟩ = some (.string x) ∧ W.cell? ⟨b, off + (l + 1), none⟩ = some (.string y)) := Lib.hid (fun W hb => ⟨(hb.cell (p := ⟨z, 1, none⟩) (Array.getElem?_eq_some_iff.1 HZr.out).1).trans r1, (hb.cell (p := ⟨b, off + l, none⟩) hbl).trans h0, (hb.cell (p := ⟨b, off + (l + 1), none⟩) hbl).trans h1⟩)
                    go_region_held3 (fun W => W.cell? ⟨z, 1, none⟩ = some (.int .i64 SD) ∧ W.cell? ⟨b, off + l, none⟩ = some (.string x) ∧ W.cell? ⟨b, off + (l + 1), none⟩ = some (.string y))
                      (exact HP.out _ (by (repeat' (first | (with_reducible exact Below.refl _ _) | (with_reducible assumption) | (with_reducible refine Below.alloc ?_ ?_ _) | (with_reducible refine below_drewN ?_ _) | (with_reducible refine Below.drew ?_) | (with_reducible refine Below.setCell ?_ ?_ _) | go_size))))
                      ((first
                        | (go_at_call 65; (with_reducible refine (CX.out _).mono ?_); rintro e v1 ⟨rfl, rfl⟩)
                        | (go_at_call 65; (with_reducible refine (CY.out _).mono ?_); rintro e v2 ⟨rfl, rfl⟩)
                        | fail))
                    all_goals
                      go_wp2_with fail
                      go_meet
                      first
                        | exact ⟨_, _, rfl, rfl, Lib.hid (((Below.refl _ _).alloc (Nat.le_refl _) _).alloc (by simp) _).drew, Lib.hid (blk_under _ _ _), Lib.hid (blk_over _ _ _)⟩
                        | exact ⟨_, _, rfl, rfl, Lib.hid (((Below.refl _ _).alloc (Nat.le_refl _) _).alloc (by simp) _).drew, Lib.hid (blk_over _ _ _), Lib.hid (blk_under _ _ _)⟩
                  case rest =>
                    obtain ⟨p1, p2, rfl, rfl, HBx, HP1, HP2⟩ := hcut
                    have a0 := cell_of_row wc p1 0 _ _ _ HP1.out
                    have a1 := cell_of_row wc p1 1 _ _ _ HP1.out
                    have b0 := cell_of_row wc p2 0 _ _ _ HP2.out
                    have b1 := cell_of_row wc p2 1 _ _ _ HP2.out
                    simp at a0 a1 b0 b1
                    clear r0 r1
                    go_wp2_with fail
                    with_reducible refine (CB.out _).mono ?_
                    rintro e wd ⟨rfl, hb⟩
                    have HX := Lib.hid (bz_call HW.out (bz_call HBx.out hb))
                    clear hb a0 a1 b0 b1
                    have HKl3 : Hid (kl ((kys SD K)[l]'(by rw [kys_length]; omega)) ((kys SD K)[l + 1]'(by rw [kys_length]; exact hk2)) = kl (hx1, x) (hy1, y)) := Lib.hid (by rw [HKl2.out, HXe.out.1, HXe.out.2])
                    cases hk : kl (hx1, x) (hy1, y) with
                    | true =>
                      have HQ2 : Hid (∀ q (h : q + 1 < (kys SD K).length), q + 1 < l + 1 + 1 → kl (kys SD K)[q] (kys SD K)[q + 1] = true) := Lib.hid (fun q h hq => by
                        by_cases e : q = l
                        · subst e; rw [HKl3.out]; exact hk
                        · exact HQ.out q h (by omega))
                      clear hk
                      go_wp2_with fail
                      go_roundw
                      case rel => exact ⟨l + 1 + 1, by omega, .inl (by omega), by go_num, HQ2, HX⟩
                      case measure => simp [intOf] <;> omega
                    | false =>
                      have HD3 : Hid (D = 8) := Lib.hid (by
                        rw [HD2.out, if_pos]
                        cases hr : r with
                        | false => rfl
                        | true =>
                          have := (HIn.out.1 hr) l (by rw [kys_length]; exact hk2)
                          rw [HKl3.out, hk] at this
                          cases this)
                      clear hk
                      go_wp2_with fail
                      go_ret
                      exact ⟨by rw [HD3.out]; rfl, (bz_call HB.out HX.out)⟩
                · have hrt : r = true := HIn.out.2 (fun q hq => HQ.out q hq (by rw [kys_length, HKl.out] at hq; omega))
                  have HD3 : Hid (D = if (m : Int) < (i : Int) ∨ (i : Int) < (m : Int) ∧ X = false then 3 else 0) := Lib.hid (by rw [HD2.out, if_neg (by simp [hrt])])
                  have HX := Lib.hid (bz_call HB.out HW.out)
                  have hnl : ¬ (j : Int) < (i : Int) := by omega
                  clear hrt hj hj1 hjl HD2 HQ HIn
                  by_cases h6 : m < i
                  · have HD4 : Hid (D = 3) := Lib.hid (by rw [HD3.out, if_pos (.inl (by omega))])
                    have p1 : (m : Int) < (i : Int) := by omega
                    clear h6
                    go_wp2_with fail
                    go_ret
                    exact ⟨by rw [HD4.out]; rfl, HX.out⟩
                  · have p1 : ¬ (m : Int) < (i : Int) := by omega
                    by_cases h7 : i < m
                    · have p2 : (i : Int) < (m : Int) := by omega
                      cases X with
                      | true =>
                        have HD4 : Hid (D = 0) := Lib.hid (by rw [HD3.out, if_neg (by simp; omega)])
                        clear h6 h7
                        go_wp2_with fail
                        go_ret
                        exact ⟨by rw [HD4.out]; rfl, HX.out⟩
                      | false =>
                        have HD4 : Hid (D = 3) := Lib.hid (by rw [HD3.out, if_pos (.inr ⟨by omega, rfl⟩)])
                        clear h6 h7
                        go_wp2_with fail
                        go_ret
                        exact ⟨by rw [HD4.out]; rfl, HX.out⟩
                    · have p2 : ¬ (i : Int) < (m : Int) := by omega
                      have HD4 : Hid (D = 0) := Lib.hid (by rw [HD3.out, if_neg (by omega)])
                      clear h6 h7
                      go_wp2_with fail
                      go_ret
                      exact ⟨by rw [HD4.out]; rfl, HX.out⟩
      · have HD2 : Hid (D = En) := Lib.hid (by rw [HDf.out, if_pos h1])
        have p1 : (En != 0) = true := by simpa using h1
        clear h1
        go_wp2_with fail
        go_ret
        exact ⟨by rw [HD2.out]; rfl, HB.out⟩
end Go.Proofs.Ytajainkaomkbjaa
