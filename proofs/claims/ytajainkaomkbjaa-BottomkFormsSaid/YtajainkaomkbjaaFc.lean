/- Decode. -/
import Derived.Test.YtajainkaomkbjaaFb
namespace Go.Proofs.Ytajainkaomkbjaa
open Go.ChangeShapes Go.WideShapes Go.ChangeAt Go.RowKit Go.Joins Bt

/-- What Decode returns. -/
def DecP (s : ByteArray) (w : World) (e : Ending) (w' : World) : Prop :=
  ∃ p : Option Addr, e = .returned (.tuple #[.pointer p, .int .i64 (dcE s)]) ∧ ((dcE s ≠ 0 ∧ p = none) ∨ (dcE s = 0 ∧ ∃ g, p = some ⟨g, 0, none⟩ ∧ w.heap.size ≤ g ∧ Sk w' g (r1 s).1 (r2 s).1 (kys (r2 s).1 (bdy s).1, !(r3 s).1)))
theorem own_gq {W W' : World} {g0 base n e k : Nat} {v : Value} {xs : List Value} (hg : g0 < base) (h : W.ownsRow base e k v n xs) (G : E.Gq W W' (some ⟨g0, 0, none⟩)) : W'.ownsRow base e k v n xs :=
  h.kept (row := some g0) G (by
    cases hb : v.ownBlock with
    | none => exact .inl rfl
    | some j => exact .inr (fun e => by injection e with e; have := (h.lt j hb).1; omega))
theorem rp_row {W W' : World} {g0 base n e k : Nat} {v : Value} {xs : List Value} {s : ByteArray} {st : E.St} (h : E.RP W (some ⟨g0, 0, none⟩) s st) (hg0 : g0 < base) (hown : W.ownsRow base e k v n xs) (hg : W.grownBy W' v.ownBlock) : E.RP W' (some ⟨g0, 0, none⟩) s st := by
  rcases h with ⟨h, _⟩ | ⟨r, er, hr⟩
  · cases h
  · simp only [Option.some.injEq, Addr.mk.injEq, and_true] at er
    subst er
    exact .inr ⟨g0, rfl, (hg.block g0 hr.lt (fun e => by have := (hown.lt g0 e.symm).1; omega)).trans hr.1, hr.2⟩
section
variable {w : World}
/-- append of one string to a row of the call's own. -/
theorem wpList_append_str {ops : Array Oper} {rest : List Oper} {o : Oper} {a : Act} {Q : Exit → Act → World → Prop} (hg : o.guard = none) (s x : Operand)
    (ho : o.op = .call { callee := .builtin .append, args := #[s, x], argTypes := #[36, 36] })
    (base : Nat) (v : Value) (n : Nat) (L : List ByteArray) (hs : a.eval s = v) (hown : w.ownsRow base 9 1 v n (L.map Value.string))
    (g c : Nat) (t : ByteArray) (T : TypeId) (hx : a.eval x = .slice (some ⟨g, 0, none⟩) 1 c) (hblk : w.heap[g]? = some (.cells #[.string t] T (0, 0)))
    (hn : n ≤ 1000000) (hbase : base ≤ w.heap.size)
    (h : ∀ v' w', w'.ownsRow base 9 1 v' (n + 1) ((L ++ [t]).map Value.string) → w.grownBy w' v.ownBlock → wpList Try.prog ops Q rest (a.put o.dst v') w') : wpList Try.prog ops Q (o :: rest) a w := by
  obtain ⟨i0, hi0, hz0, hz1, hz2⟩ := info_parts2 str_info
  refine wpList_append_agg hg s x 36 ho base 9 i0 _ 1 16 Try.underlying36 hi0 hz0 hz1 hz2 rfl (by omega) v n (L.map Value.string) hs hown g c [.string t] T rfl hx hblk (fun u hu => by simp at hu; subst hu; rfl) hn (by omega) hbase (fun v' w' h2 h3 => h v' w' (by rw [List.map_append]; exact h2) h3)
end
set_option maxRecDepth 100000 in
set_option maxHeartbeats 8000000 in
theorem decode_any (s : ByteArray) (hs : s.size ≤ 1000000) (w : World) :
    Calls Try.prog 34 #[.string s] w fun e w' => DecP s w e w' ∧ Below w.heap.size w w' := by
  have HN := Lib.hid (fun W => E.new_reader s W)
  have HNm := Lib.hid (fun q st W h => E.number_q q s st hs W h)
  have HBo := Lib.hid (fun q st W h => E.bool_q q s st hs W h)
  have HCo := Lib.hid (fun q st W h => E.count_q q s st hs 1024 W h)
  have HTx := Lib.hid (fun q st W h => E.text_q q s st hs 4096 W h)
  have HEn := Lib.hid (fun q st W h => E.end_q q s st hs W h)
  have hcn := cn_nat s
  have HCn := Lib.hid hcn
  have HR1 : Hid (E.rdG 0 E.scan s (0, 0) = r1 s) := Lib.hid rfl
  have HR2 : Hid (E.rdG 0 E.scan s (r1 s).2 = r2 s) := Lib.hid rfl
  have HR3 : Hid (E.rdG false E.scanB s (r2 s).2 = r3 s) := Lib.hid rfl
  have HR4 : Hid (E.rdG 0 (E.scanZ 1024 6) s (r3 s).2 = r4 s) := Lib.hid rfl
  have HTT : Hid (∀ st, E.rdG ByteArray.empty (E.scanT 4096) s st = tx s st) := Lib.hid (fun st => rfl)
  have HEE : Hid (E.endE s (bdy s).2 = endD s) := Lib.hid rfl
  have HBd : Hid (bdy s = rdT s (cn s) (r4 s).2) := Lib.hid rfl
  have HLen : Hid ((bdy s).1.length = cn s) := Lib.hid (rdT_len _ _ _)
  have HSm : Hid (∀ t ∈ (bdy s).1, t.size ≤ 4096) := Lib.hid (rdT_small _ _ _)
  obtain ⟨n, hn⟩ : ∃ n, n = cn s := ⟨_, rfl⟩
  rw [← hn] at HCn HBd HLen
  have hn1 : n ≤ 1024 := HCn.out.2
  clear hcn hn
  go_enter Try.func34, Try.ntmps34
  go_wp2_with fail
  with_reducible refine (HN.out _).mono ?_
  rintro e w1 ⟨rfl, hrs, hb⟩
  have HB := Lib.hid hb
  have HRP : Hid (E.RP w1 (some ⟨w.heap.size, 0, none⟩) s (0, 0)) := Lib.hid (.inr ⟨_, rfl, hrs⟩)
  have hg0 : w.heap.size < w1.heap.size := hrs.lt
  have HW1 : Hid (w.heap.size ≤ w1.heap.size) := Lib.hid (Nat.le_of_lt hg0)
  obtain ⟨g0, hg0e⟩ : ∃ g0, g0 = w.heap.size := ⟨_, rfl⟩
  have HG0 := Lib.hid hg0e
  have HG1 : Hid (g0 < w1.heap.size) := Lib.hid (by omega)
  rw [← hg0e] at HRP ⊢
  clear hrs hb hg0 hg0e
  go_wp2_with fail
  have HS : Hid (w1.heap.size ≤ w1.heap.size) := Lib.hid (Nat.le_refl _)
  with_reducible refine (HNm.out _ _ _ HRP.out).mono ?_
  rintro e w2 ⟨rfl, hrp, hgq⟩
  rw [HR1.out] at hrp ⊢
  replace HB := Lib.hid (bq_own HB.out hgq (Nat.le_of_eq HG0.out.symm) (Nat.le_refl _))
  replace HS := Lib.hid (Nat.le_trans HS.out hgq.size)
  replace HRP := Lib.hid hrp
  clear hrp hgq
  go_wp2_with fail
  with_reducible refine (HNm.out _ _ _ HRP.out).mono ?_
  rintro e w3 ⟨rfl, hrp, hgq⟩
  rw [HR2.out] at hrp ⊢
  replace HB := Lib.hid (bq_own HB.out hgq (Nat.le_of_eq HG0.out.symm) (Nat.le_refl _))
  replace HS := Lib.hid (Nat.le_trans HS.out hgq.size)
  replace HRP := Lib.hid hrp
  clear hrp hgq
  go_wp2_with fail
  with_reducible refine (HBo.out _ _ _ HRP.out).mono ?_
  rintro e w4 ⟨rfl, hrp, hgq⟩
  rw [HR3.out] at hrp ⊢
  replace HB := Lib.hid (bq_own HB.out hgq (Nat.le_of_eq HG0.out.symm) (Nat.le_refl _))
  replace HS := Lib.hid (Nat.le_trans HS.out hgq.size)
  replace HRP := Lib.hid hrp
  clear hrp hgq
  go_wp2_with fail
  with_reducible refine (HCo.out _ _ _ HRP.out).mono ?_
  rintro e w5 ⟨rfl, hrp, hgq⟩
  rw [HR4.out] at hrp ⊢
  replace HB := Lib.hid (bq_own HB.out hgq (Nat.le_of_eq HG0.out.symm) (Nat.le_refl _))
  replace HS := Lib.hid (Nat.le_trans HS.out hgq.size)
  replace HRP := Lib.hid hrp
  clear hrp hgq
  rw [HCn.out.1]
  go_wp2_with fail
  have HI0 : Hid ((bdy s).1 = [] ++ (rdT s (n - 0) (r4 s).2).1 ∧ (bdy s).2 = (rdT s (n - 0) (r4 s).2).2) := Lib.hid (by rw [HBd.out]; exact ⟨rfl, rfl⟩)
  obtain ⟨lo, hlo⟩ : ∃ lo, lo = w1.heap.size := ⟨_, rfl⟩
  rw [← hlo] at HS HG1
  have HLo := Lib.hid hlo
  clear hlo
  go_loopw [8, 22] (fun kv iv wr => ∃ (k : Nat) (acc : List ByteArray) (st : E.St), k ≤ n ∧ iv = .int .i64 (k : Int) ∧ Hid (wr.ownsRow lo 9 1 kv k (acc.map Value.string)) ∧ Hid (E.RP wr (some ⟨g0, 0, none⟩) s st) ∧ Hid ((bdy s).1 = acc ++ (rdT s (n - k) st).1 ∧ (bdy s).2 = (rdT s (n - k) st).2) ∧ Hid (lo ≤ wr.heap.size) ∧ Hid (Below w.heap.size w wr)) (fun _ iv _ => n - (intOf iv).toNat)
  case atStart => exact ⟨0, [], _, Nat.zero_le _, rfl, Lib.hid (own_nils _ _), HRP, HI0, HS, HB⟩
  case round =>
    obtain ⟨k, acc, st, hk, rfl, HO, HRP, HI, HS, HB⟩ := hrel
    by_cases hlt : k < n
    · have hkI : (k : Int) < (n : Int) := by omega
      have hk0 : (0 : Int) ≤ (k : Int) := by omega
      have hw1 : IntKind.i64.wrap ((k : Int) + 1) = (k : Int) + 1 := by simp only [IntKind.wrap_i64]; omega
      have HI2 : Hid ((bdy s).1 = (acc ++ [(tx s st).1]) ++ (rdT s (n - (k + 1)) (tx s st).2).1 ∧ (bdy s).2 = (rdT s (n - (k + 1)) (tx s st).2).2) := Lib.hid (by
        have h := HI.out
        rw [show n - k = (n - (k + 1)) + 1 by omega] at h
        refine ⟨h.1.trans ?_, h.2⟩
        rw [List.append_assoc]; rfl)
      go_wp2_with fail
      with_reducible refine (HTx.out _ _ _ HRP.out).mono ?_
      rintro e wa ⟨rfl, hrp, hgq⟩
      rw [HTT.out] at hrp ⊢
      replace HB := Lib.hid (bq_own HB.out hgq (Nat.le_of_eq HG0.out.symm) (Nat.le_refl _))
      replace HS := Lib.hid (Nat.le_trans HS.out hgq.size)
      replace HO := Lib.hid (own_gq HG1.out HO.out hgq)
      obtain ⟨t, ht⟩ : ∃ t, t = (tx s st).1 := ⟨_, rfl⟩
      rw [← ht] at HI2 ⊢
      have HO1 := Lib.hid (HO.out.alloc (.cells #[.string t] 9))
      have HRP1 := Lib.hid (hrp.below ((Below.refl wa.heap.size wa).alloc (Nat.le_refl _) (.cells #[.string t] 9)))
      have HB1 := Lib.hid (HB.out.alloc HB.out.size (.cells #[.string t] 9))
      have HS1 : Hid (lo ≤ (wa.alloc (.cells #[.string t] 9)).heap.size) := Lib.hid (by rw [World.size_alloc]; have := HS.out; omega)
      have HK1 := Lib.hid (Deep.blk_alloc_new wa (.cells #[.string t] 9))
      have HwB : Hid (w.heap.size ≤ lo) := Lib.hid (by rw [HLo.out]; exact HW1.out)
      clear hrp hgq ht
      go_wp2_with (at_builtin; refine wpList_append_str rfl (.tmp 24) (.tmp 27) rfl lo u8 k acc rfl HO1.out wa.heap.size 1 t 9 rfl HK1.out (by omega) HS1.out ?_; intro v2 w2a hown hg; have HO2 := Lib.hid hown; have HRP2 := Lib.hid (rp_row HRP1.out HG1.out HO1.out hg); have HB2 := Lib.hid (below_grownBy HB1.out HO1.out hg HwB.out (Nat.le_refl _)); have HS2 := Lib.hid (Nat.le_trans HS1.out hg.size); clear hown hg)
      go_roundw
      case rel => exact ⟨k + 1, _, _, by omega, by go_num, HO2, HRP2, HI2, HS2, HB2⟩
      case measure => simp [intOf] <;> omega
    · obtain rfl : k = n := by omega
      have HA : Hid (acc = (bdy s).1 ∧ st = (bdy s).2) := Lib.hid (by
        have h := HI.out
        rw [Nat.sub_self] at h
        exact ⟨by rw [h.1]; simp [rdT], h.2.symm⟩)
      rw [HA.out.1] at HO
      rw [HA.out.2] at HRP
      go_wp2_with fail
      with_reducible refine (HEn.out _ _ _ HRP.out).mono ?_
      rintro e wa ⟨rfl, hb⟩
      rw [HEE.out]
      replace HB := Lib.hid (bz_call HB.out hb)
      replace HO := Lib.hid (own_below HO.out hb)
      obtain ⟨A, c, rfl, hc, hr⟩ := out_own HO.out
      clear hb
      have HSm2 := HSm
      have HDc : Hid (dcE s = if endD s ≠ 0 then endD s else if (r1 s).1 < 1 ∨ 1024 < (r1 s).1 ∨ (r2 s).1 < 0 ∨ 1048576 < (r2 s).1 then 2 else if feK (bdy s).1 ≠ 0 then feK (bdy s).1 else if incB (kys (r2 s).1 (bdy s).1) = false then 8 else if (r1 s).1 < ((bdy s).1.length : Int) ∨ ((bdy s).1.length : Int) < (r1 s).1 ∧ (r3 s).1 = false then 3 else 0) := Lib.hid (by
        rw [show (bdy s).1.length = cn s from rdT_len _ _ _]; rfl)
      obtain ⟨D, hD⟩ : ∃ q, q = dcE s := ⟨_, rfl⟩
      obtain ⟨N, hN⟩ : ∃ q, q = (r1 s).1 := ⟨_, rfl⟩
      obtain ⟨SD, hSD⟩ : ∃ q, q = (r2 s).1 := ⟨_, rfl⟩
      obtain ⟨X, hX⟩ : ∃ q, q = (r3 s).1 := ⟨_, rfl⟩
      obtain ⟨K, hK⟩ : ∃ q, q = (bdy s).1 := ⟨_, rfl⟩
      obtain ⟨En, hEn⟩ : ∃ q, q = endD s := ⟨_, rfl⟩
      have HP0 : Hid (∀ e w', (∃ p : Option Addr, e = .returned (.tuple #[.pointer p, .int .i64 D]) ∧ ((D ≠ 0 ∧ p = none) ∨ (D = 0 ∧ ∃ g, p = some ⟨g, 0, none⟩ ∧ w.heap.size ≤ g ∧ Sk w' g N SD (kys SD K, !X)))) → DecP s w e w') := Lib.hid (fun e w' h => by rw [hD, hN, hSD, hX, hK] at h; exact h)
      have HKl : Hid (K.length = k) := Lib.hid (by rw [hK]; exact HLen.out)
      rw [← hD, ← hN, ← hSD, ← hX, ← hK, ← hEn] at HDc
      rw [← hK] at HSm hr hc ⊢
      rw [← hN, ← hSD, ← hX, ← hEn]
      have HR := Lib.hid hr
      have HwB : Hid (w.heap.size ≤ wa.heap.size) := Lib.hid HB.out.size
      rw [HKl.out] at HDc hc ⊢
      have hsm : ∀ t ∈ K, t.size ≤ 1000000 := fun t ht => by have := HSm.out t ht; omega
      have HInc := Lib.hid (fun W h => inc_any SD A c K (by rw [HKl.out]; omega) hsm W h)
      have HBad := Lib.hid (fun (m : Nat) h1 h2 h3 h4 b hb h5 h6 W h => of_bad m h1 h2 SD h3 h4 A c K (by rw [HKl.out]; omega) hsm b hb h5 h6 W h)
      have HOk := Lib.hid (fun (m : Nat) h1 h2 h3 h4 h5 W h => of_ok m h1 h2 SD h3 h4 A c K (by rw [HKl.out]; omega) h5 W h)
      rw [HKl.out] at HInc HOk
      have HSm3 := Lib.hid hsm
      clear hD hN hSD hX hK hEn hr hsm HO HI HA HRP HSm HSm2 HEE HTT HR1 HR2 HR3 HR4 HLen HBd HCn HEn HTx HCo HBo HNm HN hs HI0 hk hlt hc HLo HW1 HG1 HS
      by_cases h1 : En = 0
      · subst h1
        by_cases h2 : N < 1 ∨ 1024 < N ∨ SD < 0 ∨ 1048576 < SD
        · have HD2 : Hid (D = 2) := Lib.hid (by rw [HDc.out, if_neg (by simp), if_pos h2])
          go_wp2_with fail
          with_reducible refine (of_range N SD h2 _ _).mono ?_
          rintro e wb ⟨rfl, rfl⟩
          clear h2
          go_wp2_with fail
          go_ret2
          exact ⟨HP0.out _ _ ⟨none, by rw [HD2.out]; rfl, .inl ⟨by rw [HD2.out]; decide, rfl⟩⟩, HB.out⟩
        · obtain ⟨m, rfl⟩ : ∃ m : Nat, N = (m : Int) := ⟨N.toNat, by omega⟩
          by_cases h3 : feK K = 0
          · have h5 : ∀ t ∈ K, t.size ≤ 1000000 ∧ chkK t = 0 := fun t ht => ⟨HSm3.out t ht, feK_ok h3 t ht⟩
            have HOk2 := Lib.hid (fun W h => HOk.out m (by omega) (by omega) (by omega) (by omega) h5 W h)
            clear h5
            go_wp2_with fail
            with_reducible refine (HOk2.out _ HR.out).mono ?_
            rintro e wb ⟨rfl, hsk, hb⟩
            replace HR := Lib.hid (HR.out.below hb)
            replace HB := Lib.hid (bz_call HB.out hb)
            obtain ⟨gg, hgg⟩ : ∃ gg, gg = wa.heap.size := ⟨_, rfl⟩
            rw [← hgg] at hsk HwB ⊢
            have HSk := Lib.hid hsk
            clear hsk hb hgg
            go_wp2_with fail
            with_reducible refine (HInc.out _ HR.out).mono ?_
            rintro e wc ⟨rfl, hb⟩
            replace HSk := Lib.hid (HSk.out.below hb)
            replace HB := Lib.hid (bz_call HB.out hb)
            clear hb
            cases h4 : incB (kys SD K) with
            | false =>
              have HD2 : Hid (D = 8) := Lib.hid (by rw [HDc.out, if_neg (by simp), if_neg h2, if_neg (by simp [h3]), if_pos h4])
              clear h2 h3 h4
              go_wp2_with fail
              go_ret2
              exact ⟨HP0.out _ _ ⟨none, by rw [HD2.out]; rfl, .inl ⟨by rw [HD2.out]; decide, rfl⟩⟩, HB.out⟩
            | true =>
              have HD0 : Hid (D = if (m : Int) < (k : Int) ∨ (k : Int) < (m : Int) ∧ X = false then 3 else 0) := Lib.hid (by rw [HDc.out, if_neg (by simp), if_neg h2, if_neg (by simp [h3]), if_neg (by simp [h4])])
              have hsrt := incB_srt h4
              rw [bld_self hsrt] at HSk
              clear h2 h3 h4 hsrt
              by_cases h6 : m < k
              · have HD2 : Hid (D = 3) := Lib.hid (by rw [HD0.out, if_pos (.inl (by omega))])
                have p1 : (m : Int) < (k : Int) := by omega
                clear h6
                go_wp2_with fail
                go_ret2
                exact ⟨HP0.out _ _ ⟨none, by rw [HD2.out]; rfl, .inl ⟨by rw [HD2.out]; decide, rfl⟩⟩, HB.out⟩
              · have p1 : ¬ (m : Int) < (k : Int) := by omega
                have hkl : (kys SD K).length ≤ m := by rw [kys_length, HKl.out]; omega
                have hst : skt m (kys SD K) = (kys SD K, false) := by
                  unfold skt
                  rw [List.take_of_length_le hkl, decide_eq_false (by omega)]
                rw [hst] at HSk
                obtain ⟨v, hv, hg⟩ := HSk.out
                dsimp only at hv hg
                have c3 := cell_of_row wc gg 3 _ _ _ hg
                have f3 := frozen_of_row wc gg 3 _ _ hg
                have hgl := (Array.getElem?_eq_some_iff.1 hg).1
                simp at c3
                have HFin : Hid (∀ y, Sk (wc.setCell ⟨gg, 3, none⟩ (.bool y)) gg (m : Int) SD (kys SD K, y)) := Lib.hid (fun y => ⟨v, hv.gs ((Gs.refl gg wc).set _) hg, blk_set3 hg⟩)
                have HBf : Hid (∀ y, Below w.heap.size w (wc.setCell ⟨gg, 3, none⟩ y)) := Lib.hid (fun y => below_gs HB.out ((Gs.refl gg wc).set y) HwB.out (Nat.le_refl _))
                clear hv hg hst hkl h6
                cases X with
                | true =>
                  have HD2 : Hid (D = 0) := Lib.hid (by rw [HD0.out, if_neg (by simp; omega)])
                  by_cases h7 : k < m
                  · have p2 : (k : Int) < (m : Int) := by omega
                    clear h7
                    go_wp2_with fail
                    go_ret2
                    exact ⟨HP0.out _ _ ⟨_, by rw [HD2.out]; rfl, .inr ⟨HD2.out, gg, rfl, HwB.out, HFin.out _⟩⟩, HBf.out _⟩
                  · have p2 : ¬ (k : Int) < (m : Int) := by omega
                    clear h7
                    go_wp2_with fail
                    go_ret2
                    exact ⟨HP0.out _ _ ⟨_, by rw [HD2.out]; rfl, .inr ⟨HD2.out, gg, rfl, HwB.out, HFin.out _⟩⟩, HBf.out _⟩
                | false =>
                  by_cases h7 : k < m
                  · have HD2 : Hid (D = 3) := Lib.hid (by rw [HD0.out, if_pos (.inr ⟨by omega, rfl⟩)])
                    have p2 : (k : Int) < (m : Int) := by omega
                    clear h7
                    go_wp2_with fail
                    go_ret2
                    exact ⟨HP0.out _ _ ⟨none, by rw [HD2.out]; rfl, .inl ⟨by rw [HD2.out]; decide, rfl⟩⟩, HB.out⟩
                  · have HD2 : Hid (D = 0) := Lib.hid (by rw [HD0.out, if_neg (by omega)])
                    have p2 : ¬ (k : Int) < (m : Int) := by omega
                    clear h7
                    go_wp2_with fail
                    go_ret2
                    exact ⟨HP0.out _ _ ⟨_, by rw [HD2.out]; rfl, .inr ⟨HD2.out, gg, rfl, HwB.out, HFin.out _⟩⟩, HBf.out _⟩
          · obtain ⟨b, hb, h5, h6, h7⟩ := feK_bad h3
            have HD2 : Hid (D = chkK K[b]) := Lib.hid (by rw [HDc.out, if_neg (by simp), if_neg h2, if_pos h3, h7])
            have HBad2 := Lib.hid (fun W h => HBad.out m (by omega) (by omega) (by omega) (by omega) b hb h5 h6 W h)
            obtain ⟨q, hq⟩ : ∃ q, q = chkK K[b] := ⟨_, rfl⟩
            rw [← hq] at HD2 HBad2 h6
            rw [HKl.out] at HBad2
            have p1 : (q != 0) = true := by simpa using h6
            have HQ := Lib.hid h6
            clear h2 h3 h5 h6 h7 hq hb
            go_wp2_with fail
            with_reducible refine (HBad2.out _ HR.out).mono ?_
            rintro e wb ⟨rfl, hb⟩
            replace HB := Lib.hid (bz_call HB.out hb)
            clear hb
            go_wp2_with fail
            go_ret2
            exact ⟨HP0.out _ _ ⟨none, by rw [HD2.out]; rfl, .inl ⟨by rw [HD2.out]; exact HQ.out, rfl⟩⟩, HB.out⟩
      · have HD2 : Hid (D = En) := Lib.hid (by rw [HDc.out, if_pos h1])
        have p1 : (En != 0) = true := by simpa using h1
        have HQ := Lib.hid h1
        clear h1
        go_wp2_with fail
        go_ret2
        exact ⟨HP0.out _ _ ⟨none, by rw [HD2.out]; rfl, .inl ⟨by rw [HD2.out]; exact HQ.out, rfl⟩⟩, HB.out⟩
end Go.Proofs.Ytajainkaomkbjaa
