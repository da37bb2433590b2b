/- BottomkAdds: for any setting and any keys the law returns true. -/
import Derived.Test.YthajdlpljliefaaBv
import Derived.Deep.RegionHeld3
namespace Go.Proofs.Ythajdlpljliefaa.lawAdds
open Go.Proofs.Ythajdlpljliefaa Go.ChangeShapes Go.WideShapes Go.ChangeAt Go.RowKit Go.Joins Bt

theorem laidOut : laidOutB Try.prog = true := by kernel_rfl
theorem cell_gs {g : Nat} {a b : World} (h : Gs g a b) {p : Addr} (hl : p.block < a.heap.size) (hne : p.block ≠ g) : b.cell? p = a.cell? p := by
  unfold World.cell?
  rw [h.block p.block hl (fun e => hne (by injection e))]
theorem rd_take {α : Type} {enc : α → Value} {w : World} {A : Option Addr} {L : List α} (h : Rd enc w A L) (m : Nat) : Rd enc w A (L.take m) := fun j hj => by
  have hj2 : j < L.length := by rw [List.length_take] at hj; omega
  obtain ⟨b, off, e, h1, h2⟩ := h j hj2
  exact ⟨b, off, e, h1, by rw [List.getElem_take]; exact h2⟩
theorem sk_ne {w : World} {g b i : Nat} {t : ByteArray} {n sd : Int} {x : List Ky × Bool} (hs : Sk w g n sd x) (hc : w.cell? ⟨b, i, none⟩ = some (.string t)) : b ≠ g := by
  rintro rfl
  obtain ⟨v, ⟨A', c', rfl, _⟩, hb⟩ := hs
  rw [cell_of_row w _ i _ _ _ hb] at hc
  match i, hc with
  | 0, hc => simp at hc
  | 1, hc => simp at hc
  | 2, hc => simp at hc
  | 3, hc => simp at hc
  | i + 4, hc => simp at hc
theorem rd_gs {w w' : World} {A : Option Addr} {L : List ByteArray} {g : Nat} {n sd : Int} {x : List Ky × Bool} (h : Rd Value.string w A L) (hs : Sk w g n sd x) (k : Gs g w w') : Rd Value.string w' A L := fun j hj => by
  obtain ⟨b, off, e, hlt, hc⟩ := h j hj
  exact ⟨b, off, e, Nat.lt_of_lt_of_le hlt k.size, (cell_gs k hlt (sk_ne hs hc)).trans hc⟩
set_option maxRecDepth 100000 in
set_option maxHeartbeats 8000000 in
theorem walk (w : World) (a b : Nat) (ha : a ≤ 255) (hb : b ≤ 255) (A : Option Addr) (c : Nat) (L : List Nat) (hl : L.length ≤ 9223372036854775807) (hs : ∀ x ∈ L, x ≤ 255) (hR : Rd u8N w A L) :
    Calls Try.prog 3 #[.agg #[.int .u8 (a : Int), .int .u8 (b : Int)], .slice A L.length c] w fun e w' => e = .returned (.bool true) ∧ Below w.heap.size w w' := by
  have HMd := Lib.hid (fun W h => made_any a b ha hb A c L hl hs W h)
  have HKs := Lib.hid (fun W h => keys_law A c L hl hs W h)
  have hok := txts_ok hs
  have hlen := txts_len L
  have HR := Lib.hid hR
  obtain ⟨K, hK⟩ : ∃ K, K = txts L := ⟨_, rfl⟩
  rw [← hK] at HMd HKs hok hlen
  obtain ⟨n, hn⟩ : ∃ n, n = 1 + a % 12 := ⟨_, rfl⟩
  have hn1 : 1 ≤ n ∧ n ≤ 12 := by omega
  rw [← hn] at HMd
  have HN := Lib.hid (fun W => new_ok n hn1.1 (by omega) (b : Int) (by omega) (by omega) W)
  have hsl := bldk_len (b : Int) K
  obtain ⟨S, hS⟩ : ∃ S, S = bld (kys (b : Int) K) := ⟨_, rfl⟩
  rw [← hS] at HMd hsl
  have HSe := Lib.hid hS
  obtain ⟨sl, hsl2⟩ : ∃ sl, sl = S.length := ⟨_, rfl⟩
  have HSl := Lib.hid hsl2
  have hS40 : S.length ≤ 40 := by omega
  clear hS hsl
  have HAg := Lib.hid (fun W g u S (hS : S.length ≤ 40) hk hu => agrees_any g n (b : Int) (by omega) S (by omega) u W hk hu)
  have HOk := Lib.hid hok
  have HLn := Lib.hid hlen
  obtain ⟨m, hm⟩ : ∃ m, m = a % 12 := ⟨_, rfl⟩
  have hm0 : (0 : Int) ≤ (m : Int) := by omega
  have hm1 : (m : Int) ≤ 11 := by omega
  have q1 : (a : Int) % 12 = (m : Int) := by omega
  have q2 : 1 + (m : Int) = (n : Int) := by omega
  have q3 : IntKind.i64.wrap (b : Int) = (b : Int) := by simp only [IntKind.wrap_i64]; omega
  have ha0 : (0 : Int) ≤ (a : Int) := by omega
  have haI : (a : Int) ≤ 255 := by omega
  have hb0 : (0 : Int) ≤ (b : Int) := by omega
  have hbI : (b : Int) ≤ 255 := by omega
  have HB0 : Hid (Below w.heap.size w (w.alloc (.cells #[.int .u8 (a : Int), .int .u8 (b : Int)] 23))) := Lib.hid ((Below.refl _ _).alloc (Nat.le_refl _) _)
  have HG0 := Lib.hid (Deep.blk_alloc_new w (.cells #[.int .u8 (a : Int), .int .u8 (b : Int)] 23))
  obtain ⟨ll, hll⟩ : ∃ ll, ll = L.length := ⟨_, rfl⟩
  rw [← hll] at HKs HMd ⊢
  clear hsl2 hR hok hlen hK hll hl hs hn hm ha hb
  go_enter Try.func3, Try.ntmps3
  go_wp2_with fail
  obtain ⟨w0, hw0⟩ : ∃ w0, w0 = (w.alloc (.cells #[.int .u8 (a : Int), .int .u8 (b : Int)] 23)) := ⟨_, rfl⟩
  rw [← hw0] at HB0 HG0 ⊢
  clear hw0
  have hl0 : w.heap.size < w0.heap.size := (Array.getElem?_eq_some_iff.1 HG0.out).1
  have HBK := Lib.hid (fun (W : World) (h : Below w0.heap.size w0 W) => HB0.out.trans (h.mono HB0.out.size))
  refine (HMd.out _ (HR.out.below HB0.out)).mono ?_
  rintro e w1 ⟨⟨g, u, rfl, hgw, hsk, hst⟩, hb1⟩
  have HD1 := Lib.hid hb1
  have HS1 := Lib.hid hsk
  have HT1 := Lib.hid hst
  obtain ⟨v1, rfl, hv1⟩ := hst
  obtain ⟨A1, c1, rfl, _⟩ := hv1
  rw [← HSl.out] at HT1 ⊢
  obtain ⟨o2, ho2⟩ : ∃ o2, o2 = Obj.cells #[.int .i64 (n : Int), .int .i64 (b : Int), .slice A1 sl c1] 28 := ⟨_, rfl⟩
  have HD2 := Lib.hid (hb1.alloc hb1.size o2)
  have hP1 : (w1.alloc o2).cell? ⟨w.heap.size, 1, none⟩ = some (.int .u8 (b : Int)) := cell_of_row _ w.heap.size 1 _ _ _ ((HD2.out.block _ hl0).trans HG0.out)
  have hP0 : (w1.alloc o2).cell? ⟨w.heap.size, 0, none⟩ = some (.int .u8 (a : Int)) := cell_of_row _ w.heap.size 0 _ _ _ ((HD2.out.block _ hl0).trans HG0.out)
  have HZ2 := Lib.hid (Deep.blk_alloc_new w1 o2)
  have HS2 := Lib.hid (HS1.out.below ((Below.refl _ _).alloc (Nat.le_refl _) o2))
  have HT2 := Lib.hid (HT1.out.below ((Below.refl _ _).alloc (Nat.le_refl _) o2))
  rw [ho2] at HD2 hP1 hP0 HZ2 HS2 HT2
  clear ho2
  clear hb1 hsk
  go_wp2_with fail
  obtain ⟨w2, hw2⟩ : ∃ w2, w2 = w1.alloc (.cells #[.int .i64 (n : Int), .int .i64 (b : Int), .slice A1 sl c1] 28) := ⟨_, rfl⟩
  rw [← hw2] at HD2 hP1 hP0 HZ2 HS2 HT2 ⊢
  obtain ⟨z, hz⟩ : ∃ z, z = w1.heap.size := ⟨_, rfl⟩
  have hz2 : z < w2.heap.size := by rw [hz]; exact (Array.getElem?_eq_some_iff.1 HZ2.out).1
  have hwz : w0.heap.size ≤ z := by rw [hz]; exact HD1.out.size
  rw [← hz] at HZ2 ⊢
  have HE2 : Hid (Below w2.heap.size w2 w2) := Lib.hid (Below.refl _ _)
  clear hw2 hz hP0 hP1
  refine (HN.out _).mono ?_
  rintro e w3 ⟨rfl, hsk, hb⟩
  have HE3 := Lib.hid (HE2.out.trans hb)
  have HO3 := Lib.hid hsk
  obtain ⟨y, hy⟩ : ∃ y, y = w2.heap.size := ⟨_, rfl⟩
  rw [← hy] at HO3 ⊢
  have hzy : z < y := by omega
  have hwy : w0.heap.size ≤ y := by omega
  have HY := Lib.hid hy
  clear hb hsk hy
  go_wp2_with fail
  refine (known_any _).mono ?_
  rintro e w4 ⟨rfl, hb⟩
  have HE4 := Lib.hid (HE3.out.trans (hb.mono HE3.out.size))
  have HO4 := Lib.hid (HO3.out.below hb)
  have hZ4 := (HE4.out.block _ hz2).trans HZ2.out
  have r0 := cell_of_row w4 z 0 _ _ _ hZ4
  have r1 := cell_of_row w4 z 1 _ _ _ hZ4
  have r2 := cell_of_row w4 z 2 _ _ _ hZ4
  simp at r0 r1 r2
  clear hb
  go_wp2_with fail
  refine (HAg.out _ _ _ S hS40 (HS2.out.below HE4.out) (HT2.out.below HE4.out)).mono ?_
  rintro e w5 ⟨rfl, hb⟩
  have HE5 := Lib.hid (HE4.out.trans (hb.mono HE4.out.size))
  have HO5 := Lib.hid (HO4.out.below hb)
  clear hb r0 r1 r2 hZ4
  go_wp2_with fail
  refine (HKs.out _ (HR.out.below (HBK.out _ (HD2.out.trans (HE5.out.mono HD2.out.size))))).mono ?_
  rintro e w6 ⟨⟨v6, rfl, ho⟩, hb⟩
  have HE6 := Lib.hid (HE5.out.trans (hb.mono HE5.out.size))
  have HO6 := Lib.hid (HO5.out.below hb)
  obtain ⟨A6, c6, rfl, hc6, hr⟩ := out_own ho
  have HR6 := Lib.hid hr
  clear hb ho hr
  obtain ⟨kl, hkl⟩ : ∃ kl, K.length = kl := ⟨_, rfl⟩
  have HKl := Lib.hid hkl
  have hkl40 : kl ≤ 40 := by have := HLn.out; omega
  rw [hkl] at hc6 ⊢
  clear hkl
  go_wp2_with fail
  go_loopw [10] (fun iv wr => ∃ k : Nat, k ≤ kl ∧ iv = .int .i64 (k : Int) ∧ Hid (Sk wr y n b (skt n (bld (kys b (K.take k))))) ∧ Hid (Below w2.heap.size w2 wr) ∧ Hid (Rd Value.string wr A6 K)) (fun iv _ => kl - (intOf iv).toNat)
  case atStart => exact ⟨0, Nat.zero_le _, rfl, Lib.hid (by rw [List.take_zero]; show Sk _ _ _ _ (skt n []); rw [skt_nil]; exact HO6.out), HE6, HR6⟩
  case round =>
    obtain ⟨k, hk, rfl, HK, HE, HRk⟩ := hrel
    by_cases hlt : k < kl
    · have hk2 : k < K.length := by rw [HKl.out]; exact hlt
      obtain ⟨bb, off, rfl, hbl, hc⟩ := HRk.out k hk2
      have heq := bld_kys (b : Int) K k hk2
      have HS7 := Lib.hid (HOk.out K[k] (List.getElem_mem hk2))
      have hkI : (k : Int) < (kl : Int) := by omega
      have hkI0 : (0 : Int) ≤ (k : Int) := by omega
      have hw2 : IntKind.i64.wrap ((k : Int) + 1) = (k : Int) + 1 := by simp only [IntKind.wrap_i64]; omega
      have hkc : k + 1 ≤ c6 := by omega
      have hkcI : (k : Int) + 1 ≤ (c6 : Int) := by omega
      have hk10 : (0 : Int) ≤ (k : Int) + 1 := by omega
      obtain ⟨t, ht⟩ : ∃ t, t = K[k] := ⟨_, rfl⟩
      rw [← ht] at heq
      have HEq := Lib.hid heq
      rw [← ht] at hc HS7
      clear heq
      have HA := Lib.hid (fun W h => add_ok y n (b : Int) hn1.1 (by omega) (skt n (bld (kys b (K.take k)))) (skt_srt (bld_srt _) n) (skt_len n _) t HS7.out.1 HS7.out.2 W h)
      rw [stp_skt, ← HEq.out] at HA
      have HRf := Lib.hid (fun W A c h => rof_any (n : Int) (b : Int) A c (K.take (k + 1)) (by rw [List.length_take]; omega) (fun t ht => (HOk.out t (List.mem_of_mem_take ht)).1) W h)
      rw [show (K.take (k + 1)).length = k + 1 by rw [List.length_take]; omega] at HRf
      have HTl : Hid ((bld (kys b (K.take (k + 1)))).length ≤ 40) := Lib.hid (by have := bldk_len (b : Int) (K.take (k + 1)); rw [List.length_take] at this; omega)
      have hby := sk_ne HK.out hc
      have hbl2 : bb < wr.heap.size := hbl
      have hZ := (HE.out.block _ hz2).trans HZ2.out
      have HC : Hid (wr.cell? ⟨bb, off + k, none⟩ = some (.string t) ∧ wr.cell? ⟨z, 0, none⟩ = some (.int .i64 (n : Int)) ∧ wr.cell? ⟨z, 1, none⟩ = some (.int .i64 (b : Int))) := Lib.hid ⟨hc, cell_of_row wr z 0 _ _ _ hZ, cell_of_row wr z 1 _ _ _ hZ⟩
      have hzr : z < wr.heap.size := Nat.lt_of_lt_of_le hz2 HE.out.size
      have hzy2 : z ≠ y := by omega
      have HP : Hid (∀ W, Gs y wr W → W.cell? ⟨bb, off + k, none⟩ = some (.string t) ∧ W.cell? ⟨z, 0, none⟩ = some (.int .i64 (n : Int)) ∧ W.cell? ⟨z, 1, none⟩ = some (.int .i64 (b : Int))) := Lib.hid (fun W h => ⟨(cell_gs h hbl hby).trans HC.out.1, (cell_gs h hzr hzy2).trans HC.out.2.1, (cell_gs h hzr hzy2).trans HC.out.2.2⟩)
      have HD0 : Hid (Gs y wr wr.drew) := Lib.hid (Gs.of (Below.refl _ _).drew)
      have HK0 : Hid (Sk wr.drew y n (b : Int) (skt n (bld (kys b (K.take k))))) := HK
      clear hc ht hZ
      go_wp2_with fail
      go_region_held3 (fun W => W.cell? ⟨bb, off + k, none⟩ = some (.string t) ∧ W.cell? ⟨z, 0, none⟩ = some (.int .i64 (n : Int)) ∧ W.cell? ⟨z, 1, none⟩ = some (.int .i64 (b : Int)))
        (first | exact HP.out _ HD3.out | exact HP.out _ HD2.out | exact HP.out _ HD1.out | exact HP.out _ HD0.out)
        ((first
          | (go_at_call 17; (with_reducible refine (HA.out _ HK0.out).mono ?_); rintro e w7 ⟨rfl, hsk, hg⟩; have HD1 : Hid (Gs y wr w7) := Lib.hid (HD0.out.trans hg); have HK7 := Lib.hid hsk; have HR7 : Hid (Rd Value.string w7 (some ⟨bb, off, none⟩) K) := Lib.hid (rd_gs (w := wr.drew) HRk.out HK0.out hg); clear hsk hg)
          | (go_at_call 18; (with_reducible refine (HRf.out _ _ _ (rd_take HR7.out (k + 1))).mono ?_); rintro e w8 ⟨⟨u8, rfl, hst⟩, hb8⟩; have HD2 : Hid (Gs y wr w8) := Lib.hid (HD1.out.trans (Gs.of hb8)); have HU8 := Lib.hid hst; have HB8 := Lib.hid hb8; clear hst hb8)
          | (go_at_call 15; (with_reducible refine (HAg.out _ _ _ _ HTl.out (HK7.out.below HB8.out) HU8.out).mono ?_); rintro e w9 ⟨rfl, hb9⟩; have HD3 : Hid (Gs y wr w9) := Lib.hid (HD2.out.trans (Gs.of hb9)); have HB9 := Lib.hid (HB8.out.trans (hb9.mono HB8.out.size)); clear hb9)
          | fail))
      go_wp2_with fail
      go_roundw
      case rel => exact ⟨k + 1, by omega, by go_num, Lib.hid (HK7.out.below HB9.out), Lib.hid (below_gs HE.out HD3.out (by rw [HY.out]; exact Nat.le_refl _) (Nat.le_refl _)), Lib.hid (HR7.out.below HB9.out)⟩
      case measure => simp [intOf] <;> omega
    · obtain rfl : k = kl := by omega
      have HF : Hid (bld (kys (b : Int) (K.take k)) = S) := Lib.hid (by rw [HSe.out, List.take_of_length_le (Nat.le_of_eq HKl.out)])
      rw [HF.out] at HK
      have hZ4 := (HE.out.block _ hz2).trans HZ2.out
      have r0 := cell_of_row wr z 0 _ _ _ hZ4
      have r1 := cell_of_row wr z 1 _ _ _ hZ4
      have r2 := cell_of_row wr z 2 _ _ _ hZ4
      simp at r0 r1 r2
      go_wp2_with fail
      refine (HAg.out _ _ _ S hS40 HK.out (HT2.out.below HE.out)).mono ?_
      rintro e w7 ⟨rfl, hb⟩
      have HE7 := Lib.hid (HE.out.trans (hb.mono HE.out.size))
      clear hb r0 r1 r2 hZ4
      go_wp2_with fail
      go_ret
      exact ⟨rfl, HBK.out _ (HD2.out.trans (HE7.out.mono HD2.out.size))⟩
set_option maxRecDepth 100000 in
theorem lifted (os : Os) (started : os.Started) (H : Type) (enc : TypeId × Value → H) :
    ReturnsInHanded {} Try.checked os 3 .any (Rows.bottomkAddsSpec.pre6 enc Try.prog Try.f3 Rows.bottomkAddsRow.domain false) (Rows.bottomkAddsSpec.post enc Try.prog Try.f3 false true false false) := by
  refine returnsInHanded_of_change (C := Try.checked) own started (by kernel_rfl) Try.func3
    (ChangeSpec.witness6 (enc := enc) (C := Try.checked) false ⟨#[], #[.agg #[.int .u8 0, .int .u8 0], .slice none 0 0], []⟩ 8 (by kernel_rfl) (by kernel_rfl) (by kernel_rfl) (by kernel_rfl)) ?_
  intro W base args ds gs before hval0 hW _ _
  have hval : ∀ (j : Nat) t v, Try.f3.params[j]? = some t → args[j]? = some v → Value.okWide Try.prog W .any base t v := hval0
  have hW' := hW
  obtain ⟨p, q, hA0, hV, rfl, _, _⟩ := hW
  have hA : DataW.TrodAll enc Try.prog W 0 (fun _ => true) true Try.f3.params.toList args.toList ds p := hA0
  rw [Try.params3] at hA hval
  obtain ⟨v0, vs0, d0, ds0, p0, q0, hargs0, rfl, rfl, h0, r0⟩ := trodAll_cons hA
  obtain ⟨v1, vs1, d1, ds1, p1, q1, hargs1, rfl, rfl, h1, r1⟩ := trodAll_cons r0
  obtain ⟨rfl, rfl, rfl⟩ := trodAll_nil r1
  obtain rfl : args = #[v0, v1] := by cases args; simp_all
  obtain ⟨rfl, rfl⟩ := trodVars_none hV
  obtain ⟨a0, b0, rfl, rfl, rfl, ha0, hb0⟩ := open_setting (hval 0 23 v0 rfl rfl) h0
  have lt1 : ∀ x ∈ p1, x.block < W.heap.size := fun x hx => hW'.lt x (by simp [hx])
  obtain ⟨A1, c1, L1, rfl, hL1, hs1, hR1⟩ := open_u8s (hval 1 24 v1 rfl rfl) h1 lt1
  clear hA0 hval0
  simp only [List.append_nil] at hW'
  refine (walk W a0 b0 ha0 hb0 A1 c1 L1 hL1 hs1 hR1).mono fun e W' ⟨he, hb⟩ => ?_
  subst he
  exact ⟨_, rfl, post_mem hW' hb (fun _ _ _ => trodAll_mk1 (shut_bool Try.underlying4 _)) (fun sp hsp => by
    have t := trodAll_cons_mk (shut_setting ha0 hb0 _ sp) (trodAll_cons_mk (carry laidOut (by kernel_rfl) (of_decide_eq_true (by kernel_rfl)) h1 hb lt1 sp (fun x hx => hsp x (by simp [hx]))) trodAll_mk0)
    simp only [List.append_nil] at t
    exact t) (fun _ => rfl) (ok_one (by kernel_rfl) rfl (okWide_bool_mk Try.underlying4 _))⟩

theorem proved : Rows.BottomkAddsSaid :=
  OpenClaim.holds_of_wide 3 Try.f3 rfl rfl rfl rfl rfl rfl rfl ⟨rfl, rfl, rfl, rfl, rfl⟩ rfl rfl rfl rfl rfl (by kernel_rfl) Try.func3 (by kernel_rfl)
    (of_decide_eq_true (by kernel_rfl)) (by unfold Func.isWrapper; first | (rw [if_pos (by decide +kernel)]; kernel_rfl) | (rw [if_neg (by decide +kernel)]; exact ⟨rfl, rfl⟩))
    (fun os started H enc _ => lifted os started H enc)
end Go.Proofs.Ythajdlpljliefaa.lawAdds
