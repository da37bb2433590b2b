/- DiskLimits: up to the failure a disk with a limit behaves like one without (written by wip/bin/gen_dl26.py). No condition. -/
import Derived.Test.YtjajmlamlmnljaaEa
import Derived.Test.YtjajmlamlmnljaaDu
import Derived.Deep.RegionHeld3
namespace Go.Proofs.Ytjajmlamlmnljaa.lawLimits
open Go.ChangeShapes Go.WideShapes Go.ChangeAt Go.RowKit Go.Joins

theorem laidOut : laidOutB Try.prog = true := by kernel_rfl
set_option maxRecDepth 100000 in
set_option maxHeartbeats 16000000 in
theorem run (w : World) (n l : Nat) (hn : n ≤ 255) (hl : l ≤ 255) (A : Option Addr) (c : Nat) (L : List Oq) (hok : ∀ x ∈ L, x.Ok w) (hR : OR w A L) (hL : L.length ≤ 9223372036854775807) :
    Calls Try.prog 7 #[.int .u8 (n : Int), .int .u8 (l : Int), .slice A L.length c] w fun e w' => e = .returned (.bool true) ∧ Below w.heap.size w w' := by
  have HCp := Lib.hid (fun W => cap_law n hn W)
  obtain ⟨N, hN⟩ : ∃ N, N = 20 + n := ⟨_, rfl⟩
  rw [← hN] at HCp
  have hN1 : 20 ≤ N ∧ N ≤ 275 := by omega
  obtain ⟨ln, hln⟩ : ∃ ln, ln = L.length := ⟨_, rfl⟩
  have HLn := Lib.hid hln
  rw [← hln] at hL ⊢
  obtain ⟨lf, hlf⟩ : ∃ lf, lf = l % 61 := ⟨_, rfl⟩
  have hlm : (l : Int) % 61 = (lf : Int) := by omega
  have hlf60 : lf ≤ 60 := by omega
  obtain ⟨p, hp⟩ : ∃ p, p = w.heap.size := ⟨_, rfl⟩
  have HPe := Lib.hid hp
  have HPl : Hid (p ≤ w.heap.size) := Lib.hid (Nat.le_of_eq hp)
  have HNw := Lib.hid (new_any (N : Int) w)
  rw [← hp] at HNw
  have HOk := Lib.hid hok
  have HR := Lib.hid hR
  clear hp hN hok hR hln hlf
  go_enter Try.func7, Try.ntmps7
  go_wp2_with fail
  refine (HCp.out _).mono ?_
  rintro e w0 ⟨rfl, rfl⟩
  go_wp2_with fail
  refine HNw.out.mono ?_
  rintro e w1 ⟨h, hb⟩
  rw [if_neg (by omega)] at h
  obtain ⟨rfl, hD⟩ := h
  have HD1 : Hid (Dk w1 p p (Up (N : Int) none [])) := Lib.hid hD
  have HB1 : Hid (Below p w0 w1) := Lib.hid hb
  clear hD hb
  go_wp2_with fail
  refine (HCp.out _).mono ?_
  rintro e w2 ⟨rfl, rfl⟩
  go_wp2_with fail
  refine (new_any (N : Int) w2).mono ?_
  rintro e w3 ⟨h, hb⟩
  rw [if_neg (by omega)] at h
  obtain ⟨rfl, hD⟩ := h
  obtain ⟨q, hq⟩ : ∃ q, q = w2.heap.size := ⟨_, rfl⟩
  rw [← hq] at hD ⊢
  have hpq : p < q := by rw [hq]; exact HD1.out.lt
  have HD3 := Lib.hid (HD1.out.below hb)
  have HE3 : Hid (Dk w3 q q (Up (N : Int) none [])) := Lib.hid hD
  have HB3 := Lib.hid (HB1.out.trans (hb.mono (Nat.le_trans HPl.out HB1.out.size)))
  clear hD hb hq
  go_wp2_with fail
  refine (known_any _).mono ?_
  rintro e w4 ⟨rfl, hb⟩
  have HD4 := Lib.hid (HD3.out.below hb)
  have HE4 := Lib.hid (HE3.out.below hb)
  have HB4 := Lib.hid (HB3.out.trans (hb.mono (Nat.le_trans HPl.out HB3.out.size)))
  clear hb
  go_wp2_with fail
  refine (limit_any p p (Up (N : Int) none []) (lf : Int) w4 HD4.out).mono ?_
  rintro e w5 ⟨rfl, hD, hT⟩
  rw [show max (lf : Int) 0 = (lf : Int) by omega] at hD
  have HTw : Hid (Tw 0 (lf : Int) w5 p q ⟨N, false, true, lf, none, []⟩ (Up (N : Int) none [])) := Lib.hid ⟨hD, HE4.out.turn hT (fun i hi e => by
      rcases hi with h | h | ⟨x, hx, _⟩
      · omega
      · cases h
      · simp at hx), fun i h1 h2 => by
      rcases h1 with h1 | h1 | ⟨x, hx, _⟩
      · rcases h2 with h2 | h2 | ⟨x, hx, _⟩
        · omega
        · cases h2
        · simp at hx
      · cases h1
      · simp at hx, ⟨rfl, rfl, rfl, rfl, rfl, ⟨rfl, rfl, rfl⟩⟩, ⟨Nat.le_refl _, fun x hx => by simp at hx⟩, by omega, by show (0 : Int) ≤ (N : Int) ∧ (N : Int) ≤ 100000; omega⟩
  have HB5 := Lib.hid (hT.below HB4.out (fun i hi => by rw [hi]; exact Nat.le_refl _) HPl.out)
  clear hD hT HNw
  go_wp2_with fail
  go_loopw [6, 11, 12, 13, 14, 15, 16, 17, 18, 83, 93, 101] (fun _a lv iv _b _c _d _e _f _g _h _i _j wr => ∃ (j : Nat) (left : Int) (S T : Ds), j ≤ 60 ∧ j ≤ ln ∧ lv = .int .i64 left ∧ left ≤ 60 ∧ iv = .int .i64 (j : Int) ∧ Hid (Tw j left wr p q S T) ∧ Hid (Below p w0 wr)) (fun _ _ iv _ _ _ _ _ _ _ _ _ _ => 60 - (intOf iv).toNat)
  case atStart => exact ⟨0, lf, _, _, by omega, by omega, rfl, by omega, rfl, HTw, HB5⟩
  case round =>
    obtain ⟨j, left, S, T, hj, hjl, rfl, hl60, rfl, HTw, HB⟩ := hrel
    have hl0 := HTw.out.hl
    have hwj : IntKind.i64.wrap ((j : Int) + 1) = (j : Int) + 1 := by simp only [IntKind.wrap_i64]; omega
    have hwl : IntKind.i64.wrap (left - 1) = left - 1 := by simp only [IntKind.wrap_i64]; omega
    have hj0 : (0 : Int) ≤ (j : Int) := by omega
    by_cases hlt : j < ln ∧ j < 60
    · obtain ⟨hlt, hlt60⟩ := hlt
      have hjI : (j : Int) < (ln : Int) := by omega
      have hj60 : (j : Int) < 60 := by omega
      have hj2 : j < L.length := by rw [← HLn.out]; exact hlt
      have hx := HOk.out _ (List.getElem_mem hj2)
      obtain ⟨b, off, rfl, hbl, hc⟩ := HR.out j hj2
      obtain ⟨x, hxe⟩ : ∃ x, x = L[j] := ⟨_, rfl⟩
      rw [← hxe] at hx hc
      clear hxe
      obtain ⟨kd, nm, ot, data, num, A6, c6, L6⟩ := x
      have hblp : b < p := by rw [HPe.out]; exact hbl
      have hcw : ∀ i, i < 6 → wr.cell? ⟨b, off + j * 6 + i, none⟩ = ((⟨kd, nm, ot, data, num, A6, c6, L6⟩ : Oq).C)[i]? := fun i hi => (HB.out.cell (p := ⟨b, off + j * 6 + i, none⟩) hblp).trans (hc i hi)
      have k0 : wr.cell? ⟨b, off + j * 6, none⟩ = some (.int .u8 (kd : Int)) := hcw 0 (by decide)
      have k1 : wr.cell? ⟨b, off + j * 6 + 1, none⟩ = some (.int .u8 (nm : Int)) := hcw 1 (by decide)
      have k2 : wr.cell? ⟨b, off + j * 6 + 2, none⟩ = some (.int .u8 (ot : Int)) := hcw 2 (by decide)
      have k3 : wr.cell? ⟨b, off + j * 6 + 3, none⟩ = some (.string data) := hcw 3 (by decide)
      have k4 : wr.cell? ⟨b, off + j * 6 + 4, none⟩ = some (.int .i64 num) := hcw 4 (by decide)
      have k5 : wr.cell? ⟨b, off + j * 6 + 5, none⟩ = some (.slice A6 L6.length c6) := hcw 5 (by decide)
      have hkd : kd ≤ 255 := hx.kd
      have hds : data.size ≤ 9223372036854775807 := hx.data
      clear hx hc hcw
      obtain ⟨g, hg⟩ : ∃ g, g = wr.heap.size := ⟨_, rfl⟩
      obtain ⟨W3, hW3⟩ : ∃ W3, W3 = wr.alloc (.cells #[.int .u8 (kd : Int), .int .u8 (nm : Int), .int .u8 (ot : Int), .string data, .int .i64 num, .slice A6 L6.length c6] 38) := ⟨_, rfl⟩
      have hb3 : Below wr.heap.size wr W3 := by rw [hW3]; exact (Below.refl _ _).alloc (Nat.le_refl _) _
      have HG3 : Hid (W3.heap[g]? = some (.cells #[.int .u8 (kd : Int), .int .u8 (nm : Int), .int .u8 (ot : Int), .string data, .int .i64 num, .slice A6 L6.length c6] 38 (0, 0))) := Lib.hid (by rw [hW3, hg]; exact Deep.blk_alloc_new _ _)
      have HT3 := Lib.hid (HTw.out.below hb3)
      have HB3' := Lib.hid (HB.out.trans (hb3.mono (Nat.le_trans HPl.out HB.out.size)))
      have HW3 := Lib.hid hW3
      have HGe := Lib.hid hg
      obtain ⟨k, hk⟩ : ∃ k, k = nml (nm % 8) := ⟨_, rfl⟩
      obtain ⟨kk, hkk⟩ : ∃ kk, kk = nml (ot % 8) := ⟨_, rfl⟩
      have HNa := Lib.hid (fun W => name_law nm W)
      have HNb := Lib.hid (fun W => name_law ot W)
      rw [← hk] at HNa
      rw [← hkk] at HNb
      have hks : k.size ≤ 100 := by rw [hk]; exact Nat.le_trans (nml_size _) (by decide)
      have hkks : kk.size ≤ 100 := by rw [hkk]; exact Nat.le_trans (nml_size _) (by decide)
      clear hg hW3 hb3 hk hkk
      go_wp2_with fail
      rw [← HW3.out, ← HGe.out]
      clear k0 k1 k2 k3 k4 k5
      have HCl : Hid (∀ W, Below W3.heap.size W3 W → W.cell? ⟨g, 1, none⟩ = some (.int .u8 (nm : Int)) ∧ W.cell? ⟨g, 2, none⟩ = some (.int .u8 (ot : Int))) := Lib.hid (fun W hb => by
        have h := (hb.block g (Array.getElem?_eq_some_iff.1 HG3.out).1).trans HG3.out
        exact ⟨cell_of_row _ _ 1 _ _ _ h, cell_of_row _ _ 2 _ _ _ h⟩)
      have HDw : Hid (∀ u, Below W3.heap.size W3 (W3.drewN u)) := Lib.hid (fun u => below_drewN (Below.refl _ _) u)
      go_region_held3 (fun W => W.cell? ⟨g, 1, none⟩ = some (.int .u8 (nm : Int)) ∧ W.cell? ⟨g, 2, none⟩ = some (.int .u8 (ot : Int)))
        (first | exact HCl.out _ HB9.out | exact HCl.out _ HB8.out | exact HCl.out _ (HDw.out _))
        ((first
          | (go_at_call 23; (refine (HNa.out _).mono ?_); rintro e v8 ⟨rfl, hb⟩; have HB8 := Lib.hid ((HDw.out _).trans (hb.mono (HDw.out _).size)); clear hb)
          | (go_at_call 23; (refine (HNb.out _).mono ?_); rintro e v9 ⟨rfl, hb⟩; have HB9 := Lib.hid (HB8.out.trans (hb.mono HB8.out.size)); clear hb)
          | fail))
      have HT9 := Lib.hid (HT3.out.below HB9.out)
      have HB9' := Lib.hid (HB3'.out.trans (HB9.out.mono (Nat.le_trans HPl.out HB3'.out.size)))
      have HG9 := Lib.hid ((HB9.out.block g (Array.getElem?_eq_some_iff.1 HG3.out).1).trans HG3.out)
      have c0 := cell_of_row _ _ 0 _ _ _ HG9.out
      have c3 := cell_of_row _ _ 3 _ _ _ HG9.out
      simp at c0 c3
      obtain ⟨m, hm⟩ : ∃ m : Nat, (m : Int) = min (data.size : Int) 40 := ⟨(min (data.size : Int) 40).toNat, by omega⟩
      have hm1 : m ≤ data.size := by omega
      have hm40 : m ≤ 40 := by omega
      clear HCl HDw HB8 HB9 HNa HNb HG3 HT3 HB3'
      have hmm := hm.symm
      clear hm
      obtain ⟨dx, hdx0⟩ : ∃ dx, dx = data.extract 0 m := ⟨_, rfl⟩
      have hdx : dx.size ≤ 40 := by rw [hdx0, ByteArray.size_extract]; omega
      have HDx := Lib.hid hdx0
      clear hdx0
      have hcase : (kd : Int) % 4 = 0 ∨ (kd : Int) % 4 = 1 ∨ (kd : Int) % 4 = 2 ∨ (kd : Int) % 4 = 3 := by omega
      rcases hcase with hkm | hkm | hkm | hkm
      · go_wp2_with fail
        try rw [← HDx.out]
        refine (append_post p S (by have := HT9.out.st.lft; omega) (j := j) (by omega) ⟨HT9.out.bd.len, HT9.out.bd.us⟩ (by have := HT9.out.cap; omega) k kk _ hks hdx _ (Nat.le_trans HPl.out HB9'.out.size) HT9.out.a).mono ?_
        rintro e v10 hp1
        obtain ⟨⟨S1, e1⟩, hx, rfl, hD10, hE10, hap10, hT10⟩ := HT9.out.mid hp1
        have HB10 := Lib.hid (hT10.below HB9'.out (fun i hi => (HT9.out.a.ft_lt hi).1) HPl.out)
        clear hp1 hT10
        have HE10 := Lib.hid hE10
        have HC2 := Lib.hid (append_post q T (by have := HT9.out.st.lft2; omega) (j := j) (by omega) ⟨by rw [← HT9.out.st.sm.len]; exact HT9.out.bd.len, by rw [← HT9.out.st.sm.us]; exact HT9.out.bd.us⟩ (by have := HT9.out.cap; have := HT9.out.st.sm.cap; omega) k kk _ hks hdx _ (Nat.le_of_lt hE10.lt) hE10)
        have HFn := Lib.hid (fun e w2 (hq : Post 0 T q k kk dx v10 e w2) => HT9.out.fin (κ := 0) hdx hx hD10 hap10 hq)
        clear hx hD10 hap10 hE10
        dsimp only
        go_wp2_with fail
        try rw [← HDx.out]
        refine HC2.out.mono ?_
        rintro e v11 hp2
        obtain ⟨⟨T1, e2⟩, rfl, hD11, hT11, hor⟩ := HFn.out _ _ hp2
        have HB11 := Lib.hid (hT11.below HB10.out (fun i hi => Nat.le_trans (Nat.le_of_lt hpq) (HE10.out.ft_lt hi).1) HPl.out)
        have HD11 := Lib.hid hD11
        clear hp2 hD11 hT11 HFn HC2
        dsimp only at hor
        rcases hor with ⟨h1, h2, h3⟩ | ⟨h1, h2, h3, h4, h5, h6⟩ | ⟨h1, h2, h3, h4⟩
        · subst h2
          have z1 : (e1 == 0) = false := by simpa using h1
          have HTz := Lib.hid h3
          have HDn := Lib.hid (down_any p S1 v11 h3.a.blk)
          rw [h3.st.up] at HDn
          clear h3
          go_wp2_with fail
          refine HDn.out.mono ?_
          rintro e v12 ⟨rfl, hb⟩
          have HT12 := Lib.hid (HTz.out.below hb)
          have HB12 := Lib.hid (HB11.out.trans (hb.mono (Nat.le_trans HPl.out HB11.out.size)))
          clear hb
          go_wp2_with fail
          go_roundw
          case rel => exact ⟨j + 1, left, S1, T1, by omega, by omega, rfl, hl60, by go_num, HT12, HB12⟩
          case measure => simp [intOf] <;> omega
        · subst h1 h3 h2
          have HDn := Lib.hid (down_any p S1 v11 HD11.out.blk)
          rw [h4] at HDn
          have H4 := Lib.hid h4
          have H5 := Lib.hid h5
          have H6 := Lib.hid h6
          clear h4 h5 h6
          go_wp2_with fail
          refine HDn.out.mono ?_
          rintro e v12 ⟨rfl, hb⟩
          have HD12 := Lib.hid (HD11.out.below hb)
          have HB12 := Lib.hid (HB11.out.trans (hb.mono (Nat.le_trans HPl.out HB11.out.size)))
          clear hb
          go_wp2_with fail
          refine (sync_down p S1 H4.out H5.out (by have := H6.out; omega) k hks v12 (Nat.le_trans HPl.out HB12.out.size) HD12.out).mono ?_
          rintro e v13 ⟨rfl, hT⟩
          have HB13 := Lib.hid (hT.below HB12.out (fun i hi => (HD12.out.ft_lt hi).1) HPl.out)
          clear hT
          go_wp2_with fail
          go_ret
          exact ⟨by first | rfl | simp, by rw [← HPe.out]; exact HB13.out⟩
        · subst h1 h3
          have z2 : (left == 0) = false := by simp; omega
          have HTz := Lib.hid h4
          have HDn := Lib.hid (down_any p S1 v11 h4.a.blk)
          rw [h4.st.up] at HDn
          clear h4
          go_wp2_with fail
          refine HDn.out.mono ?_
          rintro e v12 ⟨rfl, hb⟩
          have HT12 := Lib.hid (HTz.out.below hb)
          have HB12 := Lib.hid (HB11.out.trans (hb.mono (Nat.le_trans HPl.out HB11.out.size)))
          clear hb
          go_wp2_with fail
          go_roundw
          case rel => exact ⟨j + 1, left - 1, S1, T1, by omega, by omega, by go_num, by omega, by go_num, HT12, HB12⟩
          case measure => simp [intOf] <;> omega
      · go_wp2_with fail
        try rw [← HDx.out]
        refine (sync_post p S (by have := HT9.out.st.lft; omega) (Nat.le_trans HT9.out.bd.len hj) k kk dx hks _ (Nat.le_trans HPl.out HB9'.out.size) HT9.out.a).mono ?_
        rintro e v10 hp1
        obtain ⟨⟨S1, e1⟩, hx, rfl, hD10, hE10, hap10, hT10⟩ := HT9.out.mid hp1
        have HB10 := Lib.hid (hT10.below HB9'.out (fun i hi => (HT9.out.a.ft_lt hi).1) HPl.out)
        clear hp1 hT10
        have HE10 := Lib.hid hE10
        have HC2 := Lib.hid (sync_post q T (by have := HT9.out.st.lft2; omega) (by rw [← HT9.out.st.sm.len]; exact Nat.le_trans HT9.out.bd.len hj) k kk dx hks _ (Nat.le_of_lt hE10.lt) hE10)
        have HFn := Lib.hid (fun e w2 (hq : Post 1 T q k kk dx v10 e w2) => HT9.out.fin (κ := 1) hdx hx hD10 hap10 hq)
        clear hx hD10 hap10 hE10
        dsimp only
        go_wp2_with fail
        try rw [← HDx.out]
        refine HC2.out.mono ?_
        rintro e v11 hp2
        obtain ⟨⟨T1, e2⟩, rfl, hD11, hT11, hor⟩ := HFn.out _ _ hp2
        have HB11 := Lib.hid (hT11.below HB10.out (fun i hi => Nat.le_trans (Nat.le_of_lt hpq) (HE10.out.ft_lt hi).1) HPl.out)
        have HD11 := Lib.hid hD11
        clear hp2 hD11 hT11 HFn HC2
        dsimp only at hor
        rcases hor with ⟨h1, h2, h3⟩ | ⟨h1, h2, h3, h4, h5, h6⟩ | ⟨h1, h2, h3, h4⟩
        · subst h2
          have z1 : (e1 == 0) = false := by simpa using h1
          have HTz := Lib.hid h3
          have HDn := Lib.hid (down_any p S1 v11 h3.a.blk)
          rw [h3.st.up] at HDn
          clear h3
          go_wp2_with fail
          refine HDn.out.mono ?_
          rintro e v12 ⟨rfl, hb⟩
          have HT12 := Lib.hid (HTz.out.below hb)
          have HB12 := Lib.hid (HB11.out.trans (hb.mono (Nat.le_trans HPl.out HB11.out.size)))
          clear hb
          go_wp2_with fail
          go_roundw
          case rel => exact ⟨j + 1, left, S1, T1, by omega, by omega, rfl, hl60, by go_num, HT12, HB12⟩
          case measure => simp [intOf] <;> omega
        · subst h1 h3 h2
          have HDn := Lib.hid (down_any p S1 v11 HD11.out.blk)
          rw [h4] at HDn
          have H4 := Lib.hid h4
          have H5 := Lib.hid h5
          have H6 := Lib.hid h6
          clear h4 h5 h6
          go_wp2_with fail
          refine HDn.out.mono ?_
          rintro e v12 ⟨rfl, hb⟩
          have HD12 := Lib.hid (HD11.out.below hb)
          have HB12 := Lib.hid (HB11.out.trans (hb.mono (Nat.le_trans HPl.out HB11.out.size)))
          clear hb
          go_wp2_with fail
          refine (sync_down p S1 H4.out H5.out (by have := H6.out; omega) k hks v12 (Nat.le_trans HPl.out HB12.out.size) HD12.out).mono ?_
          rintro e v13 ⟨rfl, hT⟩
          have HB13 := Lib.hid (hT.below HB12.out (fun i hi => (HD12.out.ft_lt hi).1) HPl.out)
          clear hT
          go_wp2_with fail
          go_ret
          exact ⟨by first | rfl | simp, by rw [← HPe.out]; exact HB13.out⟩
        · subst h1 h3
          have z2 : (left == 0) = false := by simp; omega
          have HTz := Lib.hid h4
          have HDn := Lib.hid (down_any p S1 v11 h4.a.blk)
          rw [h4.st.up] at HDn
          clear h4
          go_wp2_with fail
          refine HDn.out.mono ?_
          rintro e v12 ⟨rfl, hb⟩
          have HT12 := Lib.hid (HTz.out.below hb)
          have HB12 := Lib.hid (HB11.out.trans (hb.mono (Nat.le_trans HPl.out HB11.out.size)))
          clear hb
          go_wp2_with fail
          go_roundw
          case rel => exact ⟨j + 1, left - 1, S1, T1, by omega, by omega, by go_num, by omega, by go_num, HT12, HB12⟩
          case measure => simp [intOf] <;> omega
      · go_wp2_with fail
        try rw [← HDx.out]
        refine (rename_post p S (by have := HT9.out.st.lft; omega) (Nat.le_trans HT9.out.bd.len hj) k kk dx hks hkks _ (Nat.le_trans HPl.out HB9'.out.size) HT9.out.a).mono ?_
        rintro e v10 hp1
        obtain ⟨⟨S1, e1⟩, hx, rfl, hD10, hE10, hap10, hT10⟩ := HT9.out.mid hp1
        have HB10 := Lib.hid (hT10.below HB9'.out (fun i hi => (HT9.out.a.ft_lt hi).1) HPl.out)
        clear hp1 hT10
        have HE10 := Lib.hid hE10
        have HC2 := Lib.hid (rename_post q T (by have := HT9.out.st.lft2; omega) (by rw [← HT9.out.st.sm.len]; exact Nat.le_trans HT9.out.bd.len hj) k kk dx hks hkks _ (Nat.le_of_lt hE10.lt) hE10)
        have HFn := Lib.hid (fun e w2 (hq : Post 2 T q k kk dx v10 e w2) => HT9.out.fin (κ := 2) hdx hx hD10 hap10 hq)
        clear hx hD10 hap10 hE10
        dsimp only
        go_wp2_with fail
        try rw [← HDx.out]
        refine HC2.out.mono ?_
        rintro e v11 hp2
        obtain ⟨⟨T1, e2⟩, rfl, hD11, hT11, hor⟩ := HFn.out _ _ hp2
        have HB11 := Lib.hid (hT11.below HB10.out (fun i hi => Nat.le_trans (Nat.le_of_lt hpq) (HE10.out.ft_lt hi).1) HPl.out)
        have HD11 := Lib.hid hD11
        clear hp2 hD11 hT11 HFn HC2
        dsimp only at hor
        rcases hor with ⟨h1, h2, h3⟩ | ⟨h1, h2, h3, h4, h5, h6⟩ | ⟨h1, h2, h3, h4⟩
        · subst h2
          have z1 : (e1 == 0) = false := by simpa using h1
          have HTz := Lib.hid h3
          have HDn := Lib.hid (down_any p S1 v11 h3.a.blk)
          rw [h3.st.up] at HDn
          clear h3
          go_wp2_with fail
          refine HDn.out.mono ?_
          rintro e v12 ⟨rfl, hb⟩
          have HT12 := Lib.hid (HTz.out.below hb)
          have HB12 := Lib.hid (HB11.out.trans (hb.mono (Nat.le_trans HPl.out HB11.out.size)))
          clear hb
          go_wp2_with fail
          go_roundw
          case rel => exact ⟨j + 1, left, S1, T1, by omega, by omega, rfl, hl60, by go_num, HT12, HB12⟩
          case measure => simp [intOf] <;> omega
        · subst h1 h3 h2
          have HDn := Lib.hid (down_any p S1 v11 HD11.out.blk)
          rw [h4] at HDn
          have H4 := Lib.hid h4
          have H5 := Lib.hid h5
          have H6 := Lib.hid h6
          clear h4 h5 h6
          go_wp2_with fail
          refine HDn.out.mono ?_
          rintro e v12 ⟨rfl, hb⟩
          have HD12 := Lib.hid (HD11.out.below hb)
          have HB12 := Lib.hid (HB11.out.trans (hb.mono (Nat.le_trans HPl.out HB11.out.size)))
          clear hb
          go_wp2_with fail
          refine (sync_down p S1 H4.out H5.out (by have := H6.out; omega) k hks v12 (Nat.le_trans HPl.out HB12.out.size) HD12.out).mono ?_
          rintro e v13 ⟨rfl, hT⟩
          have HB13 := Lib.hid (hT.below HB12.out (fun i hi => (HD12.out.ft_lt hi).1) HPl.out)
          clear hT
          go_wp2_with fail
          go_ret
          exact ⟨by first | rfl | simp, by rw [← HPe.out]; exact HB13.out⟩
        · subst h1 h3
          have z2 : (left == 0) = false := by simp; omega
          have HTz := Lib.hid h4
          have HDn := Lib.hid (down_any p S1 v11 h4.a.blk)
          rw [h4.st.up] at HDn
          clear h4
          go_wp2_with fail
          refine HDn.out.mono ?_
          rintro e v12 ⟨rfl, hb⟩
          have HT12 := Lib.hid (HTz.out.below hb)
          have HB12 := Lib.hid (HB11.out.trans (hb.mono (Nat.le_trans HPl.out HB11.out.size)))
          clear hb
          go_wp2_with fail
          go_roundw
          case rel => exact ⟨j + 1, left - 1, S1, T1, by omega, by omega, by go_num, by omega, by go_num, HT12, HB12⟩
          case measure => simp [intOf] <;> omega
      · go_wp2_with fail
        try rw [← HDx.out]
        refine (remove_post p S (by have := HT9.out.st.lft; omega) k kk dx hks _ HT9.out.a).mono ?_
        rintro e v10 hp1
        obtain ⟨⟨S1, e1⟩, hx, rfl, hD10, hE10, hap10, hT10⟩ := HT9.out.mid hp1
        have HB10 := Lib.hid (hT10.below HB9'.out (fun i hi => (HT9.out.a.ft_lt hi).1) HPl.out)
        clear hp1 hT10
        have HE10 := Lib.hid hE10
        have HC2 := Lib.hid (remove_post q T (by have := HT9.out.st.lft2; omega) k kk dx hks _ hE10)
        have HFn := Lib.hid (fun e w2 (hq : Post 3 T q k kk dx v10 e w2) => HT9.out.fin (κ := 3) hdx hx hD10 hap10 hq)
        clear hx hD10 hap10 hE10
        dsimp only
        go_wp2_with fail
        try rw [← HDx.out]
        refine HC2.out.mono ?_
        rintro e v11 hp2
        obtain ⟨⟨T1, e2⟩, rfl, hD11, hT11, hor⟩ := HFn.out _ _ hp2
        have HB11 := Lib.hid (hT11.below HB10.out (fun i hi => Nat.le_trans (Nat.le_of_lt hpq) (HE10.out.ft_lt hi).1) HPl.out)
        have HD11 := Lib.hid hD11
        clear hp2 hD11 hT11 HFn HC2
        dsimp only at hor
        rcases hor with ⟨h1, h2, h3⟩ | ⟨h1, h2, h3, h4, h5, h6⟩ | ⟨h1, h2, h3, h4⟩
        · subst h2
          have z1 : (e1 == 0) = false := by simpa using h1
          have HTz := Lib.hid h3
          have HDn := Lib.hid (down_any p S1 v11 h3.a.blk)
          rw [h3.st.up] at HDn
          clear h3
          go_wp2_with fail
          refine HDn.out.mono ?_
          rintro e v12 ⟨rfl, hb⟩
          have HT12 := Lib.hid (HTz.out.below hb)
          have HB12 := Lib.hid (HB11.out.trans (hb.mono (Nat.le_trans HPl.out HB11.out.size)))
          clear hb
          go_wp2_with fail
          go_roundw
          case rel => exact ⟨j + 1, left, S1, T1, by omega, by omega, rfl, hl60, by go_num, HT12, HB12⟩
          case measure => simp [intOf] <;> omega
        · subst h1 h3 h2
          have HDn := Lib.hid (down_any p S1 v11 HD11.out.blk)
          rw [h4] at HDn
          have H4 := Lib.hid h4
          have H5 := Lib.hid h5
          have H6 := Lib.hid h6
          clear h4 h5 h6
          go_wp2_with fail
          refine HDn.out.mono ?_
          rintro e v12 ⟨rfl, hb⟩
          have HD12 := Lib.hid (HD11.out.below hb)
          have HB12 := Lib.hid (HB11.out.trans (hb.mono (Nat.le_trans HPl.out HB11.out.size)))
          clear hb
          go_wp2_with fail
          refine (sync_down p S1 H4.out H5.out (by have := H6.out; omega) k hks v12 (Nat.le_trans HPl.out HB12.out.size) HD12.out).mono ?_
          rintro e v13 ⟨rfl, hT⟩
          have HB13 := Lib.hid (hT.below HB12.out (fun i hi => (HD12.out.ft_lt hi).1) HPl.out)
          clear hT
          go_wp2_with fail
          go_ret
          exact ⟨by first | rfl | simp, by rw [← HPe.out]; exact HB13.out⟩
        · subst h1 h3
          have z2 : (left == 0) = false := by simp; omega
          have HTz := Lib.hid h4
          have HDn := Lib.hid (down_any p S1 v11 h4.a.blk)
          rw [h4.st.up] at HDn
          clear h4
          go_wp2_with fail
          refine HDn.out.mono ?_
          rintro e v12 ⟨rfl, hb⟩
          have HT12 := Lib.hid (HTz.out.below hb)
          have HB12 := Lib.hid (HB11.out.trans (hb.mono (Nat.le_trans HPl.out HB11.out.size)))
          clear hb
          go_wp2_with fail
          go_roundw
          case rel => exact ⟨j + 1, left - 1, S1, T1, by omega, by omega, by go_num, by omega, by go_num, HT12, HB12⟩
          case measure => simp [intOf] <;> omega
    · have hjI : ¬ ((j : Int) < (ln : Int)) ∨ (j : Int) < (ln : Int) ∧ ¬ (j : Int) < 60 := by omega
      have HDn := Lib.hid (down_any p S wr HTw.out.a.blk)
      rw [HTw.out.st.up] at HDn
      rcases hjI with hjI | ⟨hjI, hj60⟩
      · go_wp2_with fail
        refine HDn.out.mono ?_
        rintro e w6 ⟨rfl, hb⟩
        have HB6 := Lib.hid (HB.out.trans (hb.mono (Nat.le_trans HPl.out HB.out.size)))
        clear hb
        go_wp2_with fail
        go_ret
        exact ⟨rfl, by rw [← HPe.out]; exact HB6.out⟩
      · go_wp2_with fail
        refine HDn.out.mono ?_
        rintro e w6 ⟨rfl, hb⟩
        have HB6 := Lib.hid (HB.out.trans (hb.mono (Nat.le_trans HPl.out HB.out.size)))
        clear hb
        go_wp2_with fail
        go_ret
        exact ⟨rfl, by rw [← HPe.out]; exact HB6.out⟩
theorem walk (w : World) (n : Int) (wn : (Lit.int .u8 n).wf = true) (l : Int) (wl : (Lit.int .u8 l).wf = true) (A : Option Addr) (c : Nat) (L : List Oq) (hL : L.length ≤ 9223372036854775807) (hok : ∀ x ∈ L, x.Ok w) (hR : OR w A L) :
    Calls Try.prog 7 #[.int .u8 n, .int .u8 l, .slice A L.length c] w fun e w' => e = .returned (.bool true) ∧ Below w.heap.size w w' := by
  have h1 := bd8 wn
  have h2 := bd8 wl
  obtain ⟨i, rfl⟩ : ∃ i : Nat, n = (i : Int) := ⟨n.toNat, by omega⟩
  obtain ⟨j, rfl⟩ : ∃ j : Nat, l = (j : Int) := ⟨l.toNat, by omega⟩
  exact run w i j (by omega) (by omega) A c L hok hR hL
set_option maxRecDepth 100000 in
theorem lifted (os : Os) (started : os.Started) (H : Type) (enc : TypeId × Value → H) :
    ReturnsInHanded {} Try.checked os 7 .any (Rows.diskLimitsSpec.pre6 enc Try.prog Try.f7 Rows.diskLimitsRow.domain false) (Rows.diskLimitsSpec.post enc Try.prog Try.f7 false true false false) := by
  refine returnsInHanded_of_change (C := Try.checked) own started (by kernel_rfl) Try.func7
    (ChangeSpec.witness6 (enc := enc) (C := Try.checked) false ⟨#[], #[.int .u8 0, .int .u8 0, .slice none 0 0], []⟩ 8 (by kernel_rfl) (by kernel_rfl) (by kernel_rfl) (by kernel_rfl)) ?_
  intro W base args ds gs before hval0 hW _ _
  have hval : ∀ (j : Nat) t v, Try.f7.params[j]? = some t → args[j]? = some v → Value.okWide Try.prog W .any base t v := hval0
  have hW' := hW
  obtain ⟨p, q, hA0, hV, rfl, _, _⟩ := hW
  have hA : DataW.TrodAll enc Try.prog W 0 (fun _ => true) true Try.f7.params.toList args.toList ds p := hA0
  rw [Try.params7] at hA hval
  obtain ⟨v0, vs0, d0, ds0, p0, q0, hargs0, rfl, rfl, h0, r0⟩ := trodAll_cons hA
  obtain ⟨v1, vs1, d1, ds1, p1, q1, hargs1, rfl, rfl, h1, r1⟩ := trodAll_cons r0
  obtain ⟨v2, vs2, d2, ds2, p2, q2, hargs2, rfl, rfl, h2, r2⟩ := trodAll_cons r1
  obtain ⟨rfl, rfl, rfl⟩ := trodAll_nil r2
  obtain rfl : args = #[v0, v1, v2] := by cases args; simp_all
  obtain ⟨rfl, rfl⟩ := trodVars_none hV
  obtain ⟨a0, rfl, rfl, rfl, wa0⟩ := open_int Try.underlying5 (hval 0 5 v0 rfl rfl) h0
  obtain ⟨a1, rfl, rfl, rfl, wa1⟩ := open_int Try.underlying5 (hval 1 5 v1 rfl rfl) h1
  have lt2 : ∀ x ∈ p2, x.block < W.heap.size := fun x hx => hW'.lt x (by simp [hx])
  obtain ⟨A2, c2, L2, rfl, hL2, hs2, hR2⟩ := open_oqs (hval 2 33 v2 rfl rfl) h2 lt2
  clear hA0 hval0
  simp only [List.append_nil] at hW'
  refine (walk W a0 wa0 a1 wa1 A2 c2 L2 hL2 hs2 hR2).mono fun e W' ⟨he, hb⟩ => ?_
  subst he
  exact ⟨_, rfl, post_mem hW' hb (fun _ _ _ => trodAll_mk1 (shut_bool Try.underlying4 _)) (fun sp hsp => by
    have t := trodAll_cons_mk (shut_int Try.underlying5 wa0) (trodAll_cons_mk (shut_int Try.underlying5 wa1) (trodAll_cons_mk (carry laidOut (by kernel_rfl) (of_decide_eq_true (by kernel_rfl)) h2 hb lt2 sp (fun x hx => hsp x (by simp [hx]))) trodAll_mk0))
    simp only [List.append_nil] at t
    exact t) (fun _ => rfl) (ok_one (by kernel_rfl) rfl (okWide_bool_mk Try.underlying4 _))⟩

theorem proved : Rows.DiskLimitsSaid :=
  OpenClaim.holds_of_wide 7 Try.f7 rfl rfl rfl rfl rfl rfl rfl ⟨rfl, rfl, rfl, rfl, rfl⟩ rfl rfl rfl rfl rfl (by kernel_rfl) Try.func7 (by kernel_rfl)
    (of_decide_eq_true (by kernel_rfl)) (by unfold Func.isWrapper; first | (rw [if_pos (by decide +kernel)]; kernel_rfl) | (rw [if_neg (by decide +kernel)]; exact ⟨rfl, rfl⟩))
    (fun os started H enc _ => lifted os started H enc)
end Go.Proofs.Ytjajmlamlmnljaa.lawLimits
