/- writePacked: its walk. -/
import Derived.Test.YtomjgkflnfjjbaaKl
namespace Go.Proofs.Ytomjgkflnfjjbaa
open Go.ChangeShapes Go.WideShapes Go.ChangeAt Go.RowKit En

theorem size_any (n wd : Nat) (hn : n ≤ 4096) (hw : wd ≤ 62) (w : World) :
    Calls Try.prog 72 #[.int .i64 (n : Int), .int .i64 (wd : Int)] w fun e w' => e = .returned (.int .i64 ((szF n wd : Nat) : Int)) ∧ w = w' := by
  have hm := Nat.mul_le_mul hn hw
  obtain ⟨p, hp⟩ : ∃ p, p = n * wd := ⟨_, rfl⟩
  have hq : szF n wd = (p + 7) / 8 := by unfold szF; rw [hp]
  have hI : (n : Int) * (wd : Int) = (p : Int) := by rw [hp]; simp
  rw [hq]
  rw [← hp] at hm
  have e1 : IntKind.i64.wrap ((n : Int) * (wd : Int)) = (p : Int) := by rw [hI]; simp only [IntKind.wrap_i64]; omega
  have e2 : wrap64 ((n : Int) * (wd : Int)) = (p : Int) := by rw [hI]; unfold wrap64; omega
  clear hp hq hI
  go_enter Try.func72, Try.ntmps72
  go_wp2_with fail
  clear e1 e2
  go_ret
  exact ⟨ret_int (by omega), rfl⟩
set_option maxRecDepth 100000 in
set_option maxHeartbeats 2000000 in
theorem write_packed (w0 : World) (g : Nat) (hg : w0.heap.size ≤ g) (fs : List (List UInt8)) (A : Option Addr) (c : Nat) (L : List Int) (hl : L.length ≤ 4096) (hL : Vs L) (htot : total fs ≤ 1000) (w : World)
    (hB : Below w0.heap.size w0 w) (hW : WS w g fs) (hR : Rd (Value.int .i64) w0 A L) :
    Calls Try.prog 62 #[.pointer (some ⟨g, 0, none⟩), .slice A L.length c] w fun e w' => e = .returned (.tuple #[]) ∧ WS w' g (prK L fs) ∧ Below w0.heap.size w0 w' := by
  have HR := Lib.hid (hR.below hB)
  have HL := Lib.hid hL
  have HB0 := Lib.hid hB
  have HW0 := Lib.hid hW
  have hgw := hW.lt
  clear hR hL hB hW
  go_enter Try.func62, Try.ntmps62
  go_upto_if 11 with fail
  go_cut [4, 5] from 11 to 19 (fun s4 s5 wx => s4 = .int .i64 (lsF L) ∧ s5 = .int .i64 ((wdF L : Nat) : Int) ∧ Hid (wx = w))
  case first =>
    by_cases h0 : L.length = 0
    · have hls : lsF L = 0 := if_pos h0
      have hwd : wdF L = 0 := by unfold wdF gtF; rw [hls, if_pos h0]; rfl
      obtain rfl : L = [] := List.eq_nil_of_length_eq_zero h0
      have HX := Lib.hid hls.symm
      have HY := Lib.hid hwd.symm
      clear hls hwd h0
      go_wp2_with fail
      go_meet
      exact ⟨by rw [← HX.out], by rw [← HY.out]; rfl, Lib.hid rfl⟩
    · have hpos : 0 < L.length := by omega
      obtain ⟨b, off, rfl, _, _⟩ := int_at HR.out 0 hpos
      have HC := Lib.hid (fun j (hj : j < L.length) => by
        obtain ⟨b', off', e, _, h⟩ := int_at HR.out j hj
        cases e
        exact (show w.cell? ⟨b, off + j, none⟩ = some (.int .i64 (L.getD j 0)) by rw [h, show L.getD j 0 = L[j] by simp [List.getD, List.getElem?_eq_getElem hj]]))
      have h1 := Try.slices_Min_int b off L.length c L w hpos (Nat.le_refl _) (by omega) HC.out
      have h2 := Try.slices_Max_int b off L.length c L w hpos (Nat.le_refl _) (by omega) HC.out
      rw [List.take_length, show Lib.minOf L = lsF L from (if_neg h0).symm] at h1
      rw [List.take_length, show Lib.maxOf L = gtF L from (if_neg h0).symm] at h2
      have H1 := Lib.hid h1
      have H2 := Lib.hid h2
      have hb1 := lsF_bd HL.out
      have hb2 := gtF_bd HL.out
      have hle := ls_le_gt L
      have HWd : Hid (wdF L = Lib.bitLen (gtF L - lsF L).toNat) := Lib.hid rfl
      obtain ⟨x, hx⟩ : ∃ x, x = lsF L := ⟨_, rfl⟩
      obtain ⟨y, hy⟩ : ∃ y, y = gtF L := ⟨_, rfl⟩
      rw [← hx] at H1 hb1 hle HWd
      have HX := Lib.hid hx
      rw [← hy] at H2 hb2 hle HWd
      have hlt : decide (0 < L.length) = true := by simp; omega
      have H3 := Lib.hid (fun W => Try.bits_Len (y - x) W (by omega) (by omega))
      clear h1 h2 hx hy h0
      have e1 : IntKind.i64.wrap (y - x) = y - x := by simp only [IntKind.wrap_i64]; omega
      have e2 : IntKind.u64.wrap (y - x) = y - x := by simp only [IntKind.wrap_u64]; omega
      go_wp2_with fail
      refine H1.out.mono ?_
      rintro e w1 ⟨rfl, hw⟩
      subst hw
      go_wp2_with fail
      refine H2.out.mono ?_
      rintro e w1 ⟨rfl, hw⟩
      subst hw
      go_wp2_with fail
      refine (H3.out _).mono ?_
      rintro e w1 ⟨rfl, hw⟩
      subst hw
      go_wp2_with fail
      go_meet
      exact ⟨by rw [HX.out], by rw [HWd.out], Lib.hid rfl⟩
  case rest =>
    obtain ⟨rfl, rfl, HWc⟩ := hcut
    obtain rfl : wc = w := HWc.out
    clear HWc
    have hw62 := wdF_le HL.out
    have hb1 := lsF_bd HL.out
    have HSz := Lib.hid (fun W => size_any L.length (wdF L) hl hw62 W)
    have hsz := szF_le L.length (wdF L) hl hw62
    have HF := Lib.hid (fun i (hi : i < L.length) => fits L.length (wdF L) i hi)
    have hmk := make_bytes (szF L.length (wdF L)) (by omega) wc
    have HD := Lib.hid (fun i (hi : i < L.length) => (by
      have h1 := lsF_le L i hi
      have h2 := getD_vs HL.out i
      unfold dfF
      omega : (L.getD i 0 - lsF L = ((dfF L i : Nat) : Int)) ∧ dfF L i < 18446744073709551616))
    have HP0 : Hid (By (wc.alloc (.cells (List.replicate (szF L.length (wdF L)) (.int .u8 0)).toArray 5)) wc.heap.size (pkA L 0)) := Lib.hid (by
      unfold By
      rw [Deep.blk_alloc_new wc _]
      simp [pkA, byV])
    have HPL := Lib.hid (pkA_len L)
    have HPS : Hid (∀ i, pkA L (i + 1) = pkL (i * wdF L) (dfF L i) (pkA L i) (wdF L)) := Lib.hid (fun i => rfl)
    have HPB := Lib.hid (pkA_byte L)
    have HK : Hid (prK L fs = text ⟨(pkB L).toArray⟩ :: num ((wdF L : Nat) : Int) :: num (lsF L) :: num (L.length : Int) :: fs) := Lib.hid rfl
    have HBl := Lib.hid (pkB_len L)
    have HBd : Hid (pkB L = (pkA L L.length).map fun x => UInt8.ofNat x) := Lib.hid rfl
    obtain ⟨sz, hsz0⟩ : ∃ sz, sz = szF L.length (wdF L) := ⟨_, rfl⟩
    obtain ⟨wd, hwd0⟩ : ∃ wd, wd = wdF L := ⟨_, rfl⟩
    obtain ⟨ls, hls0⟩ : ∃ ls, ls = lsF L := ⟨_, rfl⟩
    rw [← hwd0] at hsz0 hsz hw62 HSz HF hmk HP0 HPL HPS HK HBl ⊢
    rw [← hls0] at hb1 HD HK ⊢
    rw [← hsz0] at hsz HSz HF hmk HP0 HPL HBl
    clear hsz0 hwd0 hls0
    go_wp2_with (go_at_call 72; refine (HSz.out _).mono ?_; rintro e w2 ⟨rfl, rfl⟩)
    clear hmk
    go_loopw [27] (fun iv wr => ∃ j : Nat, j ≤ L.length ∧ iv = .int .i64 (j : Int) ∧ Hid (By wr wc.heap.size (pkA L j)) ∧ Hid (Below wc.heap.size wc wr)) (fun iv _ => L.length - (intOf iv).toNat)
    case atStart => exact ⟨0, Nat.zero_le _, rfl, HP0, Lib.hid ((Below.refl _ _).alloc (Nat.le_refl _) _)⟩
    case round =>
      obtain ⟨j, hj, rfl, HW, HG⟩ := hrel
      by_cases hlt : j < L.length
      · obtain ⟨b, off, rfl, hb, h0⟩ := int_at (HR.out.below (w' := wr) HG.out) j hlt
        obtain ⟨hd, hd64⟩ := HD.out j hlt
        have hfit := HF.out j hlt
        rw [show L.getD j 0 = L[j] by simp [List.getD, List.getElem?_eq_getElem hlt]] at hd
        obtain ⟨v, hv⟩ : ∃ v, v = L[j] := ⟨_, rfl⟩
        rw [← hv] at h0 hd
        have hH := HPS.out j
        obtain ⟨d, hd0⟩ : ∃ d, d = dfF L j := ⟨_, rfl⟩
        rw [← hd0] at hd hd64 hH
        obtain ⟨p, hp⟩ : ∃ p, p = j * wd := ⟨_, rfl⟩
        rw [← hp] at hfit hH
        have hpI : (j : Int) * (wd : Int) = (p : Int) := by rw [hp]; simp
        have H := pack_any wc.heap.size sz p wd d (pkA L j) (HPB.out j) (by rw [HPL.out j]; omega) (by rw [HPL.out j]; exact hfit) hw62 hd64 wr HW.out
        rw [HPL.out j, ← hH] at H
        have HC := Lib.hid H
        have hjI : (j : Int) < (L.length : Int) := by omega
        have hj0 : (0 : Int) ≤ (j : Int) := by omega
        have hw1 : IntKind.i64.wrap ((j : Int) + 1) = (j : Int) + 1 := by simp only [IntKind.wrap_i64]; omega
        have hdb : (d : Int) ≤ 4611686018427387904 := by have h9 := HL.out _ (List.getElem_mem hlt); rw [← hv] at h9; omega
        have e3 : IntKind.i64.wrap (v - ls) = (d : Int) := by rw [hd]; simp only [IntKind.wrap_i64]; omega
        have e3' : wrap64 (v - ls) = (d : Int) := by rw [hd]; unfold wrap64; omega
        have e4 : IntKind.u64.wrap (d : Int) = (d : Int) := by simp only [IntKind.wrap_u64]; omega
        have e1 : IntKind.i64.wrap ((j : Int) * (wd : Int)) = (p : Int) := by rw [hpI]; simp only [IntKind.wrap_i64]; omega
        have e2 : wrap64 ((j : Int) * (wd : Int)) = (p : Int) := by rw [hpI]; unfold wrap64; omega
        clear H hH hd hd0 hv hp hpI hfit hd64
        go_wp2_with fail
        refine HC.out.mono ?_
        rintro e w3 ⟨rfl, hby, hgr⟩
        have HW3 := Lib.hid hby
        have HG3 : Hid (Below wc.heap.size wc w3) := Lib.hid (HG.out.grown hgr HG.out.size (by intro k h; cases h; exact Nat.le_refl _))
        clear hby hgr e1 e2 e3 e3' e4
        go_wp2_with fail
        go_roundw
        case rel => exact ⟨j + 1, by omega, by go_num, HW3, HG3⟩
        case measure => simp [intOf] <;> omega
      · obtain rfl : j = L.length := by omega
        have HB1 := Lib.hid (HB0.out.trans (HG.out.mono HB0.out.size))
        have hzb := HG.out.size
        have HBy := Lib.hid HW.out
        go_wp2_with fail
        refine (w_number g fs (L.length : Int) (by omega) (by omega) (by omega) _ (HW0.out.below HG.out)).mono ?_
        rintro e w4 ⟨rfl, hws, hgr⟩
        have HB4 := Lib.hid (HB1.out.grown hgr HB1.out.size (by intro k h; cases h; exact hg))
        have HBy4 : Hid (By w4 wc.heap.size (pkA L L.length)) := Lib.hid ((hgr.block _ (by_lt HBy.out) (fun e => by injection e with e; omega)).trans HBy.out)
        have HW4 := Lib.hid hws
        clear hws hgr
        have ht4 : total (num (L.length : Int) :: fs) ≤ 1009 := by rw [total_cons]; have := (num_bounds (L.length : Int) (by omega) (by omega)).2; omega
        go_wp2_with fail
        refine (w_number g _ ls (by omega) (by omega) (by omega) _ HW4.out).mono ?_
        rintro e w5 ⟨rfl, hws, hgr⟩
        have HB5 := Lib.hid (HB4.out.grown hgr HB4.out.size (by intro k h; cases h; exact hg))
        have HBy5 : Hid (By w5 wc.heap.size (pkA L L.length)) := Lib.hid ((hgr.block _ (by_lt HBy4.out) (fun e => by injection e with e; omega)).trans HBy4.out)
        have HW5 := Lib.hid hws
        clear hws hgr
        have ht5 : total (num ls :: num (L.length : Int) :: fs) ≤ 1018 := by rw [total_cons]; have := (num_bounds ls (by omega) (by omega)).2; omega
        go_wp2_with fail
        refine (w_number g _ ((wd : Nat) : Int) (by omega) (by omega) (by omega) _ HW5.out).mono ?_
        rintro e w6 ⟨rfl, hws, hgr⟩
        have HB6 := Lib.hid (HB5.out.grown hgr HB5.out.size (by intro k h; cases h; exact hg))
        have HBy6 : Hid (By w6 wc.heap.size (pkA L L.length)) := Lib.hid ((hgr.block _ (by_lt HBy5.out) (fun e => by injection e with e; omega)).trans HBy5.out)
        have HW6 := Lib.hid hws
        clear hws hgr
        have ht6 : total (num (wd : Int) :: num ls :: num (L.length : Int) :: fs) ≤ 1027 := by rw [total_cons]; have := (num_bounds (wd : Int) (by omega) (by omega)).2; omega
        have k4 : (convert 90 9 (.slice (some ⟨wc.heap.size, 0, none⟩) sz sz)).run Try.prog w6 = .ok (.string ⟨(pkB L).toArray⟩) w6 := by
          have hl2 := HBl.out
          rw [← hl2]
          refine run_convert_bytes_back w6 90 9 5 ⟨wc.heap.size, 0, none⟩ (pkB L).length (pkB L) Try.underlying90 Try.underlying5 Try.underlying9 (fun k hk => ?_)
          rw [add_flat, Nat.zero_add, by_cell HBy6.out k (by rw [HPL.out]; omega)]
          have hk2 : k < (pkA L L.length).length := by rw [HPL.out]; omega
          have hx := HPB.out L.length _ (List.getElem_mem hk2)
          have e5 : (pkB L)[k] = UInt8.ofNat (pkA L L.length)[k] := by simp [HBd.out]
          rw [e5]
          simp [List.getD, List.getElem?_eq_getElem hk2, UInt8.toNat_ofNat']
          omega
        have hsB : (⟨(pkB L).toArray⟩ : ByteArray).size ≤ 100000 := by
          show (pkB L).toArray.size ≤ _
          simp [HBl.out]; omega
        obtain ⟨S, hS⟩ : ∃ S : ByteArray, S = ⟨(pkB L).toArray⟩ := ⟨_, rfl⟩
        rw [← hS] at k4 hsB HK
        clear hS
        go_wp2_with fail
        refine (w_text g _ S hsB (by omega) _ HW6.out).mono ?_
        rintro e w7 ⟨rfl, hws, hgr⟩
        have HB7 := Lib.hid (HB6.out.grown hgr HB6.out.size (by intro k h; cases h; exact hg))
        have HW7 := Lib.hid hws
        clear hws hgr k4
        go_wp2_with fail
        exact bodyPost_end (results_none rfl _ _ _) rfl ⟨rfl, by rw [HK.out]; exact HW7.out, HB7.out⟩
end Go.Proofs.Ytomjgkflnfjjbaa
