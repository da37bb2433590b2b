/- Of. -/
import Derived.Test.YtajainkaomkbjaaBj
namespace Go.Proofs.Ytajainkaomkbjaa
open Go.ChangeShapes Go.WideShapes Go.ChangeAt Go.RowKit Go.Joins Bt

/-- The keys of the first k texts. -/
def kys (sd : Int) (K : List ByteArray) : List Ky := K.map (kyO sd)
theorem kys_succ (sd : Int) (K : List ByteArray) (j : Nat) (h : j < K.length) : kys sd (K.take (j + 1)) = kys sd (K.take j) ++ [kyO sd K[j]] := by
  unfold kys
  rw [List.take_succ_eq_append_getElem h, List.map_append]; rfl
theorem bld_kys (sd : Int) (K : List ByteArray) (j : Nat) (h : j < K.length) : bld (kys sd (K.take (j + 1))) = ins (bld (kys sd (K.take j))) (kyO sd K[j]) := by
  rw [kys_succ sd K j h, bld_snoc]
set_option maxRecDepth 100000 in
set_option maxHeartbeats 1000000 in
theorem of_ok (n : Nat) (hn0 : 1 ≤ n) (hn : n ≤ 1024) (sd : Int) (h0 : 0 ≤ sd) (h1 : sd ≤ 1048576) (A : Option Addr) (c : Nat) (K : List ByteArray) (hl : K.length ≤ 1000000) (hs : ∀ t ∈ K, t.size ≤ 1000000 ∧ chkK t = 0) (w : World) (hR : Rd Value.string w A K) :
    Calls Try.prog 19 #[.int .i64 (n : Int), .int .i64 sd, .slice A K.length c] w fun e w' => e = .returned (.tuple #[.pointer (some ⟨w.heap.size, 0, none⟩), .int .i64 0]) ∧ Sk w' w.heap.size n sd (skt n (bld (kys sd K))) ∧ Below w.heap.size w w' := by
  have HN := Lib.hid (new_ok n hn0 hn sd h0 h1 w)
  have HR := Lib.hid hR
  have HS := Lib.hid hs
  have HF : Hid (K.take K.length = K) := Lib.hid (List.take_length)
  obtain ⟨ln, hln⟩ : ∃ ln, K.length = ln := ⟨_, rfl⟩
  have HLn := Lib.hid hln
  rw [hln] at hl HF ⊢
  clear hR hs hln h0 h1
  go_enter Try.func19, Try.ntmps19
  go_wp2_with fail
  refine HN.out.mono ?_
  rintro e w1 ⟨rfl, hsk, hb⟩
  have HK1 := Lib.hid hsk
  have HB1 := Lib.hid hb
  clear hsk hb
  go_wp2_with fail
  go_loopw [24] (fun iv wr => ∃ k : Nat, k ≤ ln ∧ iv = .int .i64 (k : Int) ∧ Hid (Sk wr w.heap.size n sd (skt n (bld (kys sd (K.take k))))) ∧ Hid (Below w.heap.size w wr)) (fun iv _ => ln - (intOf iv).toNat)
  case atStart => exact ⟨0, Nat.zero_le _, rfl, Lib.hid (by rw [List.take_zero]; show Sk _ _ _ _ (skt n []); rw [skt_nil]; exact HK1.out), HB1⟩
  case round =>
    obtain ⟨k, hk, rfl, HK, HB⟩ := hrel
    by_cases hlt : k < ln
    · have hk2 : k < K.length := by rw [HLn.out]; exact hlt
      obtain ⟨b, off, rfl, hbl, hc⟩ := (HR.out.below HB.out) k hk2
      have HE := Lib.hid (bld_kys sd K k hk2)
      have HS1 := Lib.hid (HS.out K[k] (List.getElem_mem hk2))
      have hkI : (k : Int) < (ln : Int) := by omega
      have hkI0 : (0 : Int) ≤ (k : Int) := by omega
      obtain ⟨t, ht⟩ : ∃ t, t = K[k] := ⟨_, rfl⟩
      rw [← ht] at hc HE HS1
      have HA := Lib.hid (add_ok w.heap.size n sd hn0 hn (skt n (bld (kys sd (K.take k)))) (skt_srt (bld_srt _) n) (skt_len n _) t HS1.out.1 HS1.out.2 wr HK.out)
      rw [stp_skt, ← HE.out] at HA
      clear ht
      go_wp2_with fail
      refine HA.out.mono ?_
      rintro e w2 ⟨rfl, h1, h2⟩
      have H1 := Lib.hid h1
      have H2 := Lib.hid (below_gs HB.out h2 (Nat.le_refl _) (Nat.le_refl _))
      clear h1 h2 hc
      go_wp2_with fail
      go_roundw
      case rel => exact ⟨k + 1, by omega, by go_num, H1, H2⟩
      case measure => simp [intOf] <;> omega
    · obtain rfl : k = ln := by omega
      rw [HF.out] at HK
      go_wp2_with fail
      go_ret2
      exact ⟨rfl, HK.out, HB.out⟩
set_option maxRecDepth 100000 in
set_option maxHeartbeats 1000000 in
/-- One of the keys is none: the first such one is number b. -/
theorem of_bad (n : Nat) (hn0 : 1 ≤ n) (hn : n ≤ 1024) (sd : Int) (h0 : 0 ≤ sd) (h1 : sd ≤ 1048576) (A : Option Addr) (c : Nat) (K : List ByteArray) (hl : K.length ≤ 1000000) (hs : ∀ t ∈ K, t.size ≤ 1000000) (b : Nat) (hb : b < K.length) (hok : ∀ j (hj : j < K.length), j < b → chkK K[j] = 0) (hbad : chkK K[b] ≠ 0) (w : World) (hR : Rd Value.string w A K) :
    Calls Try.prog 19 #[.int .i64 (n : Int), .int .i64 sd, .slice A K.length c] w fun e w' => e = .returned (.tuple #[.pointer none, .int .i64 (chkK K[b])]) ∧ Below w.heap.size w w' := by
  have HN := Lib.hid (new_ok n hn0 hn sd h0 h1 w)
  have HR := Lib.hid hR
  have HS := Lib.hid hs
  have HOk := Lib.hid hok
  obtain ⟨ln, hln⟩ : ∃ ln, K.length = ln := ⟨_, rfl⟩
  have HLn := Lib.hid hln
  have HBd := Lib.hid (fun g W => add_bad g K[b] (hs _ (List.getElem_mem hb)) hbad W)
  have hkb : (chkK K[b] != 0) = true := by simpa using hbad
  obtain ⟨e0, he0⟩ : ∃ e0, e0 = chkK K[b] := ⟨_, rfl⟩
  rw [← he0] at HBd hkb ⊢
  obtain ⟨tb, htb⟩ : ∃ tb, tb = K[b] := ⟨_, rfl⟩
  rw [← htb] at HBd
  have HTb := Lib.hid htb
  have hbl : b < ln := by omega
  rw [hln] at hl ⊢
  clear hR hs hln h0 h1 hok hbad he0 htb
  go_enter Try.func19, Try.ntmps19
  go_wp2_with fail
  refine HN.out.mono ?_
  rintro e w1 ⟨rfl, hsk, hb⟩
  have HK1 := Lib.hid hsk
  have HB1 := Lib.hid hb
  clear hsk hb
  go_wp2_with fail
  go_loopw [24] (fun iv wr => ∃ k : Nat, k ≤ b ∧ iv = .int .i64 (k : Int) ∧ Hid (Sk wr w.heap.size n sd (skt n (bld (kys sd (K.take k))))) ∧ Hid (Below w.heap.size w wr)) (fun iv _ => ln - (intOf iv).toNat)
  case atStart => exact ⟨0, Nat.zero_le _, rfl, Lib.hid (by rw [List.take_zero]; show Sk _ _ _ _ (skt n []); rw [skt_nil]; exact HK1.out), HB1⟩
  case round =>
    obtain ⟨k, hk, rfl, HK, HB⟩ := hrel
    have hk2 : k < K.length := by have := HLn.out; omega
    obtain ⟨b2, off, rfl, hbl2, hc⟩ := (HR.out.below HB.out) k hk2
    have hkI : (k : Int) < (ln : Int) := by omega
    have hkI0 : (0 : Int) ≤ (k : Int) := by omega
    by_cases hlt : k < b
    · have HE := Lib.hid (bld_kys sd K k hk2)
      have HS1 := Lib.hid (HS.out K[k] (List.getElem_mem hk2))
      have HO1 := Lib.hid (HOk.out k hk2 hlt)
      obtain ⟨t, ht⟩ : ∃ t, t = K[k] := ⟨_, rfl⟩
      rw [← ht] at hc HE HS1 HO1
      have HA := Lib.hid (add_ok w.heap.size n sd hn0 hn (skt n (bld (kys sd (K.take k)))) (skt_srt (bld_srt _) n) (skt_len n _) t HS1.out HO1.out wr HK.out)
      rw [stp_skt, ← HE.out] at HA
      clear ht hk2
      go_wp2_with fail
      refine HA.out.mono ?_
      rintro e w2 ⟨rfl, h1, h2⟩
      have H1 := Lib.hid h1
      have H2 := Lib.hid (below_gs HB.out h2 (Nat.le_refl _) (Nat.le_refl _))
      clear h1 h2 hc
      go_wp2_with fail
      go_roundw
      case rel => exact ⟨k + 1, by omega, by go_num, H1, H2⟩
      case measure => simp [intOf] <;> omega
    · obtain rfl : k = b := by omega
      rw [← HTb.out] at hc
      clear hk2
      go_wp2_with fail
      refine (HBd.out _ _).mono ?_
      rintro e w2 ⟨rfl, h1⟩
      have H1 := Lib.hid (HB.out.trans (h1.mono HB.out.size))
      clear h1 hc
      go_wp2_with fail
      go_ret2
      exact ⟨rfl, H1.out⟩
theorem of_range (n sd : Int) (h : n < 1 ∨ 1024 < n ∨ sd < 0 ∨ 1048576 < sd) (v : Value) (w : World) :
    Calls Try.prog 19 #[.int .i64 n, .int .i64 sd, v] w fun e w' => e = .returned (.tuple #[.pointer none, .int .i64 2]) ∧ w = w' := by
  have HN := Lib.hid (new_bad n sd h w)
  clear h
  go_enter Try.func19, Try.ntmps19
  go_wp2_with fail
  refine HN.out.mono ?_
  rintro e w1 ⟨rfl, rfl⟩
  go_wp2_with fail
  go_ret2
  exact ⟨rfl, rfl⟩
end Go.Proofs.Ytajainkaomkbjaa
