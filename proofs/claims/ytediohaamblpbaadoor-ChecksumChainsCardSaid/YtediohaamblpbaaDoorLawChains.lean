/- The statement ChecksumChains: for any records, any links and any previous one, the law returns true and changes nothing. No condition but that the table reads as its initialiser lays it, which the card ties to the program's text. -/
import Derived.Test.YtediohaamblpbaaDoorChain
import Derived.Test.YtediohaamblpbaaDoorRowM
namespace Go.Proofs.YtediohaamblpbaaDoor.lawChains
open Go.Proofs.YtediohaamblpbaaDoor Go.ChangeShapes Go.WideShapes Go.ChangeAt Go.RowKit Go.Joins Ck

theorem pv_pre (ss : Nat → List UInt8) (k : Nat) : pv (fun j => pre ss (j + 1)) k = pre ss k := by
  cases k <;> rfl
theorem ver_own {ss : Nat → List UInt8} {n r : Nat} {b : Bool} (h : Ver ss (fun j => pre ss (j + 1)) n n r b) : r = n ∧ b = true := by
  have hg : ∀ j, j < n → good ss (fun j => pre ss (j + 1)) n j := fun j hj => ⟨hj, by rw [pv_pre]; rfl⟩
  rcases h with ⟨h1, _, _, h4⟩ | ⟨h1, _, h3⟩
  · exact absurd (hg r h1) h4
  · exact ⟨h1, by rw [h3]; simp⟩
theorem ver_at {ss : Nat → List UInt8} {xs : Nat → BitVec 32} {n m r f : Nat} {b : Bool} (h : Ver ss xs n m r b) (hf : f < n) (h1 : ∀ j, j < f → good ss xs m j) (h2 : ¬ good ss xs m f) : r = f ∧ b = false := by
  rcases h with ⟨_, hb, h3, h4⟩ | ⟨_, h3, _⟩
  · refine ⟨?_, hb⟩
    rcases Nat.lt_trichotomy r f with h | h | h
    · exact absurd (h1 r h) h4
    · exact h
    · exact absurd (h3 f h) h2
  · exact absurd (h3 f hf) h2
theorem ver_all {ss : Nat → List UInt8} {xs : Nat → BitVec 32} {n m r : Nat} {b : Bool} (h : Ver ss xs n m r b) (h1 : ∀ j, j < n → good ss xs m j) : r = n ∧ b = decide (n = m) := by
  rcases h with ⟨hr, _, _, h4⟩ | ⟨hr, _, h3⟩
  · exact absurd (h1 r hr) h4
  · exact ⟨hr, h3⟩

/-- What the law's second loop knows at its head. -/
def W2 (ss : Nat → List UInt8) (xs : Nat → BitVec 32) (m k : Nat) (wt : Int) (p : BitVec 32) : Prop :=
  (wt = -1 ∧ p = pv xs k ∧ ∀ j, j < k → good ss xs m j) ∨ (∃ f : Nat, wt = f ∧ k = f + 1 ∧ (∀ j, j < f → good ss xs m j) ∧ ¬ good ss xs m f)

set_option maxHeartbeats 16000000 in
theorem walk (A0 : Option Addr) (n0 c0 : Nat) (hn0 : n0 ≤ 9223372036854775807) (ss0 : Nat → ByteArray) (hss : ∀ k, (ss0 k).size ≤ 9223372036854775807) (A1 : Option Addr) (m c1 : Nat) (hm : m ≤ 9223372036854775807) (xs : Nat → BitVec 32) (P : BitVec 32) (w : World)
    (hR0 : Rd w w.heap.size A0 n0 (fun k => .string (ss0 k))) (hR1 : Rd w w.heap.size A1 m (fun k => .int .u32 (xs k).toNat)) (hT : Tab w) :
    Calls Tryd.prog 11 #[.slice A0 n0 c0, .slice A1 m c1, .int .u32 P.toNat] w fun e w' => e = .returned (.bool true) ∧ Below w.heap.size w w' := by
  have HR0 := Lib.hid hR0
  have HR1 := Lib.hid hR1
  have HT := Lib.hid hT
  have Hss0 := Lib.hid hss
  clear hR0 hR1 hT hss
  go_enter Tryd.func11, Tryd.ntmps11
  go_wp2_with fail
  refine (few_any A0 n0 c0 ss0 Hss0.out hn0 _ HR0.out).mono ?_
  rintro e w1 ⟨⟨v, hv, rfl⟩, hb1⟩
  have hn8 : min n0 8 ≤ 8 := by omega
  generalize min n0 8 = n at *
  obtain ⟨A, c, rfl⟩ := own_slice hv
  have Hss : Hid (∀ k, (cut 40 (ss0 k)).size ≤ 1000000) := Lib.hid (fun k => Nat.le_trans (cut_size 40 (ss0 k)) (by omega))
  have hRd : Rd w1 w1.heap.size A n (fun k => .string (cut 40 (ss0 k))) := Rd.own hv
  generalize hcut : (fun k => cut 40 (ss0 k)) = ss at *
  have hcut2 : ∀ k, cut 40 (ss0 k) = ss k := fun k => congrFun hcut k
  simp only [hcut2] at hRd Hss
  have HRd := Lib.hid hRd
  have HB1 := Lib.hid hb1
  clear hv hb1 hRd hcut hcut2
  go_wp2_with fail
  refine (chain_any A n c (by omega) ss Hss.out _ HRd.out (HT.out.below HB1.out)).mono ?_
  rintro e w2 ⟨⟨v2, hv2, rfl⟩, hb2⟩
  obtain ⟨A2, c2, rfl⟩ := own_slice hv2
  have HRc := Lib.hid (Rd.own hv2)
  have HRd2 := Lib.hid ((HRd.out.below hb2 (Nat.le_refl _)).more hb2.size)
  have HB2 := Lib.hid (Below.trans HB1.out (hb2.mono HB1.out.size))
  clear hv2 hb2 HRd
  go_wp2_with fail
  refine (known_any _ (HT.out.below HB2.out)).mono ?_
  rintro e w3 ⟨rfl, hb3⟩
  have HL := Lib.hid ((HRd2.out.below hb3 (Nat.le_refl _)).more hb3.size)
  have HC := Lib.hid ((HRc.out.below hb3 (Nat.le_refl _)).more hb3.size)
  have HB3 := Lib.hid (Below.trans HB2.out (hb3.mono HB2.out.size))
  have HX := Lib.hid ((HR1.out.below HB3.out (Nat.le_refl _)).more HB3.out.size)
  have HT3 := Lib.hid (HT.out.below HB3.out)
  clear hb3 HRd2 HRc HB2 HB1 HR0 HR1 HT
  go_wp2_with fail
  go_loopw [8, 10] (fun q i wr => ∃ k : Nat, k ≤ n ∧ i = .int .i64 k ∧ q = .int .u32 (pre (fun j => (ss j).data.toList) k).toNat ∧ Hid (Below w3.heap.size w3 wr)) (fun _ i _ => n - (intOf i).toNat)
  case atStart => exact ⟨0, Nat.zero_le _, rfl, rfl, Lib.hid (Below.refl _ _)⟩
  case round =>
    obtain ⟨k, hk, rfl, rfl, hB⟩ := hrel
    by_cases hlt : k < n
    · obtain ⟨b, off, rfl, hb, hc⟩ := HL.out k hlt
      have hcA := (hB.out.cell (p := ⟨b, off + k, none⟩) hb).trans hc
      obtain ⟨b2, off2, rfl, hb2, hc2⟩ := HC.out k hlt
      have hcB := (hB.out.cell (p := ⟨b2, off2 + k, none⟩) hb2).trans hc2
      have hcG : ∀ d os, (Go.Sort.grow (redrawn wr d) os).cell? ⟨b, off + k, none⟩ = some (.string (ss k)) := fun d os => cell_regrown hcA d os
      have cL : ∀ d os, Calls Tryd.prog 29 #[.int .u32 P.toNat, .string (ss k)] (Go.Sort.grow (redrawn wr d) os) fun e w'' => e = .returned (.int .u32 (linkS P (ss k).data.toList).toNat) ∧ ∃ p : Regrown, w'' = Go.Sort.grow (redrawn wr p.d) p.os :=
        fun d os => Calls.regrown_of (link_any P _ rfl (ss k) (Hss.out k) _ ((HT3.out.below hB.out).below (below_regrown wr d os)))
      have cR : ∀ d os, Calls Tryd.prog 30 #[.int .u32 P.toNat, .string (ss k)] (Go.Sort.grow (redrawn wr d) os) fun e w'' => e = .returned (.int .u32 (linkS P (ss k).data.toList).toNat) ∧ ∃ p : Regrown, w'' = Go.Sort.grow (redrawn wr p.d) p.os :=
        fun d os => Calls.regrown_of (rlink_any P _ rfl (ss k) (Hss.out k) _)
      have CL := Lib.hid cL
      have CR := Lib.hid cR
      have hp : linkS (pre (fun j => (ss j).data.toList) k) (ss k).data.toList = pre (fun j => (ss j).data.toList) (k + 1) := rfl
      have hcB' : wr.cell? ⟨b2, off2 + k, none⟩ = some (.int .u32 (pre (fun j => (ss j).data.toList) (k + 1)).toNat) := hcB
      generalize pre (fun j => (ss j).data.toList) (k + 1) = P1 at hp hcB'
      have Hp := Lib.hid hp
      have HcB := Lib.hid hcB'
      clear cL cR hp hcB hcB' hc hc2 hcA
      go_wp2_with fail
      refine wp_region_quiet_below (by kernel_rfl) (by kernel_rfl) ?_
      repeat (go_big_quiet_step ((first | exact CL.out _ _ | exact CR.out _ _)))
      refine wpQuiet_nil ?_
      intro _ hw'
      obtain ⟨⟨dq, osq⟩, hw''⟩ := hw'
      subst hw''
      have hcC := hcG dq osq
      have hcD := cell_regrown HcB.out dq osq
      have HB := Lib.hid (Below.trans hB.out ((below_regrown wr dq osq).mono hB.out.size))
      clear hcG
      generalize Go.Sort.grow (redrawn wr dq) osq = wg at *
      go_wp2_with fail
      refine (rlink_any (pre (fun j => (ss j).data.toList) k) _ rfl (ss k) (Hss.out k) _).mono ?_
      rintro e w4 ⟨rfl, hb4⟩
      rw [Hp.out]
      have hcE := (hb4.cell (p := ⟨b2, off2 + k, none⟩) (by exact block_lt_of_cell hcD)).trans hcD
      have HB4 := Lib.hid (Below.trans HB.out (hb4.mono HB.out.size))
      clear hb4 hcC hcD
      go_wp2_with fail
      go_roundw
      case rel => exact ⟨k + 1, by omega, by go_num, by rw [← Hp.out]; rfl, HB4⟩
      case measure => simp [intOf]; omega
    · obtain rfl : k = n := by omega
      go_wp2_with fail
      go_loopw [8, 9, 11] (fun q t i wr => ∃ (j : Nat) (wt : Int) (p : BitVec 32), j ≤ k ∧ j ≤ m ∧ i = .int .i64 j ∧ t = .int .i64 wt ∧ q = .int .u32 p.toNat ∧ Hid (W2 (fun j => (ss j).data.toList) xs m j wt p) ∧ Hid (Below w3.heap.size w3 wr)) (fun _ _ i _ => k - (intOf i).toNat)
      case atStart => exact ⟨0, -1, 0#32, Nat.zero_le _, Nat.zero_le _, rfl, rfl, rfl, Lib.hid (.inl ⟨rfl, rfl, fun j hj => absurd hj (by omega)⟩), hB⟩
      case round =>
        obtain ⟨j, wt, p, hj1, hj2, rfl, rfl, rfl, hW, hB2⟩ := hrel
        by_cases hjk : j < k
        · by_cases hjm : j < m
          · rcases hW.out with ⟨rfl, rfl, hg⟩ | ⟨f, rfl, rfl, hg, hng⟩
            · have HG := Lib.hid hg
              clear hg hW
              obtain ⟨b, off, rfl, hb, hc⟩ := HL.out j hjk
              have hcA := (hB2.out.cell (p := ⟨b, off + j, none⟩) hb).trans hc
              obtain ⟨b2, off2, rfl, hb2, hc2⟩ := HX.out j hjm
              have hcB := (hB2.out.cell (p := ⟨b2, off2 + j, none⟩) hb2).trans hc2
              have hcG : ∀ d os, (Go.Sort.grow (redrawn wr d) os).cell? ⟨b, off + j, none⟩ = some (.string (ss j)) := fun d os => cell_regrown hcA d os
              have hcH : ∀ d os, (Go.Sort.grow (redrawn wr d) os).cell? ⟨b2, off2 + j, none⟩ = some (.int .u32 (xs j).toNat) := fun d os => cell_regrown hcB d os
              have cR : ∀ d os, Calls Tryd.prog 30 #[.int .u32 (pv xs j).toNat, .string (ss j)] (Go.Sort.grow (redrawn wr d) os) fun e w'' => e = .returned (.int .u32 (linkS (pv xs j) (ss j).data.toList).toNat) ∧ ∃ p : Regrown, w'' = Go.Sort.grow (redrawn wr p.d) p.os :=
                fun d os => Calls.regrown_of (rlink_any (pv xs j) _ rfl (ss j) (Hss.out j) _)
              have CR := Lib.hid cR
              clear cR hc hc2 hcA hcB
              by_cases hgj : xs j = linkS (pv xs j) (ss j).data.toList
              · have ht : (((xs j).toNat : Int) != ((linkS (pv xs j) (ss j).data.toList).toNat : Int)) = false := by rw [bne_eq_false_iff_eq, ← hgj]
                have Hgj := Lib.hid hgj
                clear hgj
                go_wp2_with fail
                refine wp_region_quiet_below (by kernel_rfl) (by kernel_rfl) ?_
                repeat (go_big_quiet_step ((exact CR.out _ _)))
                refine wpQuiet_nil ?_
                intro _ hw'
                obtain ⟨⟨dq, osq⟩, hw''⟩ := hw'
                subst hw''
                have HB := Lib.hid (Below.trans hB2.out ((below_regrown wr dq osq).mono hB2.out.size))
                have hcC := hcH dq osq
                clear hcG hcH ht
                go_wp2_with fail
                go_roundw
                case rel => exact ⟨j + 1, -1, xs j, by omega, by omega, by go_num, rfl, rfl, Lib.hid (.inl ⟨rfl, rfl, fun i hi => by
                  rcases Nat.lt_or_eq_of_le (Nat.le_of_lt_succ hi) with h | h
                  · exact HG.out i h
                  · subst h; exact ⟨hjm, Hgj.out⟩⟩), HB⟩
                case measure => simp [intOf]; omega
              · have ht : (((xs j).toNat : Int) != ((linkS (pv xs j) (ss j).data.toList).toNat : Int)) = true := by
                  rw [bne_iff_ne]
                  intro e
                  exact hgj (BitVec.eq_of_toNat_eq (by omega))
                have Hgj := Lib.hid hgj
                clear hgj
                go_wp2_with fail
                refine wp_region_quiet_below (by kernel_rfl) (by kernel_rfl) ?_
                repeat (go_big_quiet_step ((exact CR.out _ _)))
                refine wpQuiet_nil ?_
                intro _ hw'
                obtain ⟨⟨dq, osq⟩, hw''⟩ := hw'
                subst hw''
                have HB := Lib.hid (Below.trans hB2.out ((below_regrown wr dq osq).mono hB2.out.size))
                have hcC := hcH dq osq
                clear hcG hcH ht
                go_wp2_with fail
                go_roundw
                case rel => exact ⟨j + 1, j, xs j, by omega, by omega, by go_num, rfl, rfl, Lib.hid (.inr ⟨j, rfl, rfl, HG.out, fun h => Hgj.out h.2⟩), HB⟩
                case measure => simp [intOf]; omega
            · have HG := Lib.hid hg
              have HN := Lib.hid hng
              clear hg hng hW
              have hf0 : ¬ ((f : Int) < 0) := by omega
              go_wp2_with fail
              refine (verify_any A k c (by omega) ss Hss.out A2 k c2 (by omega) (fun i => pre (fun j => (ss j).data.toList) (i + 1)) _ ((HL.out.below hB2.out (Nat.le_refl _)).more hB2.out.size) ((HC.out.below hB2.out (Nat.le_refl _)).more hB2.out.size) (HT3.out.below hB2.out)).mono ?_
              rintro e w5 ⟨⟨r1, o1, hv1, rfl⟩, hb5⟩
              obtain ⟨rfl, rfl⟩ := ver_own hv1
              have HB5 := Lib.hid (Below.trans hB2.out (hb5.mono hB2.out.size))
              clear hv1 hb5
              go_wp2_with fail
              refine (verify_any A r1 c (by omega) ss Hss.out A1 m c1 hm xs _ ((HL.out.below HB5.out (Nat.le_refl _)).more HB5.out.size) ((HX.out.below HB5.out (Nat.le_refl _)).more HB5.out.size) (HT3.out.below HB5.out)).mono ?_
              rintro e w6 ⟨⟨r2, o2, hv2, rfl⟩, hb6⟩
              obtain ⟨rfl, rfl⟩ := ver_at hv2 (by omega) HG.out HN.out
              have HB6 := Lib.hid (Below.trans HB3.out ((Below.trans HB5.out (hb6.mono HB5.out.size)).mono HB3.out.size))
              clear hv2 hb6
              go_wp2_with fail
              go_ret
              exact ⟨rfl, HB6.out⟩
          · rcases hW.out with ⟨rfl, rfl, hg⟩ | ⟨f, rfl, rfl, hg, hng⟩
            · obtain rfl : j = m := by omega
              have HG := Lib.hid hg
              clear hg hW
              have hne : ((k : Int) != (j : Int)) = true := by rw [bne_iff_ne]; omega
              have hlt2 : (j : Int) < k := by omega
              go_wp2_with fail
              refine (verify_any A k c (by omega) ss Hss.out A2 k c2 (by omega) (fun i => pre (fun j => (ss j).data.toList) (i + 1)) _ ((HL.out.below hB2.out (Nat.le_refl _)).more hB2.out.size) ((HC.out.below hB2.out (Nat.le_refl _)).more hB2.out.size) (HT3.out.below hB2.out)).mono ?_
              rintro e w5 ⟨⟨r1, o1, hv1, rfl⟩, hb5⟩
              obtain ⟨rfl, rfl⟩ := ver_own hv1
              have HB5 := Lib.hid (Below.trans hB2.out (hb5.mono hB2.out.size))
              clear hv1 hb5
              go_wp2_with fail
              refine (verify_any A r1 c (by omega) ss Hss.out A1 j c1 hm xs _ ((HL.out.below HB5.out (Nat.le_refl _)).more HB5.out.size) ((HX.out.below HB5.out (Nat.le_refl _)).more HB5.out.size) (HT3.out.below HB5.out)).mono ?_
              rintro e w6 ⟨⟨r2, o2, hv2, rfl⟩, hb6⟩
              obtain ⟨rfl, rfl⟩ := ver_at hv2 (by omega) HG.out (fun h => absurd h.1 (by omega))
              have HB6 := Lib.hid (Below.trans HB3.out ((Below.trans HB5.out (hb6.mono HB5.out.size)).mono HB3.out.size))
              clear hv2 hb6
              go_wp2_with fail
              go_ret
              exact ⟨rfl, HB6.out⟩
            · have HG := Lib.hid hg
              have HN := Lib.hid hng
              clear hg hng hW
              have hf0 : ¬ ((f : Int) < 0) := by omega
              go_wp2_with fail
              refine (verify_any A k c (by omega) ss Hss.out A2 k c2 (by omega) (fun i => pre (fun j => (ss j).data.toList) (i + 1)) _ ((HL.out.below hB2.out (Nat.le_refl _)).more hB2.out.size) ((HC.out.below hB2.out (Nat.le_refl _)).more hB2.out.size) (HT3.out.below hB2.out)).mono ?_
              rintro e w5 ⟨⟨r1, o1, hv1, rfl⟩, hb5⟩
              obtain ⟨rfl, rfl⟩ := ver_own hv1
              have HB5 := Lib.hid (Below.trans hB2.out (hb5.mono hB2.out.size))
              clear hv1 hb5
              go_wp2_with fail
              refine (verify_any A r1 c (by omega) ss Hss.out A1 m c1 hm xs _ ((HL.out.below HB5.out (Nat.le_refl _)).more HB5.out.size) ((HX.out.below HB5.out (Nat.le_refl _)).more HB5.out.size) (HT3.out.below HB5.out)).mono ?_
              rintro e w6 ⟨⟨r2, o2, hv2, rfl⟩, hb6⟩
              obtain ⟨rfl, rfl⟩ := ver_at hv2 (by omega) HG.out HN.out
              have HB6 := Lib.hid (Below.trans HB3.out ((Below.trans HB5.out (hb6.mono HB5.out.size)).mono HB3.out.size))
              clear hv2 hb6
              go_wp2_with fail
              go_ret
              exact ⟨rfl, HB6.out⟩
        · obtain rfl : j = k := by omega
          rcases hW.out with ⟨rfl, rfl, hg⟩ | ⟨f, rfl, rfl, hg, hng⟩
          · have HG := Lib.hid hg
            clear hg hW
            by_cases hnm : j = m
            · subst hnm
              have hnm : j = j := rfl
              have hne : ((j : Int) != (j : Int)) = false := by simp
              go_wp2_with fail
              refine (verify_any A j c (by omega) ss Hss.out A2 j c2 (by omega) (fun i => pre (fun j => (ss j).data.toList) (i + 1)) _ ((HL.out.below hB2.out (Nat.le_refl _)).more hB2.out.size) ((HC.out.below hB2.out (Nat.le_refl _)).more hB2.out.size) (HT3.out.below hB2.out)).mono ?_
              rintro e w5 ⟨⟨r1, o1, hv1, rfl⟩, hb5⟩
              obtain ⟨rfl, rfl⟩ := ver_own hv1
              have HB5 := Lib.hid (Below.trans hB2.out (hb5.mono hB2.out.size))
              clear hv1 hb5
              go_wp2_with fail
              refine (verify_any A r1 c (by omega) ss Hss.out A1 r1 c1 hm xs _ ((HL.out.below HB5.out (Nat.le_refl _)).more HB5.out.size) ((HX.out.below HB5.out (Nat.le_refl _)).more HB5.out.size) (HT3.out.below HB5.out)).mono ?_
              rintro e w6 ⟨⟨r2, o2, hv2, rfl⟩, hb6⟩
              obtain ⟨rfl, rfl⟩ := ver_all hv2 HG.out
              rw [decide_eq_true (rfl : r2 = r2)]
              have HB6 := Lib.hid (Below.trans HB3.out ((Below.trans HB5.out (hb6.mono HB5.out.size)).mono HB3.out.size))
              clear hv2 hb6
              go_wp2_with fail
              go_ret
              exact ⟨rfl, HB6.out⟩
            · have hne : ((j : Int) != (m : Int)) = true := by rw [bne_iff_ne]; omega
              have hlt2 : (j : Int) < m := by omega
              go_wp2_with fail
              refine (verify_any A j c (by omega) ss Hss.out A2 j c2 (by omega) (fun i => pre (fun j => (ss j).data.toList) (i + 1)) _ ((HL.out.below hB2.out (Nat.le_refl _)).more hB2.out.size) ((HC.out.below hB2.out (Nat.le_refl _)).more hB2.out.size) (HT3.out.below hB2.out)).mono ?_
              rintro e w5 ⟨⟨r1, o1, hv1, rfl⟩, hb5⟩
              obtain ⟨rfl, rfl⟩ := ver_own hv1
              have HB5 := Lib.hid (Below.trans hB2.out (hb5.mono hB2.out.size))
              clear hv1 hb5
              go_wp2_with fail
              refine (verify_any A r1 c (by omega) ss Hss.out A1 m c1 hm xs _ ((HL.out.below HB5.out (Nat.le_refl _)).more HB5.out.size) ((HX.out.below HB5.out (Nat.le_refl _)).more HB5.out.size) (HT3.out.below HB5.out)).mono ?_
              rintro e w6 ⟨⟨r2, o2, hv2, rfl⟩, hb6⟩
              obtain ⟨rfl, rfl⟩ := ver_all hv2 HG.out
              rw [decide_eq_false hnm]
              have HB6 := Lib.hid (Below.trans HB3.out ((Below.trans HB5.out (hb6.mono HB5.out.size)).mono HB3.out.size))
              clear hv2 hb6
              go_wp2_with fail
              go_ret
              exact ⟨rfl, HB6.out⟩
          · have HG := Lib.hid hg
            have HN := Lib.hid hng
            clear hg hng hW
            have hf0 : ¬ ((f : Int) < 0) := by omega
            go_wp2_with fail
            refine (verify_any A (f + 1) c (by omega) ss Hss.out A2 (f + 1) c2 (by omega) (fun i => pre (fun j => (ss j).data.toList) (i + 1)) _ ((HL.out.below hB2.out (Nat.le_refl _)).more hB2.out.size) ((HC.out.below hB2.out (Nat.le_refl _)).more hB2.out.size) (HT3.out.below hB2.out)).mono ?_
            rintro e w5 ⟨⟨r1, o1, hv1, rfl⟩, hb5⟩
            obtain ⟨rfl, rfl⟩ := ver_own hv1
            have HB5 := Lib.hid (Below.trans hB2.out (hb5.mono hB2.out.size))
            clear hv1 hb5
            go_wp2_with fail
            refine (verify_any A (f + 1) c (by omega) ss Hss.out A1 m c1 hm xs _ ((HL.out.below HB5.out (Nat.le_refl _)).more HB5.out.size) ((HX.out.below HB5.out (Nat.le_refl _)).more HB5.out.size) (HT3.out.below HB5.out)).mono ?_
            rintro e w6 ⟨⟨r2, o2, hv2, rfl⟩, hb6⟩
            obtain ⟨rfl, rfl⟩ := ver_at hv2 (by omega) HG.out HN.out
            have HB6 := Lib.hid (Below.trans HB3.out ((Below.trans HB5.out (hb6.mono HB5.out.size)).mono HB3.out.size))
            clear hv2 hb6
            go_wp2_with fail
            go_ret
            exact ⟨rfl, HB6.out⟩

set_option maxRecDepth 100000 in
theorem lifted (os : Os) (started : os.Started) (H : Type) (enc : TypeId × Value → H) :
    ReturnsInHanded {} Tryd.checked os 11 .any (fun w args => (Rows.checksumChainsSpec.pre enc Tryd.prog Tryd.f11 [] false w args ∧ laidMetH Tryd.prog listed w) ∧ sizedMet enc Tryd.prog Tryd.f11 (OpenSpec.ofChange Rows.checksumChainsSpec) false w args)
      (Rows.checksumChainsSpec.post enc Tryd.prog Tryd.f11 false true false false) := by
  refine returnsInHanded_of_change_and (C := Tryd.checked) (X := fun w _ => laidMetH Tryd.prog listed w) (fun _ _ _ hh h => h.of_heap hh) own started (by kernel_rfl) Tryd.func11
    (ChangeSpec.witness_shaped (enc := enc) (C := Tryd.checked) (os := os) (X := fun w _ => laidMetH Tryd.prog listed w) false (World.doorLaid Tryd.prog 400 os) #[.slice none 0 0, .slice none 0 0, .int .u32 0] 8 rfl (World.shaped_of_RefB (by kernel_rfl) (by kernel_rfl)) (by kernel_rfl) (by kernel_rfl) (by kernel_rfl) (door_met os _)) ?_
  intro W base args ds gs before hval0 hW _ _ hL _
  have hval : ∀ (j : Nat) t v, Tryd.f11.params[j]? = some t → args[j]? = some v → Value.okWide Tryd.prog W .any base t v := hval0
  have hW' := hW
  obtain ⟨p, q, hA0, hV, rfl, _, _⟩ := hW
  have hA : DataW.TrodAll enc Tryd.prog W 0 (fun _ => true) true Tryd.f11.params.toList args.toList ds p := hA0
  rw [Tryd.params11] at hA hval
  obtain ⟨v0, vs0, d0, ds0, p0, q0, hargs0, rfl, rfl, h0, r0⟩ := trodAll_cons hA
  obtain ⟨v1, vs1, d1, ds1, p1, q1, hargs1, rfl, rfl, h1, r1⟩ := trodAll_cons r0
  obtain ⟨v2, vs2, d2, ds2, p2, q2, hargs2, rfl, rfl, h2, r2⟩ := trodAll_cons r1
  obtain ⟨rfl, rfl, rfl⟩ := trodAll_nil r2
  obtain rfl : args = #[v0, v1, v2] := by cases args; simp_all
  obtain ⟨rfl, rfl⟩ := trodVars_none hV
  have lt0 : ∀ x ∈ p0, x.block < W.heap.size := fun x hx => hW'.lt x (by simp [hx])
  have lt1 : ∀ x ∈ p1, x.block < W.heap.size := fun x hx => hW'.lt x (by simp [hx])
  obtain ⟨A0, n0, c0, ss0, rfl, hn0, hss, hR0⟩ := open_strs (hval 0 52 v0 rfl rfl) h0 lt0
  obtain ⟨A1, m, c1, xs, rfl, hm, hR1⟩ := open_u32s (hval 1 53 v1 rfl rfl) h1 lt1
  obtain ⟨a2, rfl, rfl, rfl, wa2⟩ := open_int Tryd.underlying32 (hval 2 32 v2 rfl rfl) h2
  obtain ⟨x2, rfl⟩ := u32_of wa2
  clear hA0 hval0
  simp only [List.append_nil] at hW'
  refine (walk A0 n0 c0 hn0 ss0 hss A1 m c1 hm xs x2 W hR0 hR1 (of_laid hL)).mono fun e W' ⟨he, hb⟩ => ?_
  subst he
  exact ⟨_, rfl, post_mem hW' hb (fun _ _ _ => trodAll_mk1 (shut_bool Tryd.underlying4 _)) (fun sp hsp => by
    have t := trodAll_cons_mk (carry laidOut (by kernel_rfl) (of_decide_eq_true (by kernel_rfl)) h0 hb lt0 sp (fun x hx => hsp x (by simp [hx]))) (trodAll_cons_mk (carry laidOut (by kernel_rfl) (of_decide_eq_true (by kernel_rfl)) h1 hb lt1 sp (fun x hx => hsp x (by simp [hx]))) (trodAll_cons_mk (shut_int Tryd.underlying32 wa2) trodAll_mk0))
    simp only [List.append_nil] at t
    exact t) (fun _ => rfl) (ok_one (by kernel_rfl) rfl (okWide_bool_mk Tryd.underlying4 _))⟩

theorem row : Rows.ChecksumChainsSaid :=
  OpenClaim.holds_of_wide 11 Tryd.f11 rfl rfl rfl rfl rfl rfl rfl ⟨rfl, rfl, rfl, rfl, rfl⟩ rfl rfl rfl rfl rfl (by kernel_rfl) Tryd.func11 (by kernel_rfl)
    (of_decide_eq_true (by kernel_rfl)) (by unfold Func.isWrapper; first | (rw [if_pos (by decide +kernel)]; kernel_rfl) | (rw [if_neg (by decide +kernel)]; exact ⟨rfl, rfl⟩))
    (fun os started H enc _ => lifted os started H enc)

theorem proved : Rows.ChecksumChainsCardSaid :=
  Claim7.holds_tied_plain_at .later [] [.data] true _ false row (fun _ h => by cases h) (by kernel_rfl) (fun _ h => by cases h) checksumChains_row_tie rfl ⟨rfl, rfl⟩ (by kernel_rfl) rfl
    (fun f fn hf hfn => by
      obtain rfl : f = 11 := Option.some.inj ((show Tryd.prog.funcNamed "sleuth/sleuthlaw04.ChecksumChains" = some 11 by kernel_rfl).symm.trans hf) |>.symm
      obtain rfl : fn = Tryd.f11 := (Option.some.inj (Tryd.func11.symm.trans hfn)).symm
      exact ⟨by kernel_rfl, fun j t ht => by
        rw [Tryd.params11] at ht
        have hm : t ∈ [52, 53, 32] := by simpa using Array.mem_of_getElem? ht
        have hall : ([52, 53, 32].all fun u => !Tryd.prog.wantsStandIn u) = true := by kernel_rfl
        exact (show Tryd.prog.wantsStandIn t = false by simpa using List.all_eq_true.1 hall t hm)⟩)
    (by kernel_rfl)
end Go.Proofs.YtediohaamblpbaaDoor.lawChains
