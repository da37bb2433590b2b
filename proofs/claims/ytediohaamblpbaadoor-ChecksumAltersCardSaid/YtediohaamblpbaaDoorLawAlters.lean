/- The statement ChecksumAlters: for any records, any place and any byte, the law returns true and changes nothing. No condition but that the table reads as its initialiser lays it, which the card ties to the program's text. -/
import Derived.Test.YtediohaamblpbaaDoorAlt
import Derived.Test.YtediohaamblpbaaDoorRowM
import Derived.Laws.IdiomStrings
import Derived.RegionTactic
import Derived.ChangeAlike
namespace Go.Proofs.YtediohaamblpbaaDoor.lawAlters
open Go.Proofs.YtediohaamblpbaaDoor Go.ChangeShapes Go.WideShapes Go.ChangeAt Go.RowKit Go.Joins Ck

theorem conv_to (S : ByteArray) (w : World) : ∃ (c : Nat) (w1 : World), (convert 9 49 (.string S)).run Tryd.prog w = .ok (.slice (some ⟨w.heap.size, 0, none⟩) S.size c) w1 ∧ BY w1 w.heap.size S.data.toList ∧ Below w.heap.size w w1 ∧ w1.heap.size = w.heap.size + 1 := by
  refine ⟨_, _, run_bytes_of_string w 9 49 5 S Tryd.underlying9 Tryd.underlying49 Tryd.underlying5, ⟨_, _, _, _, heap_alloc_new _ _, fun j hj => ?_, ?_, fun j hj => ?_⟩, ?_, ?_⟩
  · have : S.data.toList.length ≤ (bytesRow S (grownCap w S.size 0 5)).size := by simp [bytesRow]
    omega
  · simp [bytesRow]
  · have hj' : j < S.data.size := by simpa using hj
    rw [bytesRow_at S _ j hj']
    simp
  · exact ((Below.refl _ _).drew).alloc (Nat.le_refl _) _
  · show (World.alloc _ _).heap.size = _
    rw [World.size_alloc]; rfl
theorem Rd.at0 {w : World} {B : Nat} {A : Option Addr} {n : Nat} {f : Nat → Value} (h : Rd w B A n f) (hn : 0 < n) : ∃ b off, A = some ⟨b, off, none⟩ ∧ b < B ∧ ∀ k, k < n → w.cell? ⟨b, off + k, none⟩ = some (f k) := by
  obtain ⟨b, off, e, hb, _⟩ := h 0 hn
  refine ⟨b, off, e, hb, fun k hk => ?_⟩
  obtain ⟨b2, off2, e2, _, hc⟩ := h k hk
  rw [e] at e2
  injection e2 with e2
  injection e2 with e3 e4
  rw [e3, e4]; exact hc
theorem xor8 (a b : UInt8) : bits .xor .u8 (a.toNat : Int) (b.toNat : Int) = ((a ^^^ b).toNat : Int) := by
  rw [u8_xor_nat _ _ a.toNat_lt b.toNat_lt, UInt8.toNat_xor]
theorem xor_ne (a b : UInt8) (h : b ≠ 0) : a ^^^ b ≠ a := by
  intro e
  apply h
  have := congrArg (fun x => a ^^^ x) e
  simpa [← UInt8.xor_assoc] using this

theorem own_form {w : World} {base e n : Nat} {v : Value} {xs : List Value} (h : w.ownsRow base e 1 v n xs) (hn : 0 < n) : ∃ g c cur, v = .slice (some ⟨g, 0, none⟩) n c ∧ base ≤ g ∧ w.heap[g]? = some (.cells cur e (0, 0)) ∧ n ≤ cur.size ∧ ∀ j, j < n → cur[j]? = xs[j]? := by
  rcases h.2 with ⟨_, h0⟩ | ⟨g, cap, cur, hv, hbase, hg, hnc, hcap, hsz, htake⟩
  · omega
  · refine ⟨g, cap, cur, hv, hbase, hg, by omega, fun j hj => ?_⟩
    have := congrArg (fun l : List Value => l[j]?) htake
    simp only [Nat.mul_one] at this
    rw [List.getElem?_take_of_lt hj] at this
    rw [← Array.getElem?_toList, this]
theorem ver_found {ss : Nat → List UInt8} {xs : Nat → BitVec 32} {n m r f : Nat} {b : Bool} (h : Ver ss xs n m r b) (hf : f < n) (h1 : ∀ j, j < f → good ss xs m j) (h2 : ¬ good ss xs m f) : r = f ∧ b = false := by
  rcases h with ⟨_, hb, h3, h4⟩ | ⟨_, h3, _⟩
  · refine ⟨?_, hb⟩
    rcases Nat.lt_trichotomy r f with h | h | h
    · exact absurd (h1 r h) h4
    · exact h
    · exact absurd (h3 f h) h2
  · exact absurd (h3 f hf) h2
/-- The records, of which one is another. -/
def other (ss : Nat → ByteArray) (K : Nat) (S : ByteArray) (j : Nat) : ByteArray := if j = K then S else ss j

set_option maxHeartbeats 16000000 in
theorem walk (A0 : Option Addr) (n0 c0 : Nat) (hn0 : n0 ≤ 9223372036854775807) (ss0 : Nat → ByteArray) (hss : ∀ k, (ss0 k).size ≤ 9223372036854775807) (a0 a1 by_ : UInt8) (w : World)
    (hR0 : Rd w w.heap.size A0 n0 (fun k => .string (ss0 k))) (hT : Tab w) :
    Calls Tryd.prog 12 #[.slice A0 n0 c0, .agg #[.int .u8 a0.toNat, .int .u8 a1.toNat], .int .u8 by_.toNat] w fun e w' => e = .returned (.bool true) ∧ Below w.heap.size w w' := by
  have HR0 := Lib.hid ((hR0.below ((Below.refl w.heap.size w).alloc (Nat.le_refl _) (.cells #[.int .u8 a0.toNat, .int .u8 a1.toNat] 59)) (Nat.le_refl _)).more (show w.heap.size ≤ (w.alloc (.cells #[.int .u8 a0.toNat, .int .u8 a1.toNat] 59)).heap.size by simp))
  have HT := Lib.hid (hT.alloc (.cells #[.int .u8 a0.toNat, .int .u8 a1.toNat] 59))
  have HK0 := Lib.hid (heap_alloc_new w (.cells #[.int .u8 a0.toNat, .int .u8 a1.toNat] 59))
  have HB0 := Lib.hid ((Below.refl w.heap.size w).alloc (Nat.le_refl _) (.cells #[.int .u8 a0.toNat, .int .u8 a1.toNat] 59))
  have Hss0 := Lib.hid hss
  clear hR0 hT hss
  go_enter Tryd.func12, Tryd.ntmps12
  go_wp2_with fail
  generalize w.alloc (.cells #[.int .u8 a0.toNat, .int .u8 a1.toNat] 59) = wb at *
  refine (few_any A0 n0 c0 ss0 Hss0.out hn0 _ HR0.out).mono ?_
  rintro e w1 ⟨⟨v, hv, rfl⟩, hb1⟩
  have hn8 : min n0 8 ≤ 8 := by omega
  generalize min n0 8 = n at *
  obtain ⟨A, c, rfl⟩ := own_slice hv
  have Hss : Hid (∀ k, (cut 40 (ss0 k)).size ≤ 40) := Lib.hid (fun k => cut_size 40 (ss0 k))
  have hRd : Rd w1 w1.heap.size A n (fun k => .string (cut 40 (ss0 k))) := Rd.own hv
  generalize hcut : (fun k => cut 40 (ss0 k)) = ss at *
  have hcut2 : ∀ k, cut 40 (ss0 k) = ss k := fun k => congrFun hcut k
  simp only [hcut2] at hRd Hss
  have HK1 := Lib.hid ((hb1.block w.heap.size (Array.getElem?_eq_some_iff.1 HK0.out).1).trans HK0.out)
  have HT1 := Lib.hid (HT.out.below hb1)
  have HB1 := Lib.hid (Below.trans HB0.out (hb1.mono HB0.out.size))
  have HRd := Lib.hid hRd
  clear hv hb1 hRd hcut hcut2
  go_wp2_with fail
  refine (known_any _ HT1.out).mono ?_
  rintro e w2 ⟨rfl, hb2⟩
  have HL2 := Lib.hid ((HRd.out.below hb2 (Nat.le_refl _)).more hb2.size)
  have hk2 := (hb2.block w.heap.size (Array.getElem?_eq_some_iff.1 HK1.out).1).trans HK1.out
  have HT2 := Lib.hid (HT1.out.below hb2)
  have HB2 := Lib.hid (Below.trans HB1.out (hb2.mono HB1.out.size))
  have HK2 := Lib.hid hk2
  clear hb2 hk2 HRd HK1 HT1 HB1 HK0 HT HB0 HR0
  rcases Nat.eq_zero_or_pos n with h0 | h0
  · subst h0
    go_wp2_with fail
    refine (known_any _ HT2.out).mono ?_
    rintro e w3 ⟨rfl, hb3⟩
    have HB3 := Lib.hid (Below.trans HB2.out (hb3.mono HB2.out.size))
    clear hb3
    go_wp2_with fail
    go_ret
    exact ⟨rfl, HB3.out⟩
  · have hne0 : ((n : Int) == 0) = false := by rw [beq_eq_false_iff_ne]; omega
    obtain ⟨K, hK, hKn⟩ : ∃ K : Nat, (a0.toNat : Int) % n = K ∧ K < n := ⟨a0.toNat % n, by simp, Nat.mod_lt _ h0⟩
    have hpos : (0 : Int) < n := by omega
    have ha0 : ((a0.toNat : Nat) : Int) < 256 := by have := a0.toNat_lt; omega
    have ha1 : ((a1.toNat : Nat) : Int) < 256 := by have := a1.toNat_lt; omega
    obtain ⟨b, off, rfl, hb, hc⟩ := Rd.at0 HL2.out h0
    have Hc := Lib.hid hc
    have hcK := hc K hKn
    clear hc
    have c0' := cell_of_row w2 w.heap.size 0 _ _ _ HK2.out
    have c1' := cell_of_row w2 w.heap.size 1 _ _ _ HK2.out
    by_cases hS0 : (ss K).size = 0
    · have t1 : (((ss K).size : Int) == 0) = true := by rw [beq_iff_eq]; omega
      have HS0 := Lib.hid hS0
      clear hS0
      go_wp2_with fail
      go_ret
      exact ⟨rfl, HB2.out⟩
    · have t1 : (((ss K).size : Int) == 0) = false := by rw [beq_eq_false_iff_ne]; omega
      by_cases hby : by_ = 0
      · have t2 : ((by_.toNat : Int) == 0) = true := by rw [hby]; rfl
        have Hby := Lib.hid hby
        clear hby
        go_wp2_with fail
        go_ret
        exact ⟨rfl, HB2.out⟩
      · have t2 : ((by_.toNat : Int) == 0) = false := by
          rw [beq_eq_false_iff_ne]
          intro e
          exact hby (UInt8.toNat_inj.1 (by show by_.toNat = 0; omega))
        have Hby := Lib.hid hby
        clear hby
        obtain ⟨i0, hi0, hz0, hz1, hz2⟩ := info_parts str_info
        have Hi0 := Lib.hid hi0
        have Hz0 := Lib.hid hz0
        have Hz1 := Lib.hid hz1
        have Hz2 := Lib.hid hz2
        clear hi0 hz0 hz1 hz2
        have hown0 : (w2.alloc (.cells #[] 9)).ownsRow w2.heap.size 9 1 (.slice (some ⟨w2.heap.size, 0, none⟩) 0 0) 0 [] :=
          ⟨by simp, .inr ⟨w2.heap.size, 0, #[], rfl, Nat.le_refl _, heap_alloc_new _ _, Nat.le_refl _, Nat.zero_le _, rfl, rfl⟩⟩
        have hnews : ∀ j u, ((List.range n).map fun k => Value.string (ss k))[j]? = some u → (w2.alloc (.cells #[] 9)).cell? ((⟨b, off, none⟩ : Addr).add j) = some u := by
          intro j u hu
          rw [add_flat, World.cell?_alloc_lt _ _ _ hb]
          have hj : j < n := by
            have := (List.getElem?_eq_some_iff.1 hu).1
            simpa using this
          rw [Hc.out j hj]
          simpa [hj] using hu
        have Hown0 := Lib.hid hown0
        have Hnews := Lib.hid hnews
        clear hown0 hnews
        go_wp2_with (at_builtin; refine wpList_append_own _ rfl (.tmp 41) (.tmp 42) 52 rfl w2.heap.size 9 i0 _ 1 16 Tryd.underlying52 Hi0.out Hz0.out Hz1.out Hz2.out rfl (by decide) _ 0 [] rfl Hown0.out ⟨b, off, none⟩ n c ((List.range n).map fun k => .string (ss k)) rfl (by simp) Hnews.out (fun u hu => by obtain ⟨k, _, rfl⟩ := List.mem_map.1 hu; rfl) (by unfold maxLen; omega) (by omega) (by simp) ?_; intro v7 w7 hown7 hg7 _; have hB7 : Below w2.heap.size w2 w7 := below_grownBy ((Below.refl _ _).alloc (Nat.le_refl _) _) Hown0.out hg7 (Nat.le_refl _) (Nat.le_refl _); have hcK7 := (hB7.cell (p := ⟨b, off + K, none⟩) hb).trans hcK; obtain ⟨c9, w8, hr8, hby8, hB8, hz8⟩ := conv_to (ss K) w7; have HO7 := Lib.hid hown7; have HB7 := Lib.hid hB7; have HY8 := Lib.hid hby8; have HB8 := Lib.hid hB8; clear hown7 hg7 hB7 hby8 hB8 hz8)
        have ho7 := HO7.out
        simp only [Nat.zero_add, List.nil_append] at ho7
        obtain ⟨g7, c7, cur, rfl, hge7, hblk7, hcur, hcell7⟩ := own_form ho7 h0
        have hl7 : g7 < w7.heap.size := (Array.getElem?_eq_some_iff.1 hblk7).1
        have hblk8 := (HB8.out.block g7 hl7).trans hblk7
        obtain ⟨J, hJ, hJs⟩ : ∃ J : Nat, (a1.toNat : Int) % ((ss K).size : Int) = J ∧ J < (ss K).size := ⟨a1.toNat % (ss K).size, by simp, Nat.mod_lt _ (by omega)⟩
        have hJi : (J : Int) < (ss K).size := by omega
        have hsp : (0 : Int) < (ss K).size := by omega
        have Hlen : Hid ((ss K).data.toList.length = (ss K).size) := Lib.hid (by simp)
        have hJl : J < (ss K).data.toList.length := by rw [Hlen.out]; exact hJs
        have hcJ := HY8.out.cell J hJl
        have hfJ := HY8.out.free J hJl
        obtain ⟨bJ, hbJ⟩ : ∃ bJ, (ss K).data.toList[J] = bJ := ⟨_, rfl⟩
        rw [hbJ] at hcJ
        have hxJ := xor8 bJ by_
        obtain ⟨bN, hbN⟩ : ∃ bN, bJ ^^^ by_ = bN := ⟨_, rfl⟩
        rw [hbN] at hxJ
        have HbN : Hid (bN ≠ bJ) := Lib.hid (by rw [← hbN]; exact xor_ne bJ by_ Hby.out)
        clear hbN
        have hlw : w.heap.size < w2.heap.size := (Array.getElem?_eq_some_iff.1 HK2.out).1
        have hlw7 := HB7.out.size
        have hbox := (HB8.out.block w.heap.size (by omega)).trans ((HB7.out.block w.heap.size hlw).trans HK2.out)
        have hb1 := cell_of_row w8 w.heap.size 1 _ _ _ hbox
        have HbJ := Lib.hid hbJ
        have Hblk8 := Lib.hid hblk8
        have Hcell7 := Lib.hid hcell7
        clear hbJ hblk7 hblk8 hcell7 ho7 hbox hcK7 hr8 c0' c1' hcK
        have ha2 : ((by_.toNat : Nat) : Int) < 256 := by have := by_.toNat_lt; omega
        go_region
        have hby9 : BY ((w8.setCell ⟨w7.heap.size, J, none⟩ (.int .u8 (bN.toNat : Int))).drew) w7.heap.size ((ss K).data.toList.set J bN) := (HY8.out.set J bN _ rfl).same rfl
        have hB9 : Below w7.heap.size w7 ((w8.setCell ⟨w7.heap.size, J, none⟩ (.int .u8 (bN.toNat : Int))).drew) := Below.drew (Below.setCell HB8.out (Nat.le_refl _) _)
        have hblk9 : ((w8.setCell ⟨w7.heap.size, J, none⟩ (.int .u8 (bN.toNat : Int))).drew).heap[g7]? = some (.cells cur 9 (0, 0)) :=
          (heap_setCell_other _ _ _ _ (show g7 ≠ w7.heap.size by omega)).trans Hblk8.out
        generalize (w8.setCell ⟨w7.heap.size, J, none⟩ (.int .u8 (bN.toNat : Int))).drew = w9 at *
        have k1 := BY.back 49 5 Tryd.underlying49 Tryd.underlying5 w7.heap.size c9 _ (ss K).size (by rw [List.length_set]; exact Hlen.out.symm) w9 hby9
        obtain ⟨S', hS'⟩ : ∃ S' : ByteArray, (⟨((ss K).data.toList.set J bN).toArray⟩ : ByteArray) = S' := ⟨_, rfl⟩
        rw [hS'] at k1
        have HS' : Hid (S'.data.toList = (ss K).data.toList.set J bN) := Lib.hid (by rw [← hS'])
        have HSz : Hid (S'.size ≤ 40) := Lib.hid (by
          have h1 : S'.size = S'.data.toList.length := by simp
          rw [h1, HS'.out, List.length_set, Hlen.out]; exact Hss.out K)
        have hcg := cell_of_row w9 g7 K cur _ _ hblk9
        rw [Hcell7.out K hKn] at hcg
        simp only [List.getElem?_map, List.getElem?_range hKn, Option.map_some] at hcg
        have hfg := frozen_of_row w9 g7 K cur _ hblk9
        have hset := heap_setCell_same w9 g7 K cur _ (.string S') hblk9
        have hB10 : Below w2.heap.size w2 (w9.setCell ⟨g7, K, none⟩ (.string S')) := Below.setCell (Below.trans HB7.out (hB9.mono HB7.out.size)) hge7 _
        have hRt : Rd (w9.setCell ⟨g7, K, none⟩ (.string S')) (w9.setCell ⟨g7, K, none⟩ (.string S')).heap.size (some ⟨g7, 0, none⟩) n (fun j => .string (other ss K S' j)) := fun j hj => by
          have hlt : g7 < (w9.setCell ⟨g7, K, none⟩ (.string S')).heap.size := (Array.getElem?_eq_some_iff.1 hset).1
          refine ⟨g7, 0, rfl, hlt, ?_⟩
          rw [Nat.zero_add, cell_of_row _ g7 j _ _ _ hset, Array.getElem?_setIfInBounds]
          unfold other
          by_cases e : K = j
          · subst e
            rw [if_pos rfl, if_pos (by omega)]; simp
          · have e' : ¬ j = K := fun h => e h.symm
            rw [if_neg e, Hcell7.out j hj]
            simp [hj, e']
        have Hset := Lib.hid hset
        have HB10 := Lib.hid hB10
        have HRt := Lib.hid hRt
        clear hby9 hB9 hblk9 hS' hset hB10 hRt hcJ hfJ hxJ hb1
        go_wp2_with fail
        generalize w9.setCell ⟨g7, K, none⟩ (.string S') = w10 at *
        clear k1 hcg hfg
        have HL10 := Lib.hid ((HL2.out.below HB10.out (Nat.le_refl _)).more HB10.out.size)
        have HT10 := Lib.hid (HT2.out.below HB10.out)
        refine (chain_any (some ⟨b, off, none⟩) n c (by omega) ss (fun k => Nat.le_trans (Hss.out k) (by omega)) _ HL10.out HT10.out).mono ?_
        rintro e w11 ⟨⟨v11, hv11, rfl⟩, hb11⟩
        obtain ⟨A11, c11, rfl⟩ := own_slice hv11
        have HC11 := Lib.hid (Rd.own hv11)
        have HRt11 := Lib.hid ((HRt.out.below hb11 (Nat.le_refl _)).more hb11.size)
        have HT11 := Lib.hid (HT10.out.below hb11)
        have HB11 := Lib.hid (Below.trans HB10.out (hb11.mono HB10.out.size))
        clear hv11 hb11
        go_wp2_with fail
        refine (chain_any (some ⟨g7, 0, none⟩) n c7 (by omega) (other ss K S') (fun k => by
          unfold other
          split
          · exact Nat.le_trans HSz.out (by omega)
          · exact Nat.le_trans (Hss.out k) (by omega)) _ HRt11.out HT11.out).mono ?_
        rintro e w12 ⟨⟨v12, hv12, rfl⟩, hb12⟩
        obtain ⟨A12, c12, rfl⟩ := own_slice hv12
        have HD12 := Lib.hid (Rd.own hv12)
        have HC12 := Lib.hid ((HC11.out.below hb12 (Nat.le_refl _)).more hb12.size)
        have HRt12 := Lib.hid ((HRt11.out.below hb12 (Nat.le_refl _)).more hb12.size)
        have HT12 := Lib.hid (HT11.out.below hb12)
        have HB12 := Lib.hid (Below.trans HB11.out (hb12.mono HB11.out.size))
        clear hv12 hb12
        have hk : ∀ p, linkS p (ss K).data.toList ≠ linkS p (other ss K S' K).data.toList := fun p e => by
          have e2 : other ss K S' K = S' := if_pos rfl
          rw [e2, HS'.out] at e
          exact HbN.out ((link_record p _ J hJl bN e).trans HbJ.out)
        have ho : ∀ j, j ≠ K → (ss j).data.toList = (other ss K S' j).data.toList := fun j hj => by unfold other; rw [if_neg hj]
        have Hk := Lib.hid hk
        have Ho := Lib.hid ho
        clear hk ho
        go_wp2_with fail
        go_loopw [12] (fun i wr => ∃ j : Nat, j ≤ n ∧ i = .int .i64 j ∧ Hid (Below w12.heap.size w12 wr)) (fun i _ => n - (intOf i).toNat)
        case atStart => exact ⟨0, Nat.zero_le _, rfl, Lib.hid (Below.refl _ _)⟩
        case round =>
          obtain ⟨j, hj, rfl, hB⟩ := hrel
          by_cases hlt : j < n
          · obtain ⟨b3, off3, rfl, hb3, hc3⟩ := HC12.out j hlt
            have hcA := (hB.out.cell (p := ⟨b3, off3 + j, none⟩) hb3).trans hc3
            obtain ⟨b4, off4, rfl, hb4, hc4⟩ := HD12.out j hlt
            have hcB := (hB.out.cell (p := ⟨b4, off4 + j, none⟩) hb4).trans hc4
            clear hc3 hc4
            have hjn : (j : Int) < n := by omega
            by_cases hjK : j < K
            · have hsame : pre (fun i => (ss i).data.toList) (j + 1) = pre (fun i => (other ss K S' i).data.toList) (j + 1) := pre_same _ _ _ (fun i hi => Ho.out i (by omega))
              have hjK2 : (j : Int) < K := by omega
              have hcB' : wr.cell? ⟨b4, off4 + j, none⟩ = some (.int .u32 (pre (fun i => (other ss K S' i).data.toList) (j + 1)).toNat) := hcB
              have hcA' : wr.cell? ⟨b3, off3 + j, none⟩ = some (.int .u32 (pre (fun i => (ss i).data.toList) (j + 1)).toNat) := hcA
              clear hcA hcB
              rw [← hsame] at hcB'
              generalize pre (fun i => (ss i).data.toList) (j + 1) = P1 at *
              clear hsame
              go_wp2_with fail
              go_quiet (fail)
              have HB := Lib.hid (below_drewN hB.out nq)
              go_wp2_with fail
              go_roundw
              case rel => exact ⟨j + 1, by omega, by go_num, HB⟩
              case measure => simp [intOf]; omega
            · have hdiff := pre_other (fun i => (ss i).data.toList) (fun i => (other ss K S' i).data.toList) K Ho.out Hk.out (j + 1) (by omega)
              have hjK2 : ¬ (j : Int) < K := by omega
              have hcB' : wr.cell? ⟨b4, off4 + j, none⟩ = some (.int .u32 (pre (fun i => (other ss K S' i).data.toList) (j + 1)).toNat) := hcB
              have hcA' : wr.cell? ⟨b3, off3 + j, none⟩ = some (.int .u32 (pre (fun i => (ss i).data.toList) (j + 1)).toNat) := hcA
              clear hcA hcB
              generalize pre (fun i => (ss i).data.toList) (j + 1) = P1 at *
              generalize pre (fun i => (other ss K S' i).data.toList) (j + 1) = P2 at *
              have hne : ((P1.toNat : Int) == (P2.toNat : Int)) = false := by
                rw [beq_eq_false_iff_ne]
                intro e
                exact hdiff (BitVec.eq_of_toNat_eq (by omega))
              have Hdiff := Lib.hid hdiff
              clear hdiff
              go_wp2_with fail
              go_quiet (fail)
              have HB := Lib.hid (below_drewN hB.out nq)
              go_wp2_with fail
              go_roundw
              case rel => exact ⟨j + 1, by omega, by go_num, HB⟩
              case measure => simp [intOf]; omega
          · have hjn : ¬ (j : Int) < n := by omega
            go_wp2_with fail
            refine (verify_any (some ⟨g7, 0, none⟩) n c7 (by omega) (other ss K S') (fun k => by
              unfold other
              split
              · exact Nat.le_trans HSz.out (by omega)
              · exact Nat.le_trans (Hss.out k) (by omega)) A11 n c11 (by omega) (fun i => pre (fun j => (ss j).data.toList) (i + 1)) _ ((HRt12.out.below hB.out (Nat.le_refl _)).more hB.out.size) ((HC12.out.below hB.out (Nat.le_refl _)).more hB.out.size) (HT12.out.below hB.out)).mono ?_
            rintro e w13 ⟨⟨r1, o1, hv1, rfl⟩, hb13⟩
            have hver : r1 = K ∧ o1 = false := by
              have pvp : ∀ k, pv (fun i => pre (fun j => (ss j).data.toList) (i + 1)) k = pre (fun j => (ss j).data.toList) k := fun k => by cases k <;> rfl
              refine ver_found hv1 hKn (fun i hi => ⟨by omega, ?_⟩) (fun h => ?_)
              · rw [pvp]
                show linkS _ (ss i).data.toList = linkS _ (other ss K S' i).data.toList
                rw [Ho.out i (by omega)]
              · have h2 := h.2
                rw [pvp] at h2
                exact Hk.out _ h2
            obtain ⟨rfl, rfl⟩ := hver
            have HB13 := Lib.hid (Below.trans HB2.out ((Below.trans HB12.out (Below.trans (hB.out.mono HB12.out.size) (hb13.mono (by have := HB12.out.size; have := hB.out.size; omega)))).mono HB2.out.size))
            clear hv1 hb13
            go_wp2_with fail
            go_ret
            exact ⟨rfl, HB13.out⟩

theorem array2 {α : Type} {cs : Array α} (h : cs.size = 2) : ∃ c0 c1, cs = #[c0, c1] := by
  obtain ⟨l⟩ := cs
  match l, h with
  | [a, b], _ => exact ⟨a, b, rfl⟩
theorem open_row2 {H : Type} {enc : TypeId × Value → H} {P : Program} {w : World} {base : Nat} {spare : Nat → Bool} {held : Bool} {r : Reach} {b0 : Nat} {t e : TypeId} {k : IntKind} {v : Value} {d : DataW H} {p : List MemPlace}
    (ht : P.underlying t = some (.array 2 e)) (he : P.underlying e = some (.int k)) (hce : P.cellsOf e = 1) (hC : P.cellsOf t = 2)
    (hv : Value.okWide P w r b0 t v) (h : DataW.Trod enc P w base spare held t v d p) :
    ∃ m0 m1 : Int, v = .agg #[.int k m0, .int k m1] ∧ d = .agg [.lit (.int k m0), .lit (.int k m1)] ∧ p = [] ∧ (Lit.int k m0).wf = true ∧ (Lit.int k m1).wf = true := by
  obtain ⟨cs, rfl, hsz⟩ : ∃ cs, v = .agg cs ∧ cs.size = P.cellsOf t := by
    simp only [Value.okWide, ht] at hv
    obtain ⟨cs, h1, h2, _⟩ := hv
    exact ⟨cs, h1, h2⟩
  obtain ⟨c0, c1, rfl⟩ := array2 (hsz.trans hC)
  obtain ⟨fuel, hf⟩ := h
  obtain ⟨xs, m, _, hx, _, hn, hel⟩ := DataW.trod_array ht hf
  have h0 := hel 0 (by omega)
  have h1 := hel 1 (by omega)
  simp only [hce, Value.cells] at h0 h1
  match xs, hn, hx, h0, h1 with
  | [y0, y1], _, hx, h0, h1 =>
    obtain ⟨m0, e0, rfl, w0⟩ := DataW.trod_int he (show DataW.trod enc P w base spare held m e [c0] = some y0 from h0)
    obtain ⟨m1, e1, rfl, w1⟩ := DataW.trod_int he (show DataW.trod enc P w base spare held m e [c1] = some y1 from h1)
    simp only [List.cons.injEq, and_true] at e0 e1
    subst e0 e1
    simp only [Prod.mk.injEq, List.map_cons, List.map_nil] at hx
    exact ⟨m0, m1, rfl, hx.1, by rw [hx.2]; rfl, w0, w1⟩
theorem shut_row2 {H : Type} {enc : TypeId × Value → H} {P : Program} {w : World} {base : Nat} {spare : Nat → Bool} {held : Bool} {t e : TypeId} {k : IntKind} {m0 m1 : Int} (ht : P.underlying t = some (.array 2 e)) (he : P.underlying e = some (.int k)) (hce : P.cellsOf e = 1) (hC : P.cellsOf t = 2)
    (w0 : (Lit.int k m0).wf = true) (w1 : (Lit.int k m1).wf = true) :
    DataW.Trod enc P w base spare held t (.agg #[.int k m0, .int k m1]) (.agg [.lit (.int k m0), .lit (.int k m1)]) [] := by
  refine ⟨2, ?_⟩
  have r2 : List.range 2 = [0, 1] := rfl
  simp [DataW.trod, ht, he, hce, hC, r2, Value.cells, w0, w1]
theorem u8_of {a : Int} (w : (Lit.int .u8 a).wf = true) : ∃ x : UInt8, a = x.toNat := by
  have h : 0 ≤ a ∧ a ≤ 255 := by simpa [Lit.wf, IntKind.min, IntKind.max, IntKind.signed, IntKind.bits] using w
  refine ⟨UInt8.ofNat a.toNat, ?_⟩
  rw [UInt8.toNat_ofNat']; omega

set_option maxRecDepth 100000 in
theorem lifted (os : Os) (started : os.Started) (H : Type) (enc : TypeId × Value → H) :
    ReturnsInHanded {} Tryd.checked os 12 .any (fun w args => (Rows.checksumAltersSpec.pre enc Tryd.prog Tryd.f12 [] false w args ∧ laidMetH Tryd.prog listed w) ∧ sizedMet enc Tryd.prog Tryd.f12 (OpenSpec.ofChange Rows.checksumAltersSpec) false w args)
      (Rows.checksumAltersSpec.post enc Tryd.prog Tryd.f12 false true false false) := by
  refine returnsInHanded_of_change_and (C := Tryd.checked) (X := fun w _ => laidMetH Tryd.prog listed w) (fun _ _ _ hh h => h.of_heap hh) own started (by kernel_rfl) Tryd.func12
    (ChangeSpec.witness_shaped (enc := enc) (C := Tryd.checked) (os := os) (X := fun w _ => laidMetH Tryd.prog listed w) false (World.doorLaid Tryd.prog 400 os) #[.slice none 0 0, .agg #[.int .u8 0, .int .u8 0], .int .u8 0] 8 rfl (World.shaped_of_RefB (by kernel_rfl) (by kernel_rfl)) (by kernel_rfl) (by kernel_rfl) (by kernel_rfl) (door_met os _)) ?_
  intro W base args ds gs before hval0 hW _ _ hL _
  have hval : ∀ (j : Nat) t v, Tryd.f12.params[j]? = some t → args[j]? = some v → Value.okWide Tryd.prog W .any base t v := hval0
  have hW' := hW
  obtain ⟨p, q, hA0, hV, rfl, _, _⟩ := hW
  have hA : DataW.TrodAll enc Tryd.prog W 0 (fun _ => true) true Tryd.f12.params.toList args.toList ds p := hA0
  rw [Tryd.params12] at hA hval
  obtain ⟨v0, vs0, d0, ds0, p0, q0, hargs0, rfl, rfl, h0, r0⟩ := trodAll_cons hA
  obtain ⟨v1, vs1, d1, ds1, p1, q1, hargs1, rfl, rfl, h1, r1⟩ := trodAll_cons r0
  obtain ⟨v2, vs2, d2, ds2, p2, q2, hargs2, rfl, rfl, h2, r2⟩ := trodAll_cons r1
  obtain ⟨rfl, rfl, rfl⟩ := trodAll_nil r2
  obtain rfl : args = #[v0, v1, v2] := by cases args; simp_all
  obtain ⟨rfl, rfl⟩ := trodVars_none hV
  have lt0 : ∀ x ∈ p0, x.block < W.heap.size := fun x hx => hW'.lt x (by simp [hx])
  obtain ⟨A0, n0, c0, ss0, rfl, hn0, hss, hR0⟩ := open_strs (hval 0 52 v0 rfl rfl) h0 lt0
  obtain ⟨m10, m11, rfl, rfl, rfl, wm10, wm11⟩ := open_row2 Tryd.underlying59 Tryd.underlying5 (by kernel_rfl) (by kernel_rfl) (hval 1 59 v1 rfl rfl) h1
  obtain ⟨x10, rfl⟩ := u8_of wm10
  obtain ⟨x11, rfl⟩ := u8_of wm11
  obtain ⟨a2, rfl, rfl, rfl, wa2⟩ := open_int Tryd.underlying5 (hval 2 5 v2 rfl rfl) h2
  obtain ⟨x2, rfl⟩ := u8_of wa2
  clear hA0 hval0
  simp only [List.append_nil] at hW'
  refine (walk A0 n0 c0 hn0 ss0 hss x10 x11 x2 W hR0 (of_laid hL)).mono fun e W' ⟨he, hb⟩ => ?_
  subst he
  exact ⟨_, rfl, post_mem hW' hb (fun _ _ _ => trodAll_mk1 (shut_bool Tryd.underlying4 _)) (fun sp hsp => by
    have t := trodAll_cons_mk (carry laidOut (by kernel_rfl) (of_decide_eq_true (by kernel_rfl)) h0 hb lt0 sp (fun x hx => hsp x (by simp [hx]))) (trodAll_cons_mk (shut_row2 Tryd.underlying59 Tryd.underlying5 (by kernel_rfl) (by kernel_rfl) wm10 wm11) (trodAll_cons_mk (shut_int Tryd.underlying5 wa2) trodAll_mk0))
    simp only [List.append_nil] at t
    exact t) (fun _ => rfl) (ok_one (by kernel_rfl) rfl (okWide_bool_mk Tryd.underlying4 _))⟩

theorem row : Rows.ChecksumAltersSaid :=
  OpenClaim.holds_of_wide 12 Tryd.f12 rfl rfl rfl rfl rfl rfl rfl ⟨rfl, rfl, rfl, rfl, rfl⟩ rfl rfl rfl rfl rfl (by kernel_rfl) Tryd.func12 (by kernel_rfl)
    (of_decide_eq_true (by kernel_rfl)) (by unfold Func.isWrapper; first | (rw [if_pos (by decide +kernel)]; kernel_rfl) | (rw [if_neg (by decide +kernel)]; exact ⟨rfl, rfl⟩))
    (fun os started H enc _ => lifted os started H enc)

theorem proved : Rows.ChecksumAltersCardSaid :=
  Claim7.holds_tied_plain_at .later [] [.data] true _ false row (fun _ h => by cases h) (by kernel_rfl) (fun _ h => by cases h) checksumAlters_row_tie rfl ⟨rfl, rfl⟩ (by kernel_rfl) rfl
    (fun f fn hf hfn => by
      obtain rfl : f = 12 := Option.some.inj ((show Tryd.prog.funcNamed "sleuth/sleuthlaw04.ChecksumAlters" = some 12 by kernel_rfl).symm.trans hf) |>.symm
      obtain rfl : fn = Tryd.f12 := (Option.some.inj (Tryd.func12.symm.trans hfn)).symm
      exact ⟨by kernel_rfl, fun j t ht => by
        rw [Tryd.params12] at ht
        have hm : t ∈ [52, 59, 5] := by simpa using Array.mem_of_getElem? ht
        have hall : ([52, 59, 5].all fun u => !Tryd.prog.wantsStandIn u) = true := by kernel_rfl
        exact (show Tryd.prog.wantsStandIn t = false by simpa using List.all_eq_true.1 hall t hm)⟩)
    (by kernel_rfl)
end Go.Proofs.YtediohaamblpbaaDoor.lawAlters
