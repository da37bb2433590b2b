/- BottomkParts: for any setting and any three lists the law returns true. -/
import Derived.Test.YtajainkaomkbjaaGs
import Derived.BigQuiet
namespace Go.Proofs.Ytajainkaomkbjaa.lawParts
open Go.Proofs.Ytajainkaomkbjaa Go.ChangeShapes Go.WideShapes Go.ChangeAt Go.RowKit Go.Joins Bt

theorem laidOut : laidOutB Try.prog = true := by kernel_rfl
/-- Whether one of the first j keys is k. -/
def anK (L : List Ky) (k : Ky) (j : Nat) : Bool := (L.take j).any (fun x => decide (x = k))
theorem anK_succ (L : List Ky) (k : Ky) (j : Nat) (h : j < L.length) : anK L k (j + 1) = (anK L k j || decide (L[j] = k)) := by
  unfold anK; rw [List.take_succ_eq_append_getElem h, List.any_append]; simp
theorem anK_all {L : List Ky} {k : Ky} (h : k ∈ L) : anK L k L.length = true := by
  unfold anK; rw [List.take_length, List.any_eq_true]; exact ⟨k, h, by simp⟩
set_option maxRecDepth 100000 in
set_option maxHeartbeats 8000000 in
theorem walk (w : World) (a b : Nat) (ha : a ≤ 255) (hb : b ≤ 255) (A : Option Addr) (c : Nat) (L : List Nat) (hl : L.length ≤ 9223372036854775807) (hs : ∀ x ∈ L, x ≤ 255) (hR : Rd u8N w A L) (B : Option Addr) (d : Nat) (M : List Nat) (hl2 : M.length ≤ 9223372036854775807) (hs2 : ∀ x ∈ M, x ≤ 255) (hR2 : Rd u8N w B M) (C : Option Addr) (f : Nat) (N : List Nat) (hl3 : N.length ≤ 9223372036854775807) (hs3 : ∀ x ∈ N, x ≤ 255) (hR3 : Rd u8N w C N) :
    Calls Try.prog 6 #[.agg #[.int .u8 (a : Int), .int .u8 (b : Int)], .agg #[.slice A L.length c, .slice B M.length d, .slice C N.length f]] w fun e w' => e = .returned (.bool true) ∧ Below w.heap.size w w' := by
  have HMa := Lib.hid (fun W h => made_any a b ha hb A c L hl hs W h)
  have HMb := Lib.hid (fun W h => made_any a b ha hb B d M hl2 hs2 W h)
  have HMc := Lib.hid (fun W h => made_any a b ha hb C f N hl3 hs3 W h)
  have HRa := Lib.hid hR
  have HRb := Lib.hid hR2
  have HRc := Lib.hid hR3
  obtain ⟨n, hn⟩ : ∃ n, n = 1 + a % 12 := ⟨_, rfl⟩
  have hn1 : 1 ≤ n ∧ n ≤ 12 := by omega
  rw [← hn] at HMa HMb HMc
  have hz1 := sz_kys (b : Int) L
  have hz2 := sz_kys (b : Int) M
  have hz3 := sz_kys (b : Int) N
  have hr1 := bld_srt (kys (b : Int) (txts L))
  have hr2 := bld_srt (kys (b : Int) (txts M))
  have hr3 := bld_srt (kys (b : Int) (txts N))
  obtain ⟨S, hS⟩ : ∃ S, S = bld (kys (b : Int) (txts L)) := ⟨_, rfl⟩
  obtain ⟨T, hT⟩ : ∃ S, S = bld (kys (b : Int) (txts M)) := ⟨_, rfl⟩
  obtain ⟨U, hU⟩ : ∃ S, S = bld (kys (b : Int) (txts N)) := ⟨_, rfl⟩
  rw [← hS] at HMa hz1 hr1
  rw [← hT] at HMb hz2 hr2
  rw [← hU] at HMc hz3 hr3
  have HEq := Lib.hid (mrg_again hr1 hr2 hr3)
  have hzP := sz_mrg (sz_mrg hz1 hz2) hz3
  have hmem : ∀ x ∈ (skt n (mrg (mrg S T) U)).1, x ∈ ((skt n S).1 ++ (skt n T).1) ++ (skt n U).1 := fun x hx => by
    rw [List.mem_append, List.mem_append]
    rcases skt_parts n _ _ x hx with h | h
    · exact .inl (skt_parts n _ _ x h)
    · exact .inr h
  have HMe := Lib.hid (fun g h (X Y : List Ky) W h1 h2 => merge_any g h n (b : Int) (by omega) (skt n X) (skt n Y) (skt_len n X) (skt_len n Y) W h1 h2)
  have HKe := Lib.hid (fun (X : List Ky) g W h => keys_any g (n : Int) (b : Int) (skt n X) (by have := skt_len n X; omega) W h)
  have HQe := Lib.hid (fun (X : List Ky) g h W h1 h2 => equal_self g h (n : Int) (b : Int) (skt n X) (by have := skt_len n X; omega) W h1 h2)
  have HLe := Lib.hid (fun (X : List Ky) => Nat.le_trans (skt_len n X) (show n ≤ 1000 by omega))
  obtain ⟨P, hP⟩ : ∃ P, P = mrg (mrg S T) U := ⟨_, rfl⟩
  rw [← hP] at hzP hmem HEq
  have HPe := Lib.hid hP
  have HEn := Lib.hid (fun g W h => encode_any g (n : Int) (b : Int) (by omega) (by omega) (skt n P) (by have := skt_len n P; omega) (hzP.take n) W h)
  obtain ⟨F, hF⟩ : ∃ F, F = frE (n : Int) (b : Int) (skt n P) := ⟨_, rfl⟩
  rw [← hF] at HEn
  have HMm := Lib.hid hmem
  obtain ⟨l1, hl1⟩ : ∃ q, q = S.length := ⟨_, rfl⟩
  obtain ⟨l2, hl2'⟩ : ∃ q, q = T.length := ⟨_, rfl⟩
  obtain ⟨l3, hl3'⟩ : ∃ q, q = U.length := ⟨_, rfl⟩
  have HLa := Lib.hid hl1
  have HLb := Lib.hid hl2'
  have HLc := Lib.hid hl3'
  obtain ⟨la, hla⟩ : ∃ q, q = L.length := ⟨_, rfl⟩
  obtain ⟨lb, hlb⟩ : ∃ q, q = M.length := ⟨_, rfl⟩
  obtain ⟨lc, hlc⟩ : ∃ q, q = N.length := ⟨_, rfl⟩
  rw [← hla] at HMa ⊢
  rw [← hlb] at HMb ⊢
  rw [← hlc] at HMc ⊢
  have HB : Hid (Below w.heap.size w ((w.alloc (.cells #[.int .u8 (a : Int), .int .u8 (b : Int)] 23)).alloc (.cells #[.slice A la c, .slice B lb d, .slice C lc f] 46))) := Lib.hid (((Below.refl _ _).alloc (Nat.le_refl _) _).alloc (by simp) _)
  have HZs := Lib.hid (blk_under w (.cells #[.int .u8 (a : Int), .int .u8 (b : Int)] 23) (.cells #[.slice A la c, .slice B lb d, .slice C lc f] 46))
  have HZr := Lib.hid (blk_over w (.cells #[.int .u8 (a : Int), .int .u8 (b : Int)] 23) (.cells #[.slice A la c, .slice B lb d, .slice C lc f] 46))
  obtain ⟨w0, hw0⟩ : ∃ w0, w0 = ((w.alloc (.cells #[.int .u8 (a : Int), .int .u8 (b : Int)] 23)).alloc (.cells #[.slice A la c, .slice B lb d, .slice C lc f] 46)) := ⟨_, rfl⟩
  have HW0 := Lib.hid hw0
  have q0 := cell_of_row _ w.heap.size 0 _ _ _ HZs.out
  have q1 := cell_of_row _ w.heap.size 1 _ _ _ HZs.out
  have q2 := cell_of_row _ (w.heap.size + 1) 0 _ _ _ HZr.out
  simp at q0 q1 q2
  clear hR hR2 hR3 hl hl2 hl3 hs hs2 hs3 ha hb hn hn1 hz1 hz2 hz3 hr1 hr2 hr3 hS hT hU hzP hmem hP hF hl1 hl2' hl3' hla hlb hlc hw0
  go_enter Try.func6, Try.ntmps6
  go_wp2_with fail
  rw [← HW0.out] at HB HZs HZr ⊢
  clear q0 q1 q2
  with_reducible refine (HMa.out _ (HRa.out.below HB.out)).mono ?_
  rintro e w1 ⟨⟨g1, u1, rfl, hgw, hsk, hst⟩, hb1⟩
  obtain ⟨v1, rfl, A1, c1, rfl, _⟩ := hst
  rw [← HLa.out]
  have HL1 := Lib.hid (Nat.le_trans HB.out.size hgw)
  have hb2 := hb1.alloc hb1.size (.cells #[.int .i64 (n : Int), .int .i64 (b : Int), .slice A1 l1 c1] 28)
  replace HZs := Lib.hid (blk_below HZs.out hb2)
  replace HZr := Lib.hid (blk_below HZr.out hb2)
  replace HB := Lib.hid (bz_call HB.out hb2)
  have HK1 := Lib.hid (hsk.below ((Below.refl _ _).alloc (Nat.le_refl _) (.cells #[.int .i64 (n : Int), .int .i64 (b : Int), .slice A1 l1 c1] 28)))
  have q0 := cell_of_row _ w.heap.size 0 _ _ _ HZs.out
  have q1 := cell_of_row _ w.heap.size 1 _ _ _ HZs.out
  have q2 := cell_of_row _ (w.heap.size + 1) 1 _ _ _ HZr.out
  simp at q0 q1 q2
  clear hb1 hb2 hsk hgw
  go_wp2_with fail
  obtain ⟨w2, hw2⟩ : ∃ q, q = w1.alloc (.cells #[.int .i64 (n : Int), .int .i64 (b : Int), .slice A1 l1 c1] 28) := ⟨_, rfl⟩
  rw [← hw2] at HZs HZr HK1 HB ⊢
  clear hw2 q0 q1 q2
  with_reducible refine (HMb.out _ (HRb.out.below HB.out)).mono ?_
  rintro e w3 ⟨⟨g2, u2, rfl, hgw, hsk, hst⟩, hb1⟩
  obtain ⟨v2, rfl, A2, c2, rfl, _⟩ := hst
  rw [← HLb.out]
  have HNE12 := Lib.hid (Nat.ne_of_lt (Nat.lt_of_lt_of_le HK1.out.lt hgw))
  have HL2 := Lib.hid (Nat.le_trans HB.out.size hgw)
  have hb2 := hb1.alloc hb1.size (.cells #[.int .i64 (n : Int), .int .i64 (b : Int), .slice A2 l2 c2] 28)
  replace HZs := Lib.hid (blk_below HZs.out hb2)
  replace HZr := Lib.hid (blk_below HZr.out hb2)
  replace HK1 := Lib.hid (HK1.out.below hb2)
  replace HB := Lib.hid (bz_call HB.out hb2)
  have HK2 := Lib.hid (hsk.below ((Below.refl _ _).alloc (Nat.le_refl _) (.cells #[.int .i64 (n : Int), .int .i64 (b : Int), .slice A2 l2 c2] 28)))
  have q0 := cell_of_row _ w.heap.size 0 _ _ _ HZs.out
  have q1 := cell_of_row _ w.heap.size 1 _ _ _ HZs.out
  have q2 := cell_of_row _ (w.heap.size + 1) 2 _ _ _ HZr.out
  simp at q0 q1 q2
  clear hb1 hb2 hsk hgw
  go_wp2_with fail
  obtain ⟨w4, hw2⟩ : ∃ q, q = w3.alloc (.cells #[.int .i64 (n : Int), .int .i64 (b : Int), .slice A2 l2 c2] 28) := ⟨_, rfl⟩
  rw [← hw2] at HZs HZr HK1 HK2 HB ⊢
  clear hw2 q0 q1 q2
  with_reducible refine (HMc.out _ (HRc.out.below HB.out)).mono ?_
  rintro e w5 ⟨⟨g3, u3, rfl, hgw, hsk, hst⟩, hb1⟩
  obtain ⟨v3, rfl, A3, c3, rfl, _⟩ := hst
  rw [← HLc.out]
  have HNE13 := Lib.hid (Nat.ne_of_lt (Nat.lt_of_lt_of_le HK1.out.lt hgw))
  have HNE23 := Lib.hid (Nat.ne_of_lt (Nat.lt_of_lt_of_le HK2.out.lt hgw))
  have HL3 := Lib.hid (Nat.le_trans HB.out.size hgw)
  have hb2 := hb1.alloc hb1.size (.cells #[.int .i64 (n : Int), .int .i64 (b : Int), .slice A3 l3 c3] 28)
  replace HZs := Lib.hid (blk_below HZs.out hb2)
  replace HZr := Lib.hid (blk_below HZr.out hb2)
  replace HK1 := Lib.hid (HK1.out.below hb2)
  replace HK2 := Lib.hid (HK2.out.below hb2)
  replace HB := Lib.hid (bz_call HB.out hb2)
  have HK3 := Lib.hid (hsk.below ((Below.refl _ _).alloc (Nat.le_refl _) (.cells #[.int .i64 (n : Int), .int .i64 (b : Int), .slice A3 l3 c3] 28)))
  clear hb1 hb2 hsk hgw
  go_wp2_with fail
  obtain ⟨w6, hw2⟩ : ∃ q, q = w5.alloc (.cells #[.int .i64 (n : Int), .int .i64 (b : Int), .slice A3 l3 c3] 28) := ⟨_, rfl⟩
  rw [← hw2] at HZs HZr HK1 HK2 HK3 HB ⊢
  clear hw2
  clear HZs HZr
  with_reducible refine (known_any _).mono ?_
  rintro e w7 ⟨rfl, hb⟩
  replace HK1 := Lib.hid (HK1.out.below hb)
  replace HK2 := Lib.hid (HK2.out.below hb)
  replace HK3 := Lib.hid (HK3.out.below hb)
  replace HB := Lib.hid (bz_call HB.out hb)
  clear hb
  go_wp2_with fail
  with_reducible refine (clone_any g1 (n : Int) (b : Int) (skt n S) _ HK1.out).mono ?_
  rintro e w8 ⟨rfl, hsk, hb⟩
  obtain ⟨g4, hg⟩ : ∃ q, q = w7.heap.size := ⟨_, rfl⟩
  rw [← hg] at hsk ⊢
  have hgw := Nat.le_of_eq hg.symm
  have HNE14 := Lib.hid (Nat.ne_of_lt (Nat.lt_of_lt_of_le HK1.out.lt hgw))
  have HNE24 := Lib.hid (Nat.ne_of_lt (Nat.lt_of_lt_of_le HK2.out.lt hgw))
  have HNE34 := Lib.hid (Nat.ne_of_lt (Nat.lt_of_lt_of_le HK3.out.lt hgw))
  have HL4 := Lib.hid (Nat.le_trans HB.out.size hgw)
  replace HK1 := Lib.hid (HK1.out.below hb)
  replace HK2 := Lib.hid (HK2.out.below hb)
  replace HK3 := Lib.hid (HK3.out.below hb)
  replace HB := Lib.hid (bz_call HB.out hb)
  have HK4 := Lib.hid hsk
  clear hb hsk hg hgw
  go_wp2_with fail
  with_reducible refine (clone_any g3 (n : Int) (b : Int) (skt n U) _ HK3.out).mono ?_
  rintro e w9 ⟨rfl, hsk, hb⟩
  obtain ⟨g5, hg⟩ : ∃ q, q = w8.heap.size := ⟨_, rfl⟩
  rw [← hg] at hsk ⊢
  have hgw := Nat.le_of_eq hg.symm
  have HNE15 := Lib.hid (Nat.ne_of_lt (Nat.lt_of_lt_of_le HK1.out.lt hgw))
  have HNE25 := Lib.hid (Nat.ne_of_lt (Nat.lt_of_lt_of_le HK2.out.lt hgw))
  have HNE35 := Lib.hid (Nat.ne_of_lt (Nat.lt_of_lt_of_le HK3.out.lt hgw))
  have HNE45 := Lib.hid (Nat.ne_of_lt (Nat.lt_of_lt_of_le HK4.out.lt hgw))
  have HL5 := Lib.hid (Nat.le_trans HB.out.size hgw)
  replace HK1 := Lib.hid (HK1.out.below hb)
  replace HK2 := Lib.hid (HK2.out.below hb)
  replace HK3 := Lib.hid (HK3.out.below hb)
  replace HK4 := Lib.hid (HK4.out.below hb)
  replace HB := Lib.hid (bz_call HB.out hb)
  have HK5 := Lib.hid hsk
  clear hb hsk hg hgw
  go_wp2_with fail
  with_reducible refine (HMe.out g4 g2 S T _ HK4.out HK2.out).mono ?_
  rintro e w10 ⟨rfl, hsk, hg⟩
  rw [kep_mrg] at hsk
  replace HK1 := Lib.hid (HK1.out.gs HK4.out hg HNE14.out)
  replace HK2 := Lib.hid (HK2.out.gs HK4.out hg HNE24.out)
  replace HK3 := Lib.hid (HK3.out.gs HK4.out hg HNE34.out)
  replace HK5 := Lib.hid (HK5.out.gs HK4.out hg HNE45.out.symm)
  replace HB := Lib.hid (below_gs HB.out hg HL4.out (Nat.le_refl _))
  replace HK4 := Lib.hid hsk
  clear hsk hg
  go_wp2_with fail
  with_reducible refine (HMe.out g4 g3 (mrg S T) U _ HK4.out HK3.out).mono ?_
  rintro e w11 ⟨rfl, hsk, hg⟩
  rw [kep_mrg] at hsk
  rw [← HPe.out] at hsk
  replace HK1 := Lib.hid (HK1.out.gs HK4.out hg HNE14.out)
  replace HK2 := Lib.hid (HK2.out.gs HK4.out hg HNE24.out)
  replace HK3 := Lib.hid (HK3.out.gs HK4.out hg HNE34.out)
  replace HK5 := Lib.hid (HK5.out.gs HK4.out hg HNE45.out.symm)
  replace HB := Lib.hid (below_gs HB.out hg HL4.out (Nat.le_refl _))
  replace HK4 := Lib.hid hsk
  clear hsk hg
  go_wp2_with fail
  with_reducible refine (HMe.out g5 g1 U S _ HK5.out HK1.out).mono ?_
  rintro e w12 ⟨rfl, hsk, hg⟩
  rw [kep_mrg] at hsk
  replace HK1 := Lib.hid (HK1.out.gs HK5.out hg HNE15.out)
  replace HK2 := Lib.hid (HK2.out.gs HK5.out hg HNE25.out)
  replace HK3 := Lib.hid (HK3.out.gs HK5.out hg HNE35.out)
  replace HK4 := Lib.hid (HK4.out.gs HK5.out hg HNE45.out)
  replace HB := Lib.hid (below_gs HB.out hg HL5.out (Nat.le_refl _))
  replace HK5 := Lib.hid hsk
  clear hsk hg
  go_wp2_with fail
  with_reducible refine (HMe.out g5 g2 (mrg U S) T _ HK5.out HK2.out).mono ?_
  rintro e w13 ⟨rfl, hsk, hg⟩
  rw [kep_mrg] at hsk
  replace HK1 := Lib.hid (HK1.out.gs HK5.out hg HNE15.out)
  replace HK2 := Lib.hid (HK2.out.gs HK5.out hg HNE25.out)
  replace HK3 := Lib.hid (HK3.out.gs HK5.out hg HNE35.out)
  replace HK4 := Lib.hid (HK4.out.gs HK5.out hg HNE45.out)
  replace HB := Lib.hid (below_gs HB.out hg HL5.out (Nat.le_refl _))
  replace HK5 := Lib.hid hsk
  clear hsk hg
  go_wp2_with fail
  with_reducible refine (HMe.out g5 g4 (mrg (mrg U S) T) P _ HK5.out HK4.out).mono ?_
  rintro e w14 ⟨rfl, hsk, hg⟩
  rw [kep_mrg] at hsk
  rw [HEq.out] at hsk
  replace HK1 := Lib.hid (HK1.out.gs HK5.out hg HNE15.out)
  replace HK2 := Lib.hid (HK2.out.gs HK5.out hg HNE25.out)
  replace HK3 := Lib.hid (HK3.out.gs HK5.out hg HNE35.out)
  replace HK4 := Lib.hid (HK4.out.gs HK5.out hg HNE45.out)
  replace HB := Lib.hid (below_gs HB.out hg HL5.out (Nat.le_refl _))
  replace HK5 := Lib.hid hsk
  clear hsk hg
  go_wp2_with fail
  with_reducible refine (HQe.out P g4 g5 _ HK4.out HK5.out).mono ?_
  rintro e w15 ⟨rfl, hb⟩
  replace HK1 := Lib.hid (HK1.out.below hb)
  replace HK2 := Lib.hid (HK2.out.below hb)
  replace HK3 := Lib.hid (HK3.out.below hb)
  replace HK4 := Lib.hid (HK4.out.below hb)
  replace HK5 := Lib.hid (HK5.out.below hb)
  replace HB := Lib.hid (bz_call HB.out hb)
  clear hb
  go_wp2_with fail
  with_reducible refine (HEn.out g4 _ HK4.out).mono ?_
  rintro e w16 ⟨rfl, hb⟩
  replace HK1 := Lib.hid (HK1.out.below hb)
  replace HK2 := Lib.hid (HK2.out.below hb)
  replace HK3 := Lib.hid (HK3.out.below hb)
  replace HK4 := Lib.hid (HK4.out.below hb)
  replace HK5 := Lib.hid (HK5.out.below hb)
  replace HB := Lib.hid (bz_call HB.out hb)
  clear hb
  go_wp2_with fail
  with_reducible refine (HEn.out g5 _ HK5.out).mono ?_
  rintro e w17 ⟨rfl, hb⟩
  replace HK1 := Lib.hid (HK1.out.below hb)
  replace HK2 := Lib.hid (HK2.out.below hb)
  replace HK3 := Lib.hid (HK3.out.below hb)
  replace HK4 := Lib.hid (HK4.out.below hb)
  replace HK5 := Lib.hid (HK5.out.below hb)
  replace HB := Lib.hid (bz_call HB.out hb)
  clear hb
  go_wp2_with fail
  obtain ⟨XP, hXP⟩ : ∃ q, q = (skt n P).1 := ⟨_, rfl⟩
  obtain ⟨Xa, hXa⟩ : ∃ q, q = (skt n S).1 := ⟨_, rfl⟩
  obtain ⟨Xb, hXb⟩ : ∃ q, q = (skt n T).1 := ⟨_, rfl⟩
  obtain ⟨Xc, hXc⟩ : ∃ q, q = (skt n U).1 := ⟨_, rfl⟩
  have HKqP := Lib.hid (fun g W h => HKe.out P g W h)
  have hleP := HLe.out P
  rw [← hXP] at HKqP hleP
  obtain ⟨xP, hxP⟩ : ∃ q, q = XP.length := ⟨_, rfl⟩
  have HXP := Lib.hid hxP
  rw [← hxP] at HKqP hleP
  have HKqa := Lib.hid (fun g W h => HKe.out S g W h)
  have hlea := HLe.out S
  rw [← hXa] at HKqa hlea
  obtain ⟨xa, hxa⟩ : ∃ q, q = Xa.length := ⟨_, rfl⟩
  have HXa := Lib.hid hxa
  rw [← hxa] at HKqa hlea
  have HKqb := Lib.hid (fun g W h => HKe.out T g W h)
  have hleb := HLe.out T
  rw [← hXb] at HKqb hleb
  obtain ⟨xb, hxb⟩ : ∃ q, q = Xb.length := ⟨_, rfl⟩
  have HXb := Lib.hid hxb
  rw [← hxb] at HKqb hleb
  have HKqc := Lib.hid (fun g W h => HKe.out U g W h)
  have hlec := HLe.out U
  rw [← hXc] at HKqc hlec
  obtain ⟨xc, hxc⟩ : ∃ q, q = Xc.length := ⟨_, rfl⟩
  have HXc := Lib.hid hxc
  rw [← hxc] at HKqc hlec
  have HMm := Lib.hid HMm.out
  rw [← hXP, ← hXa, ← hXb, ← hXc] at HMm
  clear hXP hXa hXb hXc hxP hxa hxb hxc
  with_reducible refine (HKqP.out g4 _ HK4.out).mono ?_
  rintro e w18 ⟨⟨vp, rfl, ho⟩, hb⟩
  replace HK1 := Lib.hid (HK1.out.below hb)
  replace HK2 := Lib.hid (HK2.out.below hb)
  replace HK3 := Lib.hid (HK3.out.below hb)
  replace HK4 := Lib.hid (HK4.out.below hb)
  replace HK5 := Lib.hid (HK5.out.below hb)
  replace HB := Lib.hid (bz_call HB.out hb)
  have HVp := Lib.hid (SlV.own ho)
  clear ho hb
  obtain ⟨Ap, cp, rfl, _⟩ := HVp.out
  rw [← HXP.out] at HVp ⊢
  go_wp2_with fail
  with_reducible refine (HKqa.out g1 _ HK1.out).mono ?_
  rintro e w19 ⟨⟨va, rfl, ho⟩, hb⟩
  have HOa := Lib.hid ho
  have HDa := Lib.hid hb
  clear ho hb
  obtain ⟨Aa, ca, rfl⟩ := own_slk HOa.out
  go_wp2_with fail
  with_reducible refine (HKqb.out g2 _ (HK2.out.below HDa.out)).mono ?_
  rintro e w20 ⟨⟨vb, rfl, ho⟩, hb⟩
  replace HOa := Lib.hid (own_below HOa.out hb)
  have HDb := Lib.hid (bz_call HDa.out hb)
  obtain ⟨Ab, cb, rfl, hcb, hnb, hrb⟩ := SlV.own ho
  rw [← HXb.out] at hcb ⊢
  have HRb2 := Lib.hid hrb
  have HNb := Lib.hid hnb
  clear ho hb hrb hnb
  go_wp2_with (at_builtin; refine wpList_append_ky rfl (.tmp 101) (.tmp 103) rfl w18.heap.size _ xa Xa rfl HOa.out Ab xb cb rfl Xb HXb.out.symm HNb.out hcb HRb2.out (by omega) HDb.out.size ?_; intro v2 w2a hown hg; have HDc := Lib.hid (below_grownk (B := w18.heap.size) (a := w18) HDb.out HOa.out hg (Nat.le_refl _) (Nat.le_refl _)); have HOb := Lib.hid hown; clear hown hg)
  with_reducible refine (HKqc.out g3 _ (HK3.out.below HDc.out)).mono ?_
  rintro e w21 ⟨⟨vc, rfl, ho⟩, hb⟩
  replace HOb := Lib.hid (own_below HOb.out hb)
  have HDd := Lib.hid (bz_call HDc.out hb)
  obtain ⟨Ac, cc, rfl, hcc, hnc, hrc⟩ := SlV.own ho
  rw [← HXc.out] at hcc ⊢
  have HRc2 := Lib.hid hrc
  have HNc := Lib.hid hnc
  clear ho hb hrc hnc
  obtain ⟨xab, hxab⟩ : ∃ q, q = xa + xb := ⟨_, rfl⟩
  rw [← hxab] at HOb
  have hxab2 : xab ≤ 2000 := by omega
  have HXab := Lib.hid hxab
  clear hxab
  obtain ⟨A5, c5, rfl⟩ := own_slk HOb.out
  go_wp2_with (at_builtin; refine wpList_append_ky rfl (.tmp 104) (.tmp 106) rfl w18.heap.size _ xab (Xa ++ Xb) rfl HOb.out Ac xc cc rfl Xc HXc.out.symm HNc.out hcc HRc2.out (by omega) HDd.out.size ?_; intro v3 w3a hown hg; have HDe := Lib.hid (below_grownk (B := w18.heap.size) (a := w18) HDd.out HOb.out hg (Nat.le_refl _) (Nat.le_refl _)); have HVq := Lib.hid (SlV.own hown); clear hown hg)
  replace HVp := Lib.hid (HVp.out.below HDe.out)
  replace HB := Lib.hid (bz_call HB.out HDe.out)
  obtain ⟨XQ, hXQ⟩ : ∃ q, q = Xa ++ Xb ++ Xc := ⟨_, rfl⟩
  rw [← hXQ] at HMm HVq
  obtain ⟨Aq, cq, rfl, _⟩ := HVq.out
  have hq1 : XQ.length ≤ 4000 := by rw [hXQ, List.length_append, List.length_append, ← HXa.out, ← HXb.out, ← HXc.out]; omega
  obtain ⟨xq, hxq⟩ : ∃ q, q = XQ.length := ⟨_, rfl⟩
  have HXQ := Lib.hid hxq
  rw [← hxq] at HVq hq1 ⊢
  clear hXQ hxq
  clear HK1 HK2 HK3 HOa HOb HDa HDb HDc HDd HDe
  try clear HRb2
  try clear HRc2
  try clear HNb
  try clear HNc
  try clear HXab
  try clear HKqP
  try clear HKqa
  try clear HKqb
  try clear HKqc
  try clear HXa
  try clear HXb
  try clear HXc
  try clear HMa
  try clear HMb
  try clear HMc
  try clear HRa
  try clear HRb
  try clear HRc
  try clear HEq
  try clear HMe
  try clear HKe
  try clear HQe
  try clear HLe
  try clear HPe
  try clear HEn
  try clear HLa
  try clear HLb
  try clear HLc
  try clear HNE12
  try clear HNE13
  try clear HNE23
  try clear HNE14
  try clear HNE24
  try clear HNE34
  try clear HNE15
  try clear HNE25
  try clear HNE35
  try clear HNE45
  try clear HL1
  try clear HL2
  try clear HL3
  try clear HL4
  try clear HL5
  try clear hlea
  try clear hleb
  try clear hlec
  try clear hcb
  try clear hcc
  try clear hxab2
  go_loopw [15] (fun iv wr => ∃ i : Nat, i ≤ xP ∧ iv = .int .i64 (i : Int) ∧ Hid (SlV wr (.slice Ap xP cp) XP) ∧ Hid (SlV wr (.slice Aq xq cq) XQ) ∧ Hid (Below w.heap.size w wr)) (fun iv _ => xP - (intOf iv).toNat)
  case atStart => exact ⟨0, Nat.zero_le _, rfl, HVp, HVq, HB⟩
  case round =>
    obtain ⟨i, hi, rfl, HV1, HV2, HBr⟩ := hrel
    by_cases hlt : i < xP
    · have hi2 : i < XP.length := by rw [← HXP.out]; exact hlt
      have HMi := Lib.hid (anK_all (HMm.out XP[i] (List.getElem_mem hi2)))
      obtain ⟨⟨kh, kt⟩, hk⟩ : ∃ k, k = XP[i] := ⟨_, rfl⟩
      have HKi := Lib.hid hk
      rw [← hk] at HMi
      have hiI : (i : Int) < (xP : Int) := by omega
      have hi0 : (0 : Int) ≤ (i : Int) := by omega
      have hwi : IntKind.i64.wrap ((i : Int) + 1) = (i : Int) + 1 := by simp only [IntKind.wrap_i64]; omega
      clear hk
      go_wp2_with fail
      go_loopw [16, 17] (fun fv jv wr => ∃ j : Nat, j ≤ xq ∧ fv = .bool (anK XQ (kh, kt) j) ∧ jv = .int .i64 (j : Int) ∧ Hid (SlV wr (.slice Ap xP cp) XP) ∧ Hid (SlV wr (.slice Aq xq cq) XQ) ∧ Hid (Below w.heap.size w wr)) (fun _ jv _ => xq - (intOf jv).toNat)
      case atStart => exact ⟨0, Nat.zero_le _, rfl, rfl, HV1, HV2, HBr⟩
      case round =>
        obtain ⟨j, hj, rfl, rfl, HV1, HV2, HBr⟩ := hrel
        by_cases hjlt : j < xq
        · have hj2 : j < XQ.length := by rw [← HXQ.out]; exact hjlt
          have HS := Lib.hid (anK_succ XQ (kh, kt) j hj2)
          obtain ⟨A7, c7, e7, _, _, hr1⟩ := HV1.out
          obtain ⟨A8, c8, e8, _, _, hr2⟩ := HV2.out
          simp only [Value.slice.injEq] at e7 e8
          obtain ⟨rfl, e9, rfl⟩ := e7
          clear e9
          obtain ⟨rfl, e9, rfl⟩ := e8
          clear e9
          obtain ⟨b1, o1, rfl, hb1, h0, h1⟩ := hr1.at i hi2
          obtain ⟨b2, o2, rfl, hb2, g0, g1⟩ := hr2.at j hj2
          rw [← HKi.out] at h0 h1
          obtain ⟨⟨y1, y2⟩, hy⟩ : ∃ y, y = XQ[j] := ⟨_, rfl⟩
          rw [← hy] at g0 g1 HS
          dsimp only at h0 h1 g0 g1
          obtain ⟨p, hp⟩ : ∃ p, p = anK XQ (kh, kt) j := ⟨_, rfl⟩
          rw [← hp] at HS ⊢
          have hjI : (j : Int) < (xq : Int) := by omega
          have hj0 : (0 : Int) ≤ (j : Int) := by omega
          have hwj : IntKind.i64.wrap ((j : Int) + 1) = (j : Int) + 1 := by simp only [IntKind.wrap_i64]; omega
          clear hy hp hr1 hr2 hj2
          cases p with
          | true =>
            have HS2 : Hid (anK XQ (kh, kt) (j + 1) = true) := Lib.hid (by rw [HS.out]; rfl)
            go_wp2_with fail
            go_quiet (fail)
            go_wp2_with fail
            go_roundw
            case rel => exact ⟨j + 1, by omega, by rw [HS2.out], by go_num, HV1, HV2, Lib.hid (below_drewN HBr.out _)⟩
            case measure => simp [intOf] <;> omega
          | false =>
            by_cases hxy : y1 = kh ∧ y2 = kt
            · obtain ⟨rfl, rfl⟩ := hxy
              have HS2 : Hid (anK XQ (y1, y2) (j + 1) = true) := Lib.hid (by rw [HS.out]; simp)
              go_wp2_with fail
              go_quiet (fail)
              go_wp2_with fail
              go_roundw
              case rel => exact ⟨j + 1, by omega, by rw [HS2.out], by go_num, HV1, HV2, Lib.hid (below_drewN HBr.out _)⟩
              case measure => simp [intOf] <;> omega
            · have HS2 : Hid (anK XQ (kh, kt) (j + 1) = false) := Lib.hid (by rw [HS.out, Bool.false_or]; exact decide_eq_false (fun e => hxy ⟨congrArg Prod.fst e, congrArg Prod.snd e⟩))
              by_cases hx1 : y1 = kh
              · subst hx1
                have hx2 : (y2.toList == kt.toList) = false := (Lib.bytes_beq_false_iff y2 kt).2 (fun e => hxy ⟨rfl, e⟩)
                clear hxy
                go_wp2_with fail
                go_quiet (fail)
                go_wp2_with fail
                go_roundw
                case rel => exact ⟨j + 1, by omega, by rw [HS2.out], by go_num, HV1, HV2, Lib.hid (below_drewN HBr.out _)⟩
                case measure => simp [intOf] <;> omega
              · have hx1b : (y1 == kh) = false := by simpa using hx1
                clear hxy
                go_wp2_with fail
                go_quiet (fail)
                go_wp2_with fail
                go_roundw
                case rel => exact ⟨j + 1, by omega, by rw [HS2.out], by go_num, HV1, HV2, Lib.hid (below_drewN HBr.out _)⟩
                case measure => simp [intOf] <;> omega
        · obtain rfl : j = xq := by omega
          have HF : Hid (anK XQ (kh, kt) j = true) := Lib.hid (by rw [HXQ.out]; exact HMi.out)
          rw [HF.out]
  
          go_wp2_with fail
          go_roundw
          case rel => exact ⟨i + 1, by omega, by go_num, HV1, HV2, HBr⟩
          case measure => simp [intOf] <;> omega
    · obtain rfl : i = xP := by omega
      go_wp2_with fail
      go_ret
      exact ⟨rfl, HBr.out⟩
set_option maxRecDepth 100000 in
theorem lifted (os : Os) (started : os.Started) (H : Type) (enc : TypeId × Value → H) :
    ReturnsInHanded {} Try.checked os 6 .any (Rows.bottomkPartsSpec.pre6 enc Try.prog Try.f6 Rows.bottomkPartsRow.domain false) (Rows.bottomkPartsSpec.post enc Try.prog Try.f6 false true false false) := by
  refine returnsInHanded_of_change (C := Try.checked) own started (by kernel_rfl) Try.func6
    (ChangeSpec.witness6 (enc := enc) (C := Try.checked) false ⟨#[], #[.agg #[.int .u8 0, .int .u8 0], .agg #[.slice none 0 0, .slice none 0 0, .slice none 0 0]], []⟩ 8 (by kernel_rfl) (by kernel_rfl) (by kernel_rfl) (by kernel_rfl)) ?_
  intro W base args ds gs before hval0 hW _ _
  have hval : ∀ (j : Nat) t v, Try.f6.params[j]? = some t → args[j]? = some v → Value.okWide Try.prog W .any base t v := hval0
  have hW' := hW
  obtain ⟨p, q, hA0, hV, rfl, _, _⟩ := hW
  have hA : DataW.TrodAll enc Try.prog W 0 (fun _ => true) true Try.f6.params.toList args.toList ds p := hA0
  rw [Try.params6] at hA hval
  obtain ⟨v0, vs0, d0, ds0, p0, q0, hargs0, rfl, rfl, h0, r0⟩ := trodAll_cons hA
  obtain ⟨v1, vs1, d1, ds1, p1, q1, hargs1, rfl, rfl, h1, r1⟩ := trodAll_cons r0
  obtain ⟨rfl, rfl, rfl⟩ := trodAll_nil r1
  obtain rfl : args = #[v0, v1] := by cases args; simp_all
  obtain ⟨rfl, rfl⟩ := trodVars_none hV
  obtain ⟨a0, b0, rfl, rfl, rfl, ha0, hb0⟩ := open_setting (hval 0 23 v0 rfl rfl) h0
  have lt1 : ∀ x ∈ p1, x.block < W.heap.size := fun x hx => hW'.lt x (by simp [hx])
  obtain ⟨A1, c1, L1, B1, d1x, M1, C1, e1x, N1, rfl, ⟨hL1, hs1, hR1⟩, ⟨hM1, ht1, hS1⟩, hN1, hu1, hT1⟩ := open_u8x3 (hval 1 46 v1 rfl rfl) h1 lt1
  clear hA0 hval0
  simp only [List.append_nil] at hW'
  refine (walk W a0 b0 ha0 hb0 A1 c1 L1 hL1 hs1 hR1 B1 d1x M1 hM1 ht1 hS1 C1 e1x N1 hN1 hu1 hT1).mono fun e W' ⟨he, hb⟩ => ?_
  subst he
  exact ⟨_, rfl, post_mem hW' hb (fun _ _ _ => trodAll_mk1 (shut_bool Try.underlying4 _)) (fun sp hsp => by
    have t := trodAll_cons_mk (shut_setting ha0 hb0 _ sp) (trodAll_cons_mk (carry laidOut (by kernel_rfl) (of_decide_eq_true (by kernel_rfl)) h1 hb lt1 sp (fun x hx => hsp x (by simp [hx]))) trodAll_mk0)
    simp only [List.append_nil] at t
    exact t) (fun _ => rfl) (ok_one (by kernel_rfl) rfl (okWide_bool_mk Try.underlying4 _))⟩

theorem proved : Rows.BottomkPartsSaid :=
  OpenClaim.holds_of_wide 6 Try.f6 rfl rfl rfl rfl rfl rfl rfl ⟨rfl, rfl, rfl, rfl, rfl⟩ rfl rfl rfl rfl rfl (by kernel_rfl) Try.func6 (by kernel_rfl)
    (of_decide_eq_true (by kernel_rfl)) (by unfold Func.isWrapper; first | (rw [if_pos (by decide +kernel)]; kernel_rfl) | (rw [if_neg (by decide +kernel)]; exact ⟨rfl, rfl⟩))
    (fun os started H enc _ => lifted os started H enc)

end Go.Proofs.Ytajainkaomkbjaa.lawParts
