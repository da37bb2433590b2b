/- BottomkNil: for any two settings and any key the law returns true. -/
import Derived.Test.YthajdlpljliefaaCd
import Derived.Test.YthajdlpljliefaaBv
namespace Go.Proofs.Ythajdlpljliefaa.lawNil
open Go.Proofs.Ythajdlpljliefaa Go.ChangeShapes Go.WideShapes Go.ChangeAt Go.RowKit Go.Joins Bt

theorem laidOut : laidOutB Try.prog = true := by kernel_rfl
theorem ins_nil (k : Ky) : ins [] k = [k] := by
  unfold ins
  rw [if_neg (by simp)]
  simp
theorem bld_one (sd : Int) (t : ByteArray) : bld (kys sd [t]) = [kyO sd t] := by
  rw [show kys sd [t] = [] ++ [kyO sd t] from rfl, bld_snoc]
  exact ins_nil _
theorem skt_one (n : Nat) (k : Ky) (h : 1 ≤ n) : skt n [k] = ([k], false) := by
  unfold skt
  rw [List.take_of_length_le (by simpa using h), decide_eq_false (by simp; omega)]
theorem txts_one : txts [1] = [txtN 1] := rfl
theorem rd_one (w : World) : Rd u8N (w.alloc (.cells #[.int .u8 1] 5)) (some ⟨w.heap.size, 0, none⟩) [1] := fun j hj => ⟨_, _, rfl, by simp, by
  obtain rfl : j = 0 := by simpa using hj
  rw [cell_of_row _ _ _ _ _ _ (Deep.blk_alloc_new w _)]
  rfl⟩

set_option maxRecDepth 100000 in
set_option maxHeartbeats 8000000 in
theorem walk_same (w : World) (a b : Nat) (ha : a ≤ 255) (hb : b ≤ 255) (a2 b2 : Nat) (ha2 : a2 ≤ 255) (hb2 : b2 ≤ 255) (t : ByteArray) (hne : 1 + a % 12 = 1 + a2 % 12 ∧ b = b2) :
    Calls Try.prog 11 #[.agg #[.int .u8 (a : Int), .int .u8 (b : Int)], .agg #[.int .u8 (a2 : Int), .int .u8 (b2 : Int)], .string t] w fun e w' => e = .returned (.bool true) ∧ Below w.heap.size w w' := by
  have HMd1 := Lib.hid (fun W => made_any a b ha hb none 0 [] (by simp) (fun x hx => absurd hx (by simp)) W Rd.nil)
  have HMd2 := Lib.hid (fun W A hR => made_any a2 b2 ha2 hb2 A 1 [1] (by simp) (fun x hx => by simp at hx; omega) W hR)
  rw [show txts [] = [] from rfl, show ∀ s : Int, bld (kys s []) = [] from fun _ => rfl, skt_nil] at HMd1
  rw [txts_one, bld_one, skt_one _ _ (by omega)] at HMd2
  simp only [List.length_nil, List.length_cons, Nat.zero_add] at HMd1 HMd2
  obtain ⟨n1, hn1⟩ : ∃ n1, n1 = 1 + a % 12 := ⟨_, rfl⟩
  obtain ⟨n2, hn2⟩ : ∃ n2, n2 = 1 + a2 % 12 := ⟨_, rfl⟩
  have hn11 : 1 ≤ n1 ∧ n1 ≤ 12 := by omega
  have hn22 : 1 ≤ n2 ∧ n2 ≤ 12 := by omega
  rw [← hn1] at HMd1
  rw [← hn2] at HMd2
  obtain ⟨⟨kh, kt⟩, hk0⟩ : ∃ k0, k0 = kyO (b2 : Int) (txtN 1) := ⟨_, rfl⟩
  rw [← hk0] at HMd2
  rw [← hn1, ← hn2] at hne
  have HB0 : Hid (Below w.heap.size w ((w.alloc (.cells #[.int .u8 (a : Int), .int .u8 (b : Int)] 23)).alloc (.cells #[.int .u8 (a2 : Int), .int .u8 (b2 : Int)] 23))) := Lib.hid (((Below.refl _ _).alloc (Nat.le_refl _) _).alloc (by simp) _)
  have HG0 := Lib.hid (blk_under w (.cells #[.int .u8 (a : Int), .int .u8 (b : Int)] 23) (.cells #[.int .u8 (a2 : Int), .int .u8 (b2 : Int)] 23))
  have HG1 := Lib.hid (blk_over w (.cells #[.int .u8 (a : Int), .int .u8 (b : Int)] 23) (.cells #[.int .u8 (a2 : Int), .int .u8 (b2 : Int)] 23))
  obtain ⟨hne1, hne2⟩ := hne
  have hd1 : ((n1 : Int) != (n2 : Int)) = false := by simp [hne1]
  have hd2 : ((b : Int) != (b2 : Int)) = false := by simp [hne2]
  have he : ∀ (W : World) (g2 : Nat), Sk W g2 (n2 : Int) (b2 : Int) ([(kh, kt)], false) → Sk W g2 (n1 : Int) (b : Int) ([(kh, kt)], false) := fun W g2 h => by rw [hne1, hne2]; exact h
  have hkp : kep n1 (mrg [] [(kh, kt)]) (false || false) = ([(kh, kt)], false) := by rw [mrg_nil_l]; unfold kep; rw [if_neg (by simp; omega)]; rfl
  have HUn := Lib.hid (fun g1 g2 W h1 h2 => (union_exact g1 g2 n1 (b : Int) (by omega) ([], false) ([(kh, kt)], false) (Nat.zero_le _) hn11.1 (by rw [hkp]) W h1 (he _ _ h2)).mono (fun e w' h => (⟨⟨_, h.1⟩, h.2⟩ : (∃ v, e = .returned (.tuple #[v, .int .i64 0])) ∧ Below W.heap.size W w')))
  have HOv := Lib.hid (fun g1 g2 W h1 h2 => overlap_one g1 g2 n1 (b : Int) hn11.1 (by omega) kh kt W h1 (he _ _ h2))
  have HMe := Lib.hid (fun g g2 W h1 h2 => (merge_any g g2 n1 (b : Int) (by omega) ([], false) ([(kh, kt)], false) (Nat.zero_le _) hn11.1 W h1 (he _ _ h2)).mono (fun e w' h => (⟨h.1, h.2.2⟩ : e = .returned (.int .i64 0) ∧ Gs g W w')))
  have HEq := Lib.hid (fun g1 g2 W h1 h2 => equal_any g1 g2 n1 (b : Int) n1 (b : Int) ([], false) ([(kh, kt)], false) (Nat.zero_le _) W h1 (he _ _ h2))
  simp only [reduceCtorEq, and_false, decide_false] at HEq
  clear hkp he hne1 hne2
  clear hn1 hn2 hk0 ha hb ha2 hb2
  go_enter Try.func11, Try.ntmps11
  go_wp2_with fail
  obtain ⟨w0, hw0⟩ : ∃ w0, w0 = ((w.alloc (.cells #[.int .u8 (a : Int), .int .u8 (b : Int)] 23)).alloc (.cells #[.int .u8 (a2 : Int), .int .u8 (b2 : Int)] 23)) := ⟨_, rfl⟩
  rw [← hw0] at HB0 HG0 HG1 ⊢
  clear hw0
  have hl0 : w.heap.size < w0.heap.size := (Array.getElem?_eq_some_iff.1 HG0.out).1
  have hl1 : w.heap.size + 1 < w0.heap.size := (Array.getElem?_eq_some_iff.1 HG1.out).1
  have HBK := Lib.hid (fun (W : World) (h : Below w0.heap.size w0 W) => HB0.out.trans (h.mono HB0.out.size))
  with_reducible refine (HMd1.out _).mono ?_
  rintro e w1 ⟨⟨g1, u1, rfl, hgw, hsk, ⟨v1, rfl, ⟨A1, c1, rfl, _⟩⟩⟩, hb1⟩
  simp only [List.length_nil]
  obtain ⟨o1, ho1⟩ : ∃ o1, o1 = Obj.cells #[.int .i64 (n1 : Int), .int .i64 (b : Int), .slice A1 0 c1] 28 := ⟨_, rfl⟩
  have HD1 := Lib.hid (hb1.alloc hb1.size o1)
  have HK1 := Lib.hid (hsk.below ((Below.refl _ _).alloc (Nat.le_refl _) o1))
  have HZ1 := Lib.hid (Deep.blk_alloc_new w1 o1)
  have hQ0 := cell_of_row _ (w.heap.size + 1) 0 _ _ _ ((HD1.out.block _ hl1).trans HG1.out)
  have hQ1 := cell_of_row _ (w.heap.size + 1) 1 _ _ _ ((HD1.out.block _ hl1).trans HG1.out)
  rw [ho1] at HD1 HK1 HZ1 hQ0 hQ1
  simp at hQ0 hQ1
  clear hb1 hsk ho1
  go_wp2_with fail
  obtain ⟨w2, hw2⟩ : ∃ w2, w2 = w1.alloc (.cells #[.int .i64 (n1 : Int), .int .i64 (b : Int), .slice A1 0 c1] 28) := ⟨_, rfl⟩
  rw [← hw2] at HD1 HK1 HZ1 hQ0 hQ1 ⊢
  obtain ⟨z1, hz1⟩ : ∃ z1, z1 = w1.heap.size := ⟨_, rfl⟩
  have hsz : w2.heap.size = z1 + 1 := by rw [hw2, hz1]; simp
  rw [← hz1] at HZ1 ⊢
  have hR1 : Rd u8N (w2.alloc (.cells #[.int .u8 1] 5)) (some ⟨z1 + 1, 0, none⟩) [1] := by rw [← hsz]; exact rd_one w2
  have HRu := Lib.hid hR1
  clear hw2 hz1 hQ0 hQ1 hsz hR1
  with_reducible refine (HMd2.out _ _ HRu.out).mono ?_
  have HE2 : Hid (Below w2.heap.size w2 (w2.alloc (.cells #[.int .u8 1] 5))) := Lib.hid ((Below.refl _ _).alloc (Nat.le_refl _) _)
  rintro e w3 ⟨⟨g2, u2, rfl, hgw2, hsk, ⟨v2, rfl, ⟨A2, c2, rfl, _⟩⟩⟩, hb2⟩
  simp only [List.length_nil, List.length_cons, Nat.zero_add]
  obtain ⟨o2, ho2⟩ : ∃ o2, o2 = Obj.cells #[.int .i64 (n2 : Int), .int .i64 (b2 : Int), .slice A2 1 c2] 28 := ⟨_, rfl⟩
  have hE3 := HE2.out.trans (hb2.mono HE2.out.size)
  have HE4 := Lib.hid (hE3.alloc hE3.size o2)
  have HK2 := Lib.hid (hsk.below ((Below.refl _ _).alloc (Nat.le_refl _) o2))
  have HZ2 := Lib.hid (Deep.blk_alloc_new w3 o2)
  have HK1 := Lib.hid (HK1.out.below HE4.out)
  have HZ1 := Lib.hid ((HE4.out.block _ (Array.getElem?_eq_some_iff.1 HZ1.out).1).trans HZ1.out)
  have HB4 := Lib.hid (HBK.out _ (HD1.out.trans (HE4.out.mono HD1.out.size)))
  rw [ho2] at HE4 HK1 HK2 HZ1 HZ2 HB4
  clear hb2 hsk ho2 hE3
  go_wp2_with fail
  obtain ⟨w4, hw4⟩ : ∃ w4, w4 = w3.alloc (.cells #[.int .i64 (n2 : Int), .int .i64 (b2 : Int), .slice A2 1 c2] 28) := ⟨_, rfl⟩
  rw [← hw4] at HE4 HK1 HK2 HZ1 HZ2 HB4 ⊢
  obtain ⟨z2, hz2⟩ : ∃ z2, z2 = w3.heap.size := ⟨_, rfl⟩
  rw [← hz2] at HZ2 ⊢
  clear hw4 hz2
  have HF := Lib.hid (fun (W : World) (h : Below w4.heap.size w4 W) => HB4.out.trans (h.mono HB4.out.size))
  have HKa := Lib.hid (fun (W : World) (h : Below w4.heap.size w4 W) => HK1.out.below h)
  have HKb := Lib.hid (fun (W : World) (h : Below w4.heap.size w4 W) => HK2.out.below h)
  refine (known_any _).mono ?_
  rintro e w5 ⟨rfl, hb⟩
  have HD5 := Lib.hid hb
  have hZ1 := (hb.block _ (Array.getElem?_eq_some_iff.1 HZ1.out).1).trans HZ1.out
  have hZ2 := (hb.block _ (Array.getElem?_eq_some_iff.1 HZ2.out).1).trans HZ2.out
  have r0 := cell_of_row w5 z1 0 _ _ _ hZ1
  have r1 := cell_of_row w5 z1 1 _ _ _ hZ1
  have s0 := cell_of_row w5 z2 0 _ _ _ hZ2
  have s1 := cell_of_row w5 z2 1 _ _ _ hZ2
  simp at r0 r1 s0 s1
  clear hb hZ1 hZ2
  go_wp2_with fail
  with_reducible refine (HUn.out _ _ _ (HKa.out _ HD5.out) (HKb.out _ HD5.out)).mono ?_
  rintro e w6 ⟨⟨x6, rfl⟩, hb⟩
  have HD6 := Lib.hid (HD5.out.trans (hb.mono HD5.out.size))
  clear hb r0 r1 s0 s1
  go_wp2_with fail
  with_reducible refine (HOv.out _ _ _ (HKa.out _ HD6.out) (HKb.out _ HD6.out)).mono ?_
  rintro e w7 ⟨⟨x7, rfl⟩, hb⟩
  have HD7 := Lib.hid (HD6.out.trans (hb.mono HD6.out.size))
  clear hb
  go_wp2_with fail
  with_reducible refine (clone_any g1 n1 (b : Int) ([], false) _ (HKa.out _ HD7.out)).mono ?_
  rintro e w8 ⟨rfl, hsk, hb⟩
  have HD8 := Lib.hid (HD7.out.trans (hb.mono HD7.out.size))
  have HC8 := Lib.hid hsk
  have hz8 : w4.heap.size ≤ w7.heap.size := HD7.out.size
  clear hb hsk
  go_wp2_with fail
  with_reducible refine (HMe.out _ _ _ HC8.out (HKb.out _ HD8.out)).mono ?_
  rintro e w9 ⟨rfl, hg⟩
  have HD9 := Lib.hid (below_gs HD8.out hg hz8 (Nat.le_refl _))
  clear hg
  go_wp2_with fail
  with_reducible refine (HEq.out _ _ _ (HKa.out _ HD9.out) (HKb.out _ HD9.out)).mono ?_
  rintro e w10 ⟨rfl, hb⟩
  have HDa := Lib.hid (HD9.out.trans (hb.mono HD9.out.size))
  clear hb
  go_wp2_with fail
  with_reducible refine (union_err _ _ 1 (by decide) _ (union_nil g1 n1 (b : Int) ([], false) _ (HKa.out _ HDa.out))).mono ?_
  rintro e w11 ⟨⟨x11, rfl⟩, hb⟩
  have HDb := Lib.hid (HDa.out.trans (hb.mono HDa.out.size))
  clear hb
  go_wp2_with fail
  with_reducible refine (overlap_err _ _ 1 (by decide) _ ((nil_union _ _).mono (by rintro e w' ⟨rfl, rfl⟩; exact ⟨rfl, Below.refl _ _⟩))).mono ?_
  rintro e w12 ⟨⟨x12, rfl⟩, hb⟩
  have HDc := Lib.hid (HDb.out.trans (hb.mono HDb.out.size))
  clear hb
  go_wp2_with fail
  with_reducible refine (nil_add t _).mono ?_
  rintro e w' ⟨rfl, rfl⟩
  go_wp2_with fail
  with_reducible refine (nil_merge _ _).mono ?_
  rintro e w' ⟨rfl, rfl⟩
  go_wp2_with fail
  with_reducible refine (merge_nil _ _).mono ?_
  rintro e w' ⟨rfl, rfl⟩
  go_wp2_with fail
  with_reducible refine (nil_size _).mono ?_
  rintro e w' ⟨rfl, rfl⟩
  go_wp2_with fail
  with_reducible refine (nil_seed _).mono ?_
  rintro e w' ⟨rfl, rfl⟩
  go_wp2_with fail
  with_reducible refine (nil_distinct _).mono ?_
  rintro e w' ⟨rfl, rfl⟩
  go_wp2_with fail
  with_reducible refine (nil_least _).mono ?_
  rintro e w' ⟨rfl, rfl⟩
  go_wp2_with fail
  with_reducible refine (nil_keys _).mono ?_
  rintro e w' ⟨rfl, rfl⟩
  go_wp2_with fail
  with_reducible refine (nil_encode _).mono ?_
  rintro e w' ⟨rfl, rfl⟩
  go_wp2_with fail
  with_reducible refine (nil_exact _).mono ?_
  rintro e w' ⟨rfl, rfl⟩
  go_wp2_with fail
  with_reducible refine (nil_clone _).mono ?_
  rintro e w' ⟨rfl, rfl⟩
  go_wp2_with fail
  with_reducible refine (nil_equal_nil _).mono ?_
  rintro e w' ⟨rfl, rfl⟩
  go_wp2_with fail
  with_reducible refine (nil_equal _ _).mono ?_
  rintro e w' ⟨rfl, rfl⟩
  go_wp2_with fail
  with_reducible refine (equal_nil _ _).mono ?_
  rintro e w' ⟨rfl, rfl⟩
  go_wp2_with fail
  go_ret
  exact ⟨rfl, HF.out _ HDc.out⟩
set_option maxRecDepth 100000 in
set_option maxHeartbeats 8000000 in
theorem walk_conf (w : World) (a b : Nat) (ha : a ≤ 255) (hb : b ≤ 255) (a2 b2 : Nat) (ha2 : a2 ≤ 255) (hb2 : b2 ≤ 255) (t : ByteArray) (hne : ¬ (1 + a % 12 = 1 + a2 % 12 ∧ b = b2)) :
    Calls Try.prog 11 #[.agg #[.int .u8 (a : Int), .int .u8 (b : Int)], .agg #[.int .u8 (a2 : Int), .int .u8 (b2 : Int)], .string t] w fun e w' => e = .returned (.bool true) ∧ Below w.heap.size w w' := by
  have HMd1 := Lib.hid (fun W => made_any a b ha hb none 0 [] (by simp) (fun x hx => absurd hx (by simp)) W Rd.nil)
  have HMd2 := Lib.hid (fun W A hR => made_any a2 b2 ha2 hb2 A 1 [1] (by simp) (fun x hx => by simp at hx; omega) W hR)
  rw [show txts [] = [] from rfl, show ∀ s : Int, bld (kys s []) = [] from fun _ => rfl, skt_nil] at HMd1
  rw [txts_one, bld_one, skt_one _ _ (by omega)] at HMd2
  simp only [List.length_nil, List.length_cons, Nat.zero_add] at HMd1 HMd2
  obtain ⟨n1, hn1⟩ : ∃ n1, n1 = 1 + a % 12 := ⟨_, rfl⟩
  obtain ⟨n2, hn2⟩ : ∃ n2, n2 = 1 + a2 % 12 := ⟨_, rfl⟩
  have hn11 : 1 ≤ n1 ∧ n1 ≤ 12 := by omega
  have hn22 : 1 ≤ n2 ∧ n2 ≤ 12 := by omega
  rw [← hn1] at HMd1
  rw [← hn2] at HMd2
  obtain ⟨⟨kh, kt⟩, hk0⟩ : ∃ k0, k0 = kyO (b2 : Int) (txtN 1) := ⟨_, rfl⟩
  rw [← hk0] at HMd2
  rw [← hn1, ← hn2] at hne
  have HB0 : Hid (Below w.heap.size w ((w.alloc (.cells #[.int .u8 (a : Int), .int .u8 (b : Int)] 23)).alloc (.cells #[.int .u8 (a2 : Int), .int .u8 (b2 : Int)] 23))) := Lib.hid (((Below.refl _ _).alloc (Nat.le_refl _) _).alloc (by simp) _)
  have HG0 := Lib.hid (blk_under w (.cells #[.int .u8 (a : Int), .int .u8 (b : Int)] 23) (.cells #[.int .u8 (a2 : Int), .int .u8 (b2 : Int)] 23))
  have HG1 := Lib.hid (blk_over w (.cells #[.int .u8 (a : Int), .int .u8 (b : Int)] 23) (.cells #[.int .u8 (a2 : Int), .int .u8 (b2 : Int)] 23))
  have hne2 : ¬ ((n1 : Int) = (n2 : Int) ∧ (b : Int) = (b2 : Int)) := fun e => hne ⟨by omega, by omega⟩
  have hd : ((n1 : Int) != (n2 : Int)) = true ∨ (((n1 : Int) != (n2 : Int)) = false ∧ ((b : Int) != (b2 : Int)) = true) := by
    by_cases e : n1 = n2
    · exact .inr ⟨by simp [e], by simp; exact fun k => hne ⟨e, by omega⟩⟩
    · exact .inl (by simp; omega)
  have HUn := Lib.hid (fun g1 g2 W h1 h2 => union_err _ _ 17 (by decide) W (union_conflict g1 g2 n1 (b : Int) n2 (b2 : Int) ([], false) ([(kh, kt)], false) hne2 W h1 h2))
  have HOv := Lib.hid (fun g1 g2 W h1 h2 => overlap_err _ _ 17 (by decide) W (union_conflict g1 g2 n1 (b : Int) n2 (b2 : Int) ([], false) ([(kh, kt)], false) hne2 W h1 h2))
  have HMe := Lib.hid (fun g g2 W h1 h2 => (merge_conflict g g2 n1 (b : Int) n2 (b2 : Int) ([], false) ([(kh, kt)], false) hne2 W h1 h2).mono (fun e w' h => (⟨h.1, Gs.of h.2⟩ : e = .returned (.int .i64 17) ∧ Gs g W w')))
  have HEq := Lib.hid (fun g1 g2 W h1 h2 => equal_any g1 g2 n1 (b : Int) n2 (b2 : Int) ([], false) ([(kh, kt)], false) (Nat.zero_le _) W h1 h2)
  simp only [reduceCtorEq, and_false, decide_false] at HEq
  have HDj := Lib.hid hd
  clear hne hne2 hd
  clear hn1 hn2 hk0 ha hb ha2 hb2
  go_enter Try.func11, Try.ntmps11
  go_wp2_with fail
  obtain ⟨w0, hw0⟩ : ∃ w0, w0 = ((w.alloc (.cells #[.int .u8 (a : Int), .int .u8 (b : Int)] 23)).alloc (.cells #[.int .u8 (a2 : Int), .int .u8 (b2 : Int)] 23)) := ⟨_, rfl⟩
  rw [← hw0] at HB0 HG0 HG1 ⊢
  clear hw0
  have hl0 : w.heap.size < w0.heap.size := (Array.getElem?_eq_some_iff.1 HG0.out).1
  have hl1 : w.heap.size + 1 < w0.heap.size := (Array.getElem?_eq_some_iff.1 HG1.out).1
  have HBK := Lib.hid (fun (W : World) (h : Below w0.heap.size w0 W) => HB0.out.trans (h.mono HB0.out.size))
  with_reducible refine (HMd1.out _).mono ?_
  rintro e w1 ⟨⟨g1, u1, rfl, hgw, hsk, ⟨v1, rfl, ⟨A1, c1, rfl, _⟩⟩⟩, hb1⟩
  simp only [List.length_nil]
  obtain ⟨o1, ho1⟩ : ∃ o1, o1 = Obj.cells #[.int .i64 (n1 : Int), .int .i64 (b : Int), .slice A1 0 c1] 28 := ⟨_, rfl⟩
  have HD1 := Lib.hid (hb1.alloc hb1.size o1)
  have HK1 := Lib.hid (hsk.below ((Below.refl _ _).alloc (Nat.le_refl _) o1))
  have HZ1 := Lib.hid (Deep.blk_alloc_new w1 o1)
  have hQ0 := cell_of_row _ (w.heap.size + 1) 0 _ _ _ ((HD1.out.block _ hl1).trans HG1.out)
  have hQ1 := cell_of_row _ (w.heap.size + 1) 1 _ _ _ ((HD1.out.block _ hl1).trans HG1.out)
  rw [ho1] at HD1 HK1 HZ1 hQ0 hQ1
  simp at hQ0 hQ1
  clear hb1 hsk ho1
  go_wp2_with fail
  obtain ⟨w2, hw2⟩ : ∃ w2, w2 = w1.alloc (.cells #[.int .i64 (n1 : Int), .int .i64 (b : Int), .slice A1 0 c1] 28) := ⟨_, rfl⟩
  rw [← hw2] at HD1 HK1 HZ1 hQ0 hQ1 ⊢
  obtain ⟨z1, hz1⟩ : ∃ z1, z1 = w1.heap.size := ⟨_, rfl⟩
  have hsz : w2.heap.size = z1 + 1 := by rw [hw2, hz1]; simp
  rw [← hz1] at HZ1 ⊢
  have hR1 : Rd u8N (w2.alloc (.cells #[.int .u8 1] 5)) (some ⟨z1 + 1, 0, none⟩) [1] := by rw [← hsz]; exact rd_one w2
  have HRu := Lib.hid hR1
  clear hw2 hz1 hQ0 hQ1 hsz hR1
  with_reducible refine (HMd2.out _ _ HRu.out).mono ?_
  have HE2 : Hid (Below w2.heap.size w2 (w2.alloc (.cells #[.int .u8 1] 5))) := Lib.hid ((Below.refl _ _).alloc (Nat.le_refl _) _)
  rintro e w3 ⟨⟨g2, u2, rfl, hgw2, hsk, ⟨v2, rfl, ⟨A2, c2, rfl, _⟩⟩⟩, hb2⟩
  simp only [List.length_nil, List.length_cons, Nat.zero_add]
  obtain ⟨o2, ho2⟩ : ∃ o2, o2 = Obj.cells #[.int .i64 (n2 : Int), .int .i64 (b2 : Int), .slice A2 1 c2] 28 := ⟨_, rfl⟩
  have hE3 := HE2.out.trans (hb2.mono HE2.out.size)
  have HE4 := Lib.hid (hE3.alloc hE3.size o2)
  have HK2 := Lib.hid (hsk.below ((Below.refl _ _).alloc (Nat.le_refl _) o2))
  have HZ2 := Lib.hid (Deep.blk_alloc_new w3 o2)
  have HK1 := Lib.hid (HK1.out.below HE4.out)
  have HZ1 := Lib.hid ((HE4.out.block _ (Array.getElem?_eq_some_iff.1 HZ1.out).1).trans HZ1.out)
  have HB4 := Lib.hid (HBK.out _ (HD1.out.trans (HE4.out.mono HD1.out.size)))
  rw [ho2] at HE4 HK1 HK2 HZ1 HZ2 HB4
  clear hb2 hsk ho2 hE3
  go_wp2_with fail
  obtain ⟨w4, hw4⟩ : ∃ w4, w4 = w3.alloc (.cells #[.int .i64 (n2 : Int), .int .i64 (b2 : Int), .slice A2 1 c2] 28) := ⟨_, rfl⟩
  rw [← hw4] at HE4 HK1 HK2 HZ1 HZ2 HB4 ⊢
  obtain ⟨z2, hz2⟩ : ∃ z2, z2 = w3.heap.size := ⟨_, rfl⟩
  rw [← hz2] at HZ2 ⊢
  clear hw4 hz2
  have HF := Lib.hid (fun (W : World) (h : Below w4.heap.size w4 W) => HB4.out.trans (h.mono HB4.out.size))
  have HKa := Lib.hid (fun (W : World) (h : Below w4.heap.size w4 W) => HK1.out.below h)
  have HKb := Lib.hid (fun (W : World) (h : Below w4.heap.size w4 W) => HK2.out.below h)
  refine (known_any _).mono ?_
  rintro e w5 ⟨rfl, hb⟩
  have HD5 := Lib.hid hb
  have hZ1 := (hb.block _ (Array.getElem?_eq_some_iff.1 HZ1.out).1).trans HZ1.out
  have hZ2 := (hb.block _ (Array.getElem?_eq_some_iff.1 HZ2.out).1).trans HZ2.out
  have r0 := cell_of_row w5 z1 0 _ _ _ hZ1
  have r1 := cell_of_row w5 z1 1 _ _ _ hZ1
  have s0 := cell_of_row w5 z2 0 _ _ _ hZ2
  have s1 := cell_of_row w5 z2 1 _ _ _ hZ2
  simp at r0 r1 s0 s1
  clear hb hZ1 hZ2
  rcases HDj.out with hd1 | ⟨hd1, hd2⟩
  all_goals
    go_wp2_with fail
    with_reducible refine (HUn.out _ _ _ (HKa.out _ HD5.out) (HKb.out _ HD5.out)).mono ?_
    rintro e w6 ⟨⟨x6, rfl⟩, hb⟩
    have HD6 := Lib.hid (HD5.out.trans (hb.mono HD5.out.size))
    clear hb r0 r1 s0 s1
    go_wp2_with fail
    with_reducible refine (HOv.out _ _ _ (HKa.out _ HD6.out) (HKb.out _ HD6.out)).mono ?_
    rintro e w7 ⟨⟨x7, rfl⟩, hb⟩
    have HD7 := Lib.hid (HD6.out.trans (hb.mono HD6.out.size))
    clear hb
    go_wp2_with fail
    with_reducible refine (clone_any g1 n1 (b : Int) ([], false) _ (HKa.out _ HD7.out)).mono ?_
    rintro e w8 ⟨rfl, hsk, hb⟩
    have HD8 := Lib.hid (HD7.out.trans (hb.mono HD7.out.size))
    have HC8 := Lib.hid hsk
    have hz8 : w4.heap.size ≤ w7.heap.size := HD7.out.size
    clear hb hsk
    go_wp2_with fail
    with_reducible refine (HMe.out _ _ _ HC8.out (HKb.out _ HD8.out)).mono ?_
    rintro e w9 ⟨rfl, hg⟩
    have HD9 := Lib.hid (below_gs HD8.out hg hz8 (Nat.le_refl _))
    clear hg
    go_wp2_with fail
    with_reducible refine (HEq.out _ _ _ (HKa.out _ HD9.out) (HKb.out _ HD9.out)).mono ?_
    rintro e w10 ⟨rfl, hb⟩
    have HDa := Lib.hid (HD9.out.trans (hb.mono HD9.out.size))
    clear hb
    go_wp2_with fail
    with_reducible refine (union_err _ _ 1 (by decide) _ (union_nil g1 n1 (b : Int) ([], false) _ (HKa.out _ HDa.out))).mono ?_
    rintro e w11 ⟨⟨x11, rfl⟩, hb⟩
    have HDb := Lib.hid (HDa.out.trans (hb.mono HDa.out.size))
    clear hb
    go_wp2_with fail
    with_reducible refine (overlap_err _ _ 1 (by decide) _ ((nil_union _ _).mono (by rintro e w' ⟨rfl, rfl⟩; exact ⟨rfl, Below.refl _ _⟩))).mono ?_
    rintro e w12 ⟨⟨x12, rfl⟩, hb⟩
    have HDc := Lib.hid (HDb.out.trans (hb.mono HDb.out.size))
    clear hb
    go_wp2_with fail
    with_reducible refine (nil_add t _).mono ?_
    rintro e w' ⟨rfl, rfl⟩
    go_wp2_with fail
    with_reducible refine (nil_merge _ _).mono ?_
    rintro e w' ⟨rfl, rfl⟩
    go_wp2_with fail
    with_reducible refine (merge_nil _ _).mono ?_
    rintro e w' ⟨rfl, rfl⟩
    go_wp2_with fail
    with_reducible refine (nil_size _).mono ?_
    rintro e w' ⟨rfl, rfl⟩
    go_wp2_with fail
    with_reducible refine (nil_seed _).mono ?_
    rintro e w' ⟨rfl, rfl⟩
    go_wp2_with fail
    with_reducible refine (nil_distinct _).mono ?_
    rintro e w' ⟨rfl, rfl⟩
    go_wp2_with fail
    with_reducible refine (nil_least _).mono ?_
    rintro e w' ⟨rfl, rfl⟩
    go_wp2_with fail
    with_reducible refine (nil_keys _).mono ?_
    rintro e w' ⟨rfl, rfl⟩
    go_wp2_with fail
    with_reducible refine (nil_encode _).mono ?_
    rintro e w' ⟨rfl, rfl⟩
    go_wp2_with fail
    with_reducible refine (nil_exact _).mono ?_
    rintro e w' ⟨rfl, rfl⟩
    go_wp2_with fail
    with_reducible refine (nil_clone _).mono ?_
    rintro e w' ⟨rfl, rfl⟩
    go_wp2_with fail
    with_reducible refine (nil_equal_nil _).mono ?_
    rintro e w' ⟨rfl, rfl⟩
    go_wp2_with fail
    with_reducible refine (nil_equal _ _).mono ?_
    rintro e w' ⟨rfl, rfl⟩
    go_wp2_with fail
    with_reducible refine (equal_nil _ _).mono ?_
    rintro e w' ⟨rfl, rfl⟩
    go_wp2_with fail
    go_ret
    exact ⟨rfl, HF.out _ HDc.out⟩
theorem walk (w : World) (a b : Nat) (ha : a ≤ 255) (hb : b ≤ 255) (a2 b2 : Nat) (ha2 : a2 ≤ 255) (hb2 : b2 ≤ 255) (t : ByteArray) (_ht : t.size ≤ 9223372036854775807) :
    Calls Try.prog 11 #[.agg #[.int .u8 (a : Int), .int .u8 (b : Int)], .agg #[.int .u8 (a2 : Int), .int .u8 (b2 : Int)], .string t] w fun e w' => e = .returned (.bool true) ∧ Below w.heap.size w w' := by
  by_cases h : 1 + a % 12 = 1 + a2 % 12 ∧ b = b2
  · exact walk_same w a b ha hb a2 b2 ha2 hb2 t h
  · exact walk_conf w a b ha hb a2 b2 ha2 hb2 t h

set_option maxRecDepth 100000 in
theorem lifted (os : Os) (started : os.Started) (H : Type) (enc : TypeId × Value → H) :
    ReturnsInHanded {} Try.checked os 11 .any (Rows.bottomkNilSpec.pre6 enc Try.prog Try.f11 Rows.bottomkNilRow.domain false) (Rows.bottomkNilSpec.post enc Try.prog Try.f11 false true false false) := by
  refine returnsInHanded_of_change (C := Try.checked) own started (by kernel_rfl) Try.func11
    (ChangeSpec.witness6 (enc := enc) (C := Try.checked) false ⟨#[], #[.agg #[.int .u8 0, .int .u8 0], .agg #[.int .u8 0, .int .u8 0], .string ByteArray.empty], []⟩ 8 (by kernel_rfl) (by kernel_rfl) (by kernel_rfl) (by kernel_rfl)) ?_
  intro W base args ds gs before hval0 hW _ _
  have hval : ∀ (j : Nat) t v, Try.f11.params[j]? = some t → args[j]? = some v → Value.okWide Try.prog W .any base t v := hval0
  have hW' := hW
  obtain ⟨p, q, hA0, hV, rfl, _, _⟩ := hW
  have hA : DataW.TrodAll enc Try.prog W 0 (fun _ => true) true Try.f11.params.toList args.toList ds p := hA0
  rw [Try.params11] at hA hval
  obtain ⟨v0, vs0, d0, ds0, p0, q0, hargs0, rfl, rfl, h0, r0⟩ := trodAll_cons hA
  obtain ⟨v1, vs1, d1, ds1, p1, q1, hargs1, rfl, rfl, h1, r1⟩ := trodAll_cons r0
  obtain ⟨v2, vs2, d2, ds2, p2, q2, hargs2, rfl, rfl, h2, r2⟩ := trodAll_cons r1
  obtain ⟨rfl, rfl, rfl⟩ := trodAll_nil r2
  obtain rfl : args = #[v0, v1, v2] := by cases args; simp_all
  obtain ⟨rfl, rfl⟩ := trodVars_none hV
  obtain ⟨a0, b0, rfl, rfl, rfl, ha0, hb0⟩ := open_setting (hval 0 23 v0 rfl rfl) h0
  obtain ⟨a1, b1, rfl, rfl, rfl, ha1, hb1⟩ := open_setting (hval 1 23 v1 rfl rfl) h1
  obtain ⟨s2, rfl, rfl, rfl, ws2⟩ := Go.ChangeMaps.open_string Try.underlying9 (hval 2 9 v2 rfl rfl) h2
  clear hA0 hval0
  simp only [List.append_nil] at hW'
  refine (walk W a0 b0 ha0 hb0 a1 b1 ha1 hb1 s2 ws2).mono fun e W' ⟨he, hb⟩ => ?_
  subst he
  exact ⟨_, rfl, post_mem hW' hb (fun _ _ _ => trodAll_mk1 (shut_bool Try.underlying4 _)) (fun _ _ => by
    exact trodAll_cons_mk (shut_setting ha0 hb0 _ _) (trodAll_cons_mk (shut_setting ha1 hb1 _ _) (trodAll_cons_mk (Go.ChangeMaps.shut_string Try.underlying9 ws2) trodAll_mk0))) (fun _ => rfl) (ok_one (by kernel_rfl) rfl (okWide_bool_mk Try.underlying4 _))⟩

theorem proved : Rows.BottomkNilSaid :=
  OpenClaim.holds_of_wide 11 Try.f11 rfl rfl rfl rfl rfl rfl rfl ⟨rfl, rfl, rfl, rfl, rfl⟩ rfl rfl rfl rfl rfl (by kernel_rfl) Try.func11 (by kernel_rfl)
    (of_decide_eq_true (by kernel_rfl)) (by unfold Func.isWrapper; first | (rw [if_pos (by decide +kernel)]; kernel_rfl) | (rw [if_neg (by decide +kernel)]; exact ⟨rfl, rfl⟩))
    (fun os started H enc _ => lifted os started H enc)

end Go.Proofs.Ythajdlpljliefaa.lawNil
