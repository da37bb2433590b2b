/- BottomkErrors: for any size, any seed and any key the law returns true. -/
import Derived.Test.YthajdlpljliefaaBx
namespace Go.Proofs.Ythajdlpljliefaa.lawErrors
open Go.Proofs.Ythajdlpljliefaa Go.ChangeShapes Go.WideShapes Go.ChangeAt Go.RowKit Go.Joins Bt

theorem laidOut : laidOutB Try.prog = true := by kernel_rfl
theorem ins_one (sd : Int) (a : ByteArray) : ins [] (kyO sd a) = bld (kys sd [a]) := (bld_snoc [] (kyO sd a)).symm
theorem ins_two (sd : Int) (a t : ByteArray) : ins (bld (kys sd [a])) (kyO sd t) = bld (kys sd [a, t]) := (bld_snoc (kys sd [a]) (kyO sd t)).symm
theorem ok_a : (⟨#[97]⟩ : ByteArray).size ≤ 1000000 ∧ chkK ⟨#[97]⟩ = 0 := ⟨by decide, chkA⟩
theorem two_ok {t : ByteArray} (ht : t.size ≤ 5000) (hc : chkK t = 0) : ∀ x ∈ [(⟨#[97]⟩ : ByteArray), t], x.size ≤ 1000000 ∧ chkK x = 0 := by
  simp only [List.forall_mem_cons, List.not_mem_nil, false_implies, implies_true, and_true]
  exact ⟨ok_a, by omega, hc⟩
theorem two_sz {t : ByteArray} (ht : t.size ≤ 5000) : ∀ x ∈ [(⟨#[97]⟩ : ByteArray), t], x.size ≤ 1000000 := by
  simp only [List.forall_mem_cons, List.not_mem_nil, false_implies, implies_true, and_true]
  exact ⟨ok_a.1, by omega⟩
theorem rd_two (W : World) (t : ByteArray) (b : Nat) (hb : W.heap[b]? = some (.cells #[.string ⟨#[97]⟩, .string t] 9 (0, 0))) : Rd Value.string W (some ⟨b, 0, none⟩) [(⟨#[97]⟩ : ByteArray), t] := fun j hj => ⟨b, 0, rfl, (Array.getElem?_eq_some_iff.1 hb).1, by
    rw [cell_of_row _ b _ _ _ _ hb]
    have : j = 0 ∨ j = 1 := by simp at hj; omega
    rcases this with rfl | rfl <;> rfl⟩

set_option maxRecDepth 100000 in
set_option maxHeartbeats 8000000 in
theorem walk_long (w : World) (n sd : Int) (t : ByteArray) (hl : 5000 < t.size) :
    Calls Try.prog 4 #[.int .i64 n, .int .i64 sd, .string t] w fun e w' => e = .returned (.bool true) ∧ Below w.heap.size w w' := by
  have hd : decide ((5000 : Int) < (t.size : Int)) = true := by simp; omega
  obtain ⟨sz, hsz⟩ : ∃ sz, sz = t.size := ⟨_, rfl⟩
  clear hl hsz
  go_enter Try.func4, Try.ntmps4
  go_wp2_with fail
  refine (known_any _).mono ?_
  rintro e w1 ⟨rfl, hb⟩
  have HB1 := Lib.hid hb
  clear hb
  go_wp2_with fail
  refine (known_any _).mono ?_
  rintro e w2 ⟨rfl, hb⟩
  have HB2 := Lib.hid (HB1.out.trans (hb.mono HB1.out.size))
  clear hb
  go_wp2_with fail
  go_ret
  exact ⟨rfl, HB2.out⟩
set_option maxRecDepth 100000 in
set_option maxHeartbeats 8000000 in
theorem walk_range (w : World) (n sd : Int) (t : ByteArray) (hl : t.size ≤ 5000) (h : n < 1 ∨ 1024 < n ∨ sd < 0 ∨ 1048576 < sd) :
    Calls Try.prog 4 #[.int .i64 n, .int .i64 sd, .string t] w fun e w' => e = .returned (.bool true) ∧ Below w.heap.size w w' := by
  have hd : decide ((5000 : Int) < (t.size : Int)) = false := by simp; omega
  have HN := Lib.hid (fun W => new_bad n sd h W)
  have HO := Lib.hid (fun v W => of_range n sd h v W)
  have h2 : (n < 1) ∨ (1 ≤ n ∧ 1024 < n) ∨ (1 ≤ n ∧ n ≤ 1024 ∧ sd < 0) ∨ (1 ≤ n ∧ n ≤ 1024 ∧ 0 ≤ sd ∧ 1048576 < sd) := by omega
  clear h hl
  go_enter Try.func4, Try.ntmps4
  go_wp2_with fail
  refine (known_any _).mono ?_
  rintro e w1 ⟨rfl, hb⟩
  have HB1 := Lib.hid hb
  clear hb
  go_wp2_with fail
  refine (HN.out _).mono ?_
  rintro e w2 ⟨rfl, rfl⟩
  go_wp2_with fail
  have HB2 := Lib.hid (HB1.out.alloc HB1.out.size (.cells #[.string ⟨#[97]⟩, .string t] 9))
  refine (HO.out _ _).mono ?_
  rintro e w2 ⟨rfl, rfl⟩
  rcases h2 with h1 | ⟨h1, h2⟩ | ⟨h1, h2, h3⟩ | ⟨h1, h2, h3, h4⟩
  · have d0 : decide (n < 1) = true := by simp; omega
    clear h1
    go_wp2_with fail
    go_ret
    exact ⟨rfl, HB2.out⟩
  · have d0 : decide (n < 1) = false := by simp; omega
    have d1 : decide ((1024 : Int) < n) = true := by simp; omega
    clear h1 h2
    go_wp2_with fail
    go_ret
    exact ⟨rfl, HB2.out⟩
  · have d0 : decide (n < 1) = false := by simp; omega
    have d1 : decide ((1024 : Int) < n) = false := by simp; omega
    have d2 : decide (sd < 0) = true := by simp; omega
    clear h1 h2 h3
    go_wp2_with fail
    go_ret
    exact ⟨rfl, HB2.out⟩
  · have d0 : decide (n < 1) = false := by simp; omega
    have d1 : decide ((1024 : Int) < n) = false := by simp; omega
    have d2 : decide (sd < 0) = false := by simp; omega
    have d3 : decide ((1048576 : Int) < sd) = true := by simp; omega
    clear h1 h2 h3 h4
    go_wp2_with fail
    go_ret
    exact ⟨rfl, HB2.out⟩
set_option maxRecDepth 100000 in
set_option maxHeartbeats 8000000 in
theorem walk_ok (w : World) (n : Nat) (sd : Int) (t : ByteArray) (hl : t.size ≤ 5000) (hn0 : 1 ≤ n) (hn : n ≤ 1024) (h0 : 0 ≤ sd) (h1 : sd ≤ 1048576) (hc : chkK t = 0) :
    Calls Try.prog 4 #[.int .i64 (n : Int), .int .i64 sd, .string t] w fun e w' => e = .returned (.bool true) ∧ Below w.heap.size w w' := by
  have hd : decide ((5000 : Int) < (t.size : Int)) = false := by simp; omega
  have d0 : decide ((n : Int) < 1) = false := by simp; omega
  have d1 : decide ((1024 : Int) < (n : Int)) = false := by simp; omega
  have d2 : decide (sd < 0) = false := by simp; omega
  have d3 : decide ((1048576 : Int) < sd) = false := by simp; omega
  have HN := Lib.hid (fun W => new_ok n hn0 hn sd h0 h1 W)
  have HCk := Lib.hid (fun W => check_law t (by omega) W)
  have HA0 := Lib.hid (fun g W h => add_ok g n sd hn0 hn ([], false) srt_nil (Nat.zero_le _) (⟨#[97]⟩ : ByteArray) ok_a.1 ok_a.2 W h)
  rw [show (([], false) : List Ky × Bool) = skt n [] from (skt_nil n).symm, stp_skt] at HA0
  rw [ins_one] at HA0
  have HRd := Lib.hid (fun W b hb => rd_two W t b hb)
  rw [hc] at HCk
  have HAd := Lib.hid (fun g W h => add_ok g n sd hn0 hn (skt n (bld (kys sd [(⟨#[97]⟩ : ByteArray)]))) (skt_srt (bld_srt _) n) (skt_len n _) t (by omega) hc W h)
  rw [stp_skt, ins_two] at HAd
  have HOf := Lib.hid (fun W A c h => of_ok n hn0 hn sd h0 h1 A c [(⟨#[97]⟩ : ByteArray), t] (by simp) (two_ok hl hc) W h)
  have HRf := Lib.hid (fun W A c h => rof_any (n : Int) sd A c [(⟨#[97]⟩ : ByteArray), t] (by simp) (two_sz hl) W h)
  simp only [List.length_cons, List.length_nil, Nat.reduceAdd] at HOf HRf
  obtain ⟨S, hS⟩ : ∃ S, S = bld (kys sd [(⟨#[97]⟩ : ByteArray), t]) := ⟨_, rfl⟩
  have hS2 : S.length ≤ 2 := by rw [hS]; exact bldk_len _ _
  rw [← hS] at HAd HOf HRf
  have HEq := Lib.hid (fun g h W => equal_any g h n sd n sd (skt n S) (skt n S) (by have := skt_len n S; omega) W)
  rw [show decide ((n : Int) = (n : Int) ∧ sd = sd ∧ (skt n S).2 = (skt n S).2 ∧ (skt n S).1 = (skt n S).1) = true by simp] at HEq
  have HAg := Lib.hid (fun W g u hk hu => agrees_any g n sd hn S (by omega) u W hk hu)
  obtain ⟨X, hX⟩ : ∃ X, X = skt n S := ⟨_, rfl⟩
  rw [← hX] at HAd HOf HEq HAg
  obtain ⟨Y, hY⟩ : ∃ Y, Y = skt n (bld (kys sd [(⟨#[97]⟩ : ByteArray)])) := ⟨_, rfl⟩
  rw [← hY] at HAd HA0
  clear hS hS2 hl hn0 hn h0 h1 hc hX hY
  go_enter Try.func4, Try.ntmps4
  go_wp2_with fail
  refine (known_any _).mono ?_
  rintro e w1 ⟨rfl, hb⟩
  have HB1 := Lib.hid hb
  clear hb
  go_wp2_with fail
  refine (HN.out _).mono ?_
  rintro e w2 ⟨rfl, hsk, hb⟩
  have HK2 := Lib.hid hsk
  have HB2 := Lib.hid (HB1.out.trans (hb.mono HB1.out.size))
  have hy : w.heap.size ≤ w1.heap.size := HB1.out.size
  obtain ⟨y, hye⟩ : ∃ y, y = w1.heap.size := ⟨_, rfl⟩
  rw [← hye] at HK2 hy ⊢
  clear hb hsk hye
  go_wp2_with fail
  have HZ := Lib.hid (Deep.blk_alloc_new w2 (.cells #[.string ⟨#[97]⟩, .string t] 9))
  have HB3 := Lib.hid (HB2.out.alloc HB2.out.size (.cells #[.string ⟨#[97]⟩, .string t] 9))
  have HK3 := Lib.hid (HK2.out.below ((Below.refl _ _).alloc (Nat.le_refl _) (.cells #[.string ⟨#[97]⟩, .string t] 9)))
  refine (HOf.out _ _ _ (HRd.out _ _ HZ.out)).mono ?_
  rintro e w4 ⟨rfl, hsk, hb⟩
  have HO4 := Lib.hid hsk
  have HB4 := Lib.hid (HB3.out.trans (hb.mono HB3.out.size))
  have HK4 := Lib.hid (HK3.out.below hb)
  have hyz : y < (w2.alloc (.cells #[.string ⟨#[97]⟩, .string t] 9)).heap.size := HK3.out.lt
  obtain ⟨z, hz⟩ : ∃ z, z = (w2.alloc (.cells #[.string ⟨#[97]⟩, .string t] 9)).heap.size := ⟨_, rfl⟩
  rw [← hz] at HO4 hyz ⊢
  have hzy : z ≠ y := by omega
  clear hb hsk hz
  go_wp2_with fail
  refine (HCk.out _).mono ?_
  rintro e w' ⟨rfl, rfl⟩
  go_wp2_with fail
  refine (HA0.out _ _ (skt_nil n ▸ HK4.out)).mono ?_
  rintro e w5 ⟨rfl, hsk, hg⟩
  have HK5 := Lib.hid hsk
  have HB5 := Lib.hid (below_gs HB4.out hg hy (Nat.le_refl _))
  have HO5 := Lib.hid (HO4.out.gs HK4.out hg hzy)
  clear hsk hg
  go_wp2_with fail
  refine (HAd.out _ _ HK5.out).mono ?_
  rintro e w6 ⟨rfl, hsk, hg⟩
  have HK6 := Lib.hid hsk
  have HB6 := Lib.hid (below_gs HB5.out hg hy (Nat.le_refl _))
  have HO6 := Lib.hid (HO5.out.gs HK5.out hg hzy)
  clear hsk hg
  go_wp2_with fail
  refine (HEq.out _ _ _ HO6.out HK6.out).mono ?_
  rintro e w7 ⟨rfl, hb⟩
  have HB7 := Lib.hid (HB6.out.trans (hb.mono HB6.out.size))
  have HK7 := Lib.hid (HK6.out.below hb)
  clear hb
  go_wp2_with fail
  have HZ8 := Lib.hid (Deep.blk_alloc_new w7 (.cells #[.string ⟨#[97]⟩, .string t] 9))
  have HB8 := Lib.hid (HB7.out.alloc HB7.out.size (.cells #[.string ⟨#[97]⟩, .string t] 9))
  have HK8 := Lib.hid (HK7.out.below ((Below.refl _ _).alloc (Nat.le_refl _) (.cells #[.string ⟨#[97]⟩, .string t] 9)))
  refine (HRf.out _ _ _ (HRd.out _ _ HZ8.out)).mono ?_
  rintro e w9 ⟨⟨u, rfl, hst⟩, hb⟩
  have HB9 := Lib.hid (HB8.out.trans (hb.mono HB8.out.size))
  have HK9 := Lib.hid (HK8.out.below hb)
  have HU9 := Lib.hid hst
  clear hb hst
  go_wp2_with fail
  refine (HAg.out _ _ _ HK9.out HU9.out).mono ?_
  rintro e w10 ⟨rfl, hb⟩
  have HB10 := Lib.hid (HB9.out.trans (hb.mono HB9.out.size))
  clear hb
  go_wp2_with fail
  go_ret
  exact ⟨rfl, HB10.out⟩
set_option maxRecDepth 100000 in
set_option maxHeartbeats 8000000 in
theorem walk_bad (w : World) (n : Nat) (sd : Int) (t : ByteArray) (hl : t.size ≤ 5000) (hn0 : 1 ≤ n) (hn : n ≤ 1024) (h0 : 0 ≤ sd) (h1 : sd ≤ 1048576) (hc : chkK t ≠ 0) :
    Calls Try.prog 4 #[.int .i64 (n : Int), .int .i64 sd, .string t] w fun e w' => e = .returned (.bool true) ∧ Below w.heap.size w w' := by
  have hd : decide ((5000 : Int) < (t.size : Int)) = false := by simp; omega
  have d0 : decide ((n : Int) < 1) = false := by simp; omega
  have d1 : decide ((1024 : Int) < (n : Int)) = false := by simp; omega
  have d2 : decide (sd < 0) = false := by simp; omega
  have d3 : decide ((1048576 : Int) < sd) = false := by simp; omega
  have HN := Lib.hid (fun W => new_ok n hn0 hn sd h0 h1 W)
  have HCk := Lib.hid (fun W => check_law t (by omega) W)
  have HA0 := Lib.hid (fun g W h => add_ok g n sd hn0 hn ([], false) srt_nil (Nat.zero_le _) (⟨#[97]⟩ : ByteArray) ok_a.1 ok_a.2 W h)
  rw [show (([], false) : List Ky × Bool) = skt n [] from (skt_nil n).symm, stp_skt] at HA0
  rw [ins_one] at HA0
  have HRd := Lib.hid (fun W b hb => rd_two W t b hb)
  have HAd := Lib.hid (fun g W => add_bad g t (by omega) hc W)
  have HOf := Lib.hid (fun W A c h => of_bad n hn0 hn sd h0 h1 A c [(⟨#[97]⟩ : ByteArray), t] (by simp) (two_sz hl) 1 (by simp) (fun j hj hj1 => by
      obtain rfl : j = 0 := by omega
      exact chkA) hc W h)
  have HRf := Lib.hid (fun W A c h => rof_any (n : Int) sd A c [(⟨#[97]⟩ : ByteArray)] (by simp) (fun x hx => by
    simp only [List.mem_cons, List.not_mem_nil, or_false] at hx
    subst hx
    decide) W h)
  simp only [List.length_cons, List.length_nil, Nat.reduceAdd, List.getElem_cons_succ, List.getElem_cons_zero] at HOf HRf
  have HAg := Lib.hid (fun W g u hk hu => agrees_any g n sd hn (bld (kys sd [(⟨#[97]⟩ : ByteArray)])) (by have := bldk_len sd [(⟨#[97]⟩ : ByteArray)]; simp at this; omega) u W hk hu)
  have HR1 := Lib.hid (fun W b (hb : W.heap[b]? = some (.cells #[.string ⟨#[97]⟩] 9 (0, 0))) => (fun j hj => ⟨b, 0, rfl, (Array.getElem?_eq_some_iff.1 hb).1, by
    rw [cell_of_row _ b _ _ _ _ hb]
    have : j = 0 := by simp at hj; omega
    subst this; rfl⟩ : Rd Value.string W (some ⟨b, 0, none⟩) [(⟨#[97]⟩ : ByteArray)]))
  obtain ⟨e0, he0⟩ : ∃ e0, e0 = chkK t := ⟨_, rfl⟩
  rw [← he0] at HAd HOf hc HCk
  have hk0 : (e0 == 0) = false := by simpa using hc
  have hk1 : (e0 != 0) = true := by simpa using hc
  have hk2 : (e0 != e0) = false := by simp
  obtain ⟨Y, hY⟩ : ∃ Y, Y = skt n (bld (kys sd [(⟨#[97]⟩ : ByteArray)])) := ⟨_, rfl⟩
  rw [← hY] at HA0 HAg
  clear hl hn0 hn h0 h1 hc he0 hY
  go_enter Try.func4, Try.ntmps4
  go_wp2_with fail
  refine (known_any _).mono ?_
  rintro e w1 ⟨rfl, hb⟩
  have HB1 := Lib.hid hb
  clear hb
  go_wp2_with fail
  refine (HN.out _).mono ?_
  rintro e w2 ⟨rfl, hsk, hb⟩
  have HK2 := Lib.hid hsk
  have HB2 := Lib.hid (HB1.out.trans (hb.mono HB1.out.size))
  have hy : w.heap.size ≤ w1.heap.size := HB1.out.size
  obtain ⟨y, hye⟩ : ∃ y, y = w1.heap.size := ⟨_, rfl⟩
  rw [← hye] at HK2 hy ⊢
  clear hb hsk hye
  go_wp2_with fail
  have HZ := Lib.hid (Deep.blk_alloc_new w2 (.cells #[.string ⟨#[97]⟩, .string t] 9))
  have HB3 := Lib.hid (HB2.out.alloc HB2.out.size (.cells #[.string ⟨#[97]⟩, .string t] 9))
  have HK3 := Lib.hid (HK2.out.below ((Below.refl _ _).alloc (Nat.le_refl _) (.cells #[.string ⟨#[97]⟩, .string t] 9)))
  refine (HOf.out _ _ _ (HRd.out _ _ HZ.out)).mono ?_
  rintro e w4 ⟨rfl, hb⟩
  have HB4 := Lib.hid (HB3.out.trans (hb.mono HB3.out.size))
  have HK4 := Lib.hid (HK3.out.below hb)
  clear hb
  go_wp2_with fail
  refine (HCk.out _).mono ?_
  rintro e w' ⟨rfl, rfl⟩
  go_wp2_with fail
  refine (HA0.out _ _ (skt_nil n ▸ HK4.out)).mono ?_
  rintro e w5 ⟨rfl, hsk, hg⟩
  have HK5 := Lib.hid hsk
  have HB5 := Lib.hid (below_gs HB4.out hg hy (Nat.le_refl _))
  clear hsk hg
  go_wp2_with fail
  refine (HAd.out _ _).mono ?_
  rintro e w6 ⟨rfl, hb⟩
  have HK6 := Lib.hid (HK5.out.below hb)
  have HB6 := Lib.hid (HB5.out.trans (hb.mono HB5.out.size))
  clear hb
  go_wp2_with fail
  have HZ8 := Lib.hid (Deep.blk_alloc_new w6 (.cells #[.string ⟨#[97]⟩] 9))
  have HB8 := Lib.hid (HB6.out.alloc HB6.out.size (.cells #[.string ⟨#[97]⟩] 9))
  have HK8 := Lib.hid (HK6.out.below ((Below.refl _ _).alloc (Nat.le_refl _) (.cells #[.string ⟨#[97]⟩] 9)))
  refine (HRf.out _ _ _ (HR1.out _ _ HZ8.out)).mono ?_
  rintro e w9 ⟨⟨u, rfl, hst⟩, hb⟩
  have HB9 := Lib.hid (HB8.out.trans (hb.mono HB8.out.size))
  have HK9 := Lib.hid (HK8.out.below hb)
  have HU9 := Lib.hid hst
  clear hb hst
  go_wp2_with fail
  refine (HAg.out _ _ _ HK9.out HU9.out).mono ?_
  rintro e w10 ⟨rfl, hb⟩
  have HB10 := Lib.hid (HB9.out.trans (hb.mono HB9.out.size))
  clear hb
  go_wp2_with fail
  go_ret
  exact ⟨rfl, HB10.out⟩
theorem walk (w : World) (n : Int) (_wn : (Lit.int .i64 n).wf = true) (sd : Int) (_ws : (Lit.int .i64 sd).wf = true) (t : ByteArray) (_ht : t.size ≤ 9223372036854775807) :
    Calls Try.prog 4 #[.int .i64 n, .int .i64 sd, .string t] w fun e w' => e = .returned (.bool true) ∧ Below w.heap.size w w' := by
  by_cases hl : 5000 < t.size
  · exact walk_long w n sd t hl
  have hl2 : t.size ≤ 5000 := by omega
  by_cases h : n < 1 ∨ 1024 < n ∨ sd < 0 ∨ 1048576 < sd
  · exact walk_range w n sd t hl2 h
  obtain ⟨m, rfl⟩ : ∃ m : Nat, n = (m : Int) := ⟨n.toNat, by omega⟩
  by_cases hc : chkK t = 0
  · exact walk_ok w m sd t hl2 (by omega) (by omega) (by omega) (by omega) hc
  · exact walk_bad w m sd t hl2 (by omega) (by omega) (by omega) (by omega) hc

set_option maxRecDepth 100000 in
theorem lifted (os : Os) (started : os.Started) (H : Type) (enc : TypeId × Value → H) :
    ReturnsInHanded {} Try.checked os 4 .any (Rows.bottomkErrorsSpec.pre6 enc Try.prog Try.f4 Rows.bottomkErrorsRow.domain false) (Rows.bottomkErrorsSpec.post enc Try.prog Try.f4 false true false false) := by
  refine returnsInHanded_of_change (C := Try.checked) own started (by kernel_rfl) Try.func4
    (ChangeSpec.witness6 (enc := enc) (C := Try.checked) false ⟨#[], #[.int .i64 0, .int .i64 0, .string ByteArray.empty], []⟩ 8 (by kernel_rfl) (by kernel_rfl) (by kernel_rfl) (by kernel_rfl)) ?_
  intro W base args ds gs before hval0 hW _ _
  have hval : ∀ (j : Nat) t v, Try.f4.params[j]? = some t → args[j]? = some v → Value.okWide Try.prog W .any base t v := hval0
  have hW' := hW
  obtain ⟨p, q, hA0, hV, rfl, _, _⟩ := hW
  have hA : DataW.TrodAll enc Try.prog W 0 (fun _ => true) true Try.f4.params.toList args.toList ds p := hA0
  rw [Try.params4] at hA hval
  obtain ⟨v0, vs0, d0, ds0, p0, q0, hargs0, rfl, rfl, h0, r0⟩ := trodAll_cons hA
  obtain ⟨v1, vs1, d1, ds1, p1, q1, hargs1, rfl, rfl, h1, r1⟩ := trodAll_cons r0
  obtain ⟨v2, vs2, d2, ds2, p2, q2, hargs2, rfl, rfl, h2, r2⟩ := trodAll_cons r1
  obtain ⟨rfl, rfl, rfl⟩ := trodAll_nil r2
  obtain rfl : args = #[v0, v1, v2] := by cases args; simp_all
  obtain ⟨rfl, rfl⟩ := trodVars_none hV
  obtain ⟨a0, rfl, rfl, rfl, wa0⟩ := open_int Try.underlying3 (hval 0 3 v0 rfl rfl) h0
  obtain ⟨a1, rfl, rfl, rfl, wa1⟩ := open_int Try.underlying3 (hval 1 3 v1 rfl rfl) h1
  obtain ⟨s2, rfl, rfl, rfl, ws2⟩ := Go.ChangeMaps.open_string Try.underlying9 (hval 2 9 v2 rfl rfl) h2
  clear hA0 hval0
  simp only [List.append_nil] at hW'
  refine (walk W a0 wa0 a1 wa1 s2 ws2).mono fun e W' ⟨he, hb⟩ => ?_
  subst he
  exact ⟨_, rfl, post_mem hW' hb (fun _ _ _ => trodAll_mk1 (shut_bool Try.underlying4 _)) (fun _ _ => by
    exact trodAll_cons_mk (shut_int Try.underlying3 wa0) (trodAll_cons_mk (shut_int Try.underlying3 wa1) (trodAll_cons_mk (Go.ChangeMaps.shut_string Try.underlying9 ws2) trodAll_mk0))) (fun _ => rfl) (ok_one (by kernel_rfl) rfl (okWide_bool_mk Try.underlying4 _))⟩

theorem proved : Rows.BottomkErrorsSaid :=
  OpenClaim.holds_of_wide 4 Try.f4 rfl rfl rfl rfl rfl rfl rfl ⟨rfl, rfl, rfl, rfl, rfl⟩ rfl rfl rfl rfl rfl (by kernel_rfl) Try.func4 (by kernel_rfl)
    (of_decide_eq_true (by kernel_rfl)) (by unfold Func.isWrapper; first | (rw [if_pos (by decide +kernel)]; kernel_rfl) | (rw [if_neg (by decide +kernel)]; exact ⟨rfl, rfl⟩))
    (fun os started H enc _ => lifted os started H enc)

end Go.Proofs.Ythajdlpljliefaa.lawErrors
