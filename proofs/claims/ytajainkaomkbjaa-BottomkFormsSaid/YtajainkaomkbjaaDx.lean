/- Distinct: product, over, estimate; the law's distinct. -/
import Derived.Test.YtajainkaomkbjaaDw
import Derived.Test.YtajainkaomkbjaaGs
import Derived.BigQuiet
import Derived.Deep.RegionHeld3
namespace Go.Proofs.Ytajainkaomkbjaa
open Go.ChangeShapes Go.WideShapes Go.ChangeAt Go.RowKit Go.Joins Bt

set_option maxRecDepth 100000 in
set_option maxHeartbeats 1000000 in
theorem product_any (a b : Nat) (ha : a < 18446744073709551616) (hb : b < 18446744073709551616) (w : World) :
    Calls Try.prog 77 #[.int .u64 (a : Int), .int .u64 (b : Int)] w fun e w' => e = .returned (.agg #[.int .u64 ((a * b / 18446744073709551616 : Nat) : Int), .int .u64 ((a * b % 18446744073709551616 : Nat) : Int)]) ∧ Below w.heap.size w w' := by
  have HM := Lib.hid (fun W => Try.bits_Mul64 a b ha hb W)
  obtain ⟨x, hx⟩ : ∃ x, x = a * b / 18446744073709551616 := ⟨_, rfl⟩
  obtain ⟨y, hy⟩ : ∃ x, x = a * b % 18446744073709551616 := ⟨_, rfl⟩
  rw [← hx, ← hy] at HM ⊢
  clear hx hy ha hb
  go_enter Try.func77, Try.ntmps77
  go_wp2_with fail
  with_reducible refine (HM.out _).mono ?_
  rintro e w1 ⟨rfl, rfl⟩
  go_wp2_with fail
  refine bodyPost_ret (v := .agg #[.int .u64 (x : Int), .int .u64 (y : Int)]) ?_ rfl ⟨rfl, (Below.refl _ _).alloc (Nat.le_refl _) _⟩
  rw [results_cell1 rfl]; go_simp <;> rfl
set_option maxRecDepth 100000 in
set_option maxHeartbeats 1000000 in
theorem over_any (x y d m : Nat) (hd : 0 < d) (hd2 : d < 18446744073709551616) (hy : y < 18446744073709551616) (hm : m ≤ 1099511627776) (w : World) :
    Calls Try.prog 78 #[.agg #[.int .u64 (x : Int), .int .u64 (y : Int)], .int .u64 (d : Int), .int .u64 (m : Int)] w fun e w' => e = .returned (.int .u64 ((min ((x * 18446744073709551616 + y) / d) m : Nat) : Int)) ∧ Below w.heap.size w w' := by
  have HB : Hid (Below w.heap.size w (w.alloc (.cells #[.int .u64 (x : Int), .int .u64 (y : Int)] 104))) := Lib.hid ((Below.refl _ _).alloc (Nat.le_refl _) _)
  by_cases hx : d ≤ x
  · have HR : Hid (min ((x * 18446744073709551616 + y) / d) m = m) := Lib.hid (Nat.min_eq_right (by
      refine Nat.le_trans (show m ≤ 18446744073709551616 by omega) ?_
      rw [Nat.le_div_iff_mul_le hd, Nat.mul_comm]
      exact Nat.le_trans (Nat.mul_le_mul_right _ hx) (Nat.le_add_right _ _)))
    rw [HR.out]
    have p1 : (d : Int) ≤ (x : Int) := by omega
    have p2 : decide ((d : Int) ≤ (x : Int)) = true := by simpa using p1
    clear HR hx
    go_enter Try.func78, Try.ntmps78
    go_wp2_with fail
    go_ret
    exact ⟨rfl, HB.out⟩
  · have HD := Lib.hid (fun W => div64_any x y d (by omega) hy hd2 W)
    have p1 : ¬ (d : Int) ≤ (x : Int) := by omega
    have p2 : decide ((d : Int) ≤ (x : Int)) = false := by simpa using p1
    obtain ⟨q, hq⟩ : ∃ q, q = (x * 18446744073709551616 + y) / d := ⟨_, rfl⟩
    rw [← hq] at HD ⊢
    clear hq hx hd hd2 hy
    go_enter Try.func78, Try.ntmps78
    go_wp2_with fail
    with_reducible refine (HD.out _).mono ?_
    rintro e w1 ⟨⟨r, rfl⟩, hb⟩
    have HB1 := Lib.hid (bz_call HB.out hb)
    clear hb
    go_wp2_with fail
    go_ret
    exact ⟨ret_int (show min (q : Int) (m : Int) = _ by omega), HB1.out⟩
/-- How many keys a set has of which the last of k keys has the hash h. -/
def estN (k h : Nat) : Nat := if h = 0 then k else max (min ((k - 1) * 4611686018427387904 / h) 1099511627776) k
set_option maxRecDepth 100000 in
set_option maxHeartbeats 1000000 in
theorem estimate_any (k h : Nat) (hk : 0 < k) (hk2 : k ≤ 1024) (hh : h ≤ 4611686018427387904) (w : World) :
    Calls Try.prog 53 #[.int .i64 (k : Int), .int .i64 (h : Int)] w fun e w' => e = .returned (.int .i64 ((estN k h : Nat) : Int)) ∧ Below w.heap.size w w' := by
  by_cases h0 : h = 0
  · subst h0
    have HR : Hid (estN k 0 = k) := Lib.hid rfl
    rw [HR.out]
    go_enter Try.func53, Try.ntmps53
    go_wp2_with fail
    go_ret
    exact ⟨rfl, Below.refl _ _⟩
  · have HP := Lib.hid (fun W => product_any (k - 1) 4611686018427387904 (by omega) (by omega) W)
    have hdm := Nat.div_add_mod ((k - 1) * 4611686018427387904) 18446744073709551616
    have hml := Nat.mod_lt ((k - 1) * 4611686018427387904) (show 0 < 18446744073709551616 by omega)
    obtain ⟨x, hx⟩ : ∃ x, x = (k - 1) * 4611686018427387904 / 18446744073709551616 := ⟨_, rfl⟩
    obtain ⟨y, hy⟩ : ∃ x, x = (k - 1) * 4611686018427387904 % 18446744073709551616 := ⟨_, rfl⟩
    rw [← hx, ← hy] at HP hdm
    rw [← hy] at hml
    have HO := Lib.hid (fun W => over_any x y h 1099511627776 (by omega) (by omega) hml (by omega) W)
    rw [show x * 18446744073709551616 + y = (k - 1) * 4611686018427387904 by omega] at HO
    have HR : Hid (estN k h = max (min ((k - 1) * 4611686018427387904 / h) 1099511627776) k) := Lib.hid (if_neg h0)
    rw [HR.out]
    have hmin : min ((k - 1) * 4611686018427387904 / h) 1099511627776 ≤ 1099511627776 := Nat.min_le_right _ _
    obtain ⟨q, hq⟩ : ∃ q, q = min ((k - 1) * 4611686018427387904 / h) 1099511627776 := ⟨_, rfl⟩
    rw [← hq] at HO hmin ⊢
    have e0 : ((h : Int) == 0) = false := by rw [beq_eq_false_iff_ne]; omega
    have e1 : IntKind.i64.wrap ((k : Int) - 1) = ((k - 1 : Nat) : Int) := by rw [IntKind.wrap_i64]; omega
    obtain ⟨k', hk'⟩ : ∃ q, q = k - 1 := ⟨_, rfl⟩
    rw [← hk'] at HP e1
    have e2 : IntKind.u64.wrap (k' : Int) = (k' : Int) := by rw [IntKind.wrap_u64]; omega
    have e3 : IntKind.u64.wrap (h : Int) = (h : Int) := by rw [IntKind.wrap_u64]; omega
    have e4 : IntKind.i64.wrap (q : Int) = (q : Int) := by rw [IntKind.wrap_i64]; omega
    rw [show ((4611686018427387904 : Nat) : Int) = 4611686018427387904 from rfl] at HP
    rw [show ((1099511627776 : Nat) : Int) = 1099511627776 from rfl] at HO
    clear hq hk' hx hy hdm hml HR h0
    go_enter Try.func53, Try.ntmps53
    go_wp2_with fail
    with_reducible refine (HP.out _).mono ?_
    rintro e w1 ⟨rfl, hb⟩
    have HB1 := Lib.hid hb
    clear hb
    go_wp2_with fail
    with_reducible refine (HO.out _).mono ?_
    rintro e w2 ⟨rfl, hb⟩
    have HB2 := Lib.hid (bz_call HB1.out hb)
    clear hb
    go_wp2_with fail
    go_ret
    exact ⟨ret_int (show max (q : Int) (k : Int) = _ by omega), HB2.out⟩
/-- How many keys a sketch says that its set has. -/
def dstN (n : Nat) (S : List Ky) : Nat := if S.length ≤ n then S.length else estN n (S.getD (n - 1) (0, ByteArray.empty)).1.toNat
/-- Hashes are small. -/
def Hb (L : List Ky) : Prop := ∀ k ∈ L, 0 ≤ k.1 ∧ k.1 < 4611686018427387904
theorem hb_kys (sd : Int) (K : List ByteArray) : Hb (bld (kys sd K)) := fun k hk => by
  have h := (bld_mem _ _).1 hk
  unfold kys at h
  obtain ⟨t, _, rfl⟩ := List.mem_map.1 h
  exact hsh_bd sd t
theorem hb_mrg {S T : List Ky} (h : Hb S) (k : Hb T) : Hb (mrg S T) := fun x hx => ((mrg_mem _ _ _).1 hx).elim (h x) (k x)
set_option maxRecDepth 100000 in
set_option maxHeartbeats 2000000 in
theorem distinct_any (g n : Nat) (sd : Int) (hn0 : 0 < n) (hn : n ≤ 1024) (S : List Ky) (hb : Hb S) (w : World) (hk : Sk w g n sd (skt n S)) :
    Calls Try.prog 28 #[.pointer (some ⟨g, 0, none⟩)] w fun e w' => e = .returned (.int .i64 ((dstN n S : Nat) : Int)) ∧ Below w.heap.size w w' := by
  by_cases hS : S.length ≤ n
  · have hm : (skt n S).2 = false := by show decide (n < S.length) = false; simpa using hS
    refine (distinct_exact w hk hm).mono ?_
    rintro e w' ⟨rfl, rfl⟩
    refine ⟨ret_int ?_, Below.refl _ _⟩
    unfold dstN
    rw [if_pos hS]
    show ((S.take n).length : Int) = _
    rw [List.take_of_length_le hS]
  · have HE := Lib.hid (fun W h => exact_any (g := g) (n := n) (sd := sd) (x := skt n S) W h)
    have hm : (skt n S).2 = true := by show decide (n < S.length) = true; simpa using hS
    rw [hm] at HE
    have hl : (S.take n).length = n := by rw [List.length_take]; omega
    have hn1 : n - 1 < S.length := by omega
    have hget : (S.take n)[n - 1]'(by omega) = S.getD (n - 1) (0, ByteArray.empty) := by
      rw [List.getElem_take]; simp [List.getD, List.getElem?_eq_getElem hn1]
    have hbd := hb _ (List.getElem_mem hn1)
    have hge : S[n - 1] = S.getD (n - 1) (0, ByteArray.empty) := by simp [List.getD, List.getElem?_eq_getElem hn1]
    rw [hge] at hbd
    have HR : Hid (dstN n S = estN n (S.getD (n - 1) (0, ByteArray.empty)).1.toNat) := Lib.hid (by unfold dstN; rw [if_neg hS])
    have HK := Lib.hid hk
    obtain ⟨v, ⟨A, c, rfl, hlc, hnl, hR⟩, hg⟩ := hk
    obtain ⟨b, off, hA, hbl, h0, h1⟩ := hR.at (n - 1) (by show n - 1 < (S.take n).length; omega)
    have h0' : w.cell? ⟨b, off + (n - 1) * 2, none⟩ = some (.int .i64 (S.getD (n - 1) (0, ByteArray.empty)).1) := by rw [h0, ← hget]; rfl
    obtain ⟨h, hh⟩ : ∃ h : Nat, (h : Int) = (S.getD (n - 1) (0, ByteArray.empty)).1 := ⟨(S.getD (n - 1) (0, ByteArray.empty)).1.toNat, by omega⟩
    rw [← hh] at h0' hbd HR
    rw [HR.out, Int.toNat_natCast]
    have HX := Lib.hid (fun W => estimate_any n h hn0 hn (by omega) W)
    obtain ⟨q, hq⟩ : ∃ q, q = estN n h := ⟨_, rfl⟩
    rw [← hq] at HX ⊢
    have c2 := cell_of_row w g 2 _ _ _ hg
    have hgl := (Array.getElem?_eq_some_iff.1 hg).1
    have hlen : (skt n S).1.length = n := hl
    rw [hlen] at hlc
    simp [hlen] at c2
    subst hA
    obtain ⟨m, hm1⟩ : ∃ m, m = n - 1 := ⟨_, rfl⟩
    rw [← hm1] at h0'
    have e1 : IntKind.i64.wrap ((n : Int) - 1) = (m : Int) := by rw [IntKind.wrap_i64]; omega
    have hmn : (m : Int) < (n : Int) := by omega
    have hm0 : (0 : Int) ≤ (m : Int) := by omega
    have hn0I : (0 : Int) < (n : Int) := by omega
    have hne : ((n : Int) == 0) = false := by rw [beq_eq_false_iff_ne]; omega
    have HS : Hid (∀ W, Below w.heap.size w W → W.cell? ⟨g, 2, none⟩ = some (.slice (some ⟨b, off, none⟩) n c) ∧ W.cell? ⟨b, off + m * 2, none⟩ = some (.int .i64 (h : Int))) := Lib.hid (fun W hb => ⟨(hb.cell (p := ⟨g, 2, none⟩) hgl).trans c2, (hb.cell (p := ⟨b, off + m * 2, none⟩) hbl).trans h0'⟩)
    have HD0 : Hid (Below w.heap.size w w.drew) := Lib.hid (Below.refl _ _).drew
    clear hg hR hnl h1 h0 hget hge hn1 hbd hh HR hq hlen hm hb hS hm1 hl
    go_enter Try.func28, Try.ntmps28
    go_wp2_with fail
    with_reducible refine (HE.out _ HK.out).mono ?_
    rintro e w1 ⟨rfl, rfl⟩
    go_wp2_with fail
    go_region_held3 (fun W => W.cell? ⟨g, 2, none⟩ = some (.slice (some ⟨b, off, none⟩) n c) ∧ W.cell? ⟨b, off + m * 2, none⟩ = some (.int .i64 (h : Int)))
      (first | exact HS.out _ HD1.out | exact HS.out _ HD0.out)
      ((first
        | (go_at_call 53; (with_reducible refine (HX.out _).mono ?_); rintro e w1 ⟨rfl, hb1⟩; have HD1 : Hid (Below w.heap.size w w1) := Lib.hid (bz_call HD0.out hb1); clear hb1)
        | fail))
    go_wp2_with fail
    go_ret
    exact ⟨rfl, HD1.out⟩
theorem quo_est {n h : Nat} (hn : n ≤ 1024) (h0 : h ≠ 0) : (quoR (n - 1) h 1099511627776 = -1 ∧ estN n h = 1099511627776) ∨ (∃ q : Nat, quoR (n - 1) h 1099511627776 = (q : Int) ∧ q ≤ 1099511627776 ∧ estN n h = max q n) := by
  unfold quoR estN
  rw [if_neg h0, show (2 : Nat) ^ 62 = 4611686018427387904 from rfl]
  generalize (n - 1) * 4611686018427387904 / h = Q
  split
  · left
    refine ⟨rfl, ?_⟩
    omega
  · right
    exact ⟨Q, rfl, by omega, by omega⟩
set_option maxRecDepth 100000 in
set_option maxHeartbeats 2000000 in
theorem rdistinct_any (n : Nat) (sd : Int) (hn0 : 0 < n) (hn : n ≤ 1024) (S : List Ky) (hS1 : S.length ≤ 1000000) (hb : Hb S) (u : Value) (w : World) (hu : StV w n sd S u) :
    Calls Try.prog 29 #[u] w fun e w' => e = .returned (.int .i64 ((dstN n S : Nat) : Int)) ∧ Below w.heap.size w w' := by
  have HKp := Lib.hid (fun W h => kept_any n sd S hS1 u W h)
  have HEx := Lib.hid (fun W h => rexact_any n sd S hS1 u W h)
  have HU := Lib.hid hu
  obtain ⟨v, rfl, hv⟩ := hu
  obtain ⟨A0, c0, rfl, _⟩ := hv
  obtain ⟨S0, hS0⟩ : ∃ q, q = S.length := ⟨_, rfl⟩
  have HS0 := Lib.hid hS0
  rw [← hS0] at HU HKp HEx ⊢
  have HB1 : Hid (Below w.heap.size w (w.alloc (.cells #[.int .i64 (n : Int), .int .i64 sd, .slice A0 S0 c0] 28))) := Lib.hid ((Below.refl _ _).alloc (Nat.le_refl _) _)
  have HG := Lib.hid (Deep.blk_alloc_new w (.cells #[.int .i64 (n : Int), .int .i64 sd, .slice A0 S0 c0] 28))
  obtain ⟨w0, hw0⟩ : ∃ w0, w0 = w.alloc (.cells #[.int .i64 (n : Int), .int .i64 sd, .slice A0 S0 c0] 28) := ⟨_, rfl⟩
  rw [← hw0] at HB1 HG
  have hl0 : w.heap.size < w0.heap.size := (Array.getElem?_eq_some_iff.1 HG.out).1
  have HC : Hid (∀ W : World, W.heap[w.heap.size]? = some (.cells #[.int .i64 (n : Int), .int .i64 sd, .slice A0 S0 c0] 28 (0, 0)) → W.cell? ⟨w.heap.size, 0, none⟩ = some (.int .i64 (n : Int)) ∧ W.cell? ⟨w.heap.size, 1, none⟩ = some (.int .i64 sd) ∧ W.cell? ⟨w.heap.size, 2, none⟩ = some (.slice A0 S0 c0)) := Lib.hid (fun W h => ⟨cell_of_row W _ 0 _ _ _ h, cell_of_row W _ 1 _ _ _ h, cell_of_row W _ 2 _ _ _ h⟩)
  obtain ⟨r0, r1, r2⟩ := HC.out _ HG.out
  have HW0 := Lib.hid hw0
  rw [hw0] at r0 r1 r2
  obtain ⟨D, hD⟩ : ∃ D, D = dstN n S := ⟨_, rfl⟩
  have HDe := Lib.hid hD
  rw [← hD]
  clear hw0 hS1 hS0 hD
  go_enter Try.func29, Try.ntmps29
  go_wp2_with fail
  rw [← HW0.out] at r0 r1 r2 ⊢
  with_reducible refine (HKp.out _ (HU.out.below HB1.out)).mono ?_
  rintro e w1 ⟨⟨v1, rfl, hv1⟩, hb1⟩
  have HV := Lib.hid hv1
  obtain ⟨A, c, rfl, _⟩ := hv1
  have HB2 := Lib.hid (bz_call HB1.out hb1)
  have HG2 := Lib.hid (blk_below HG.out hb1)
  obtain ⟨ln, hln⟩ : ∃ q, q = (S.take n).length := ⟨_, rfl⟩
  have HLt : Hid (ln = min n S.length) := Lib.hid (by rw [hln, List.length_take])
  rw [← hln] at HV ⊢
  have HLn := Lib.hid hln
  clear r0 r1 r2 hb1 hln
  obtain ⟨r0, r1, r2⟩ := HC.out _ HG2.out
  go_wp2_with fail
  with_reducible refine (HEx.out _ (HU.out.below HB2.out)).mono ?_
  rintro e w2 ⟨rfl, hb1⟩
  have HB3 := Lib.hid (bz_call HB2.out hb1)
  have HG3 := Lib.hid (blk_below HG2.out hb1)
  replace HV := Lib.hid (HV.out.below hb1)
  clear r0 r1 r2 hb1
  by_cases hS : S0 ≤ n
  · have d1 : (!decide (n < S0)) = true := by simp; exact hS
    have HR : Hid (D = ln) := Lib.hid (by rw [HDe.out]; unfold dstN; have := HS0.out; have := HLt.out; rw [if_pos (by omega)]; omega)
    rw [d1]
    clear d1 hS
    go_wp2_with fail
    go_ret
    exact ⟨by rw [HR.out]; rfl, HB3.out⟩
  · have d1 : (!decide (n < S0)) = false := by simp; omega
    rw [d1]
    have hS2 := HS0.out
    have hln2 : ln = n := by have := HLt.out; omega
    obtain ⟨A', c', e', hlc, hnl, hR⟩ := HV.out
    clear hnl
    simp only [Value.slice.injEq] at e'
    obtain ⟨rfl, e9, rfl⟩ := e'
    have hn1 : n - 1 < (S.take n).length := by rw [← e9]; omega
    obtain ⟨b, off, rfl, hbl, h0, h1⟩ := hR.at (n - 1) hn1
    have hget : ((S.take n)[n - 1]'hn1) = S.getD (n - 1) (0, ByteArray.empty) := by
      rw [List.getElem_take]; simp [List.getD, List.getElem?_eq_getElem (show n - 1 < S.length by omega)]
    rw [hget] at h0
    have hbd := hb _ (List.getElem_mem (show n - 1 < S.length by omega))
    have hge : S[n - 1]'(by omega) = S.getD (n - 1) (0, ByteArray.empty) := by simp [List.getD, List.getElem?_eq_getElem (show n - 1 < S.length by omega)]
    rw [hge] at hbd
    obtain ⟨h, hh⟩ : ∃ h : Nat, (h : Int) = (S.getD (n - 1) (0, ByteArray.empty)).1 := ⟨(S.getD (n - 1) (0, ByteArray.empty)).1.toNat, by omega⟩
    rw [← hh] at h0 hbd
    have HR : Hid (D = estN n h) := Lib.hid (by rw [HDe.out]; unfold dstN; rw [if_neg (by omega), ← hh, Int.toNat_natCast])
    obtain ⟨r0, r1, r2⟩ := HC.out _ HG3.out
    obtain ⟨m, hm1⟩ : ∃ m, m = n - 1 := ⟨_, rfl⟩
    rw [← hm1] at h0
    have e1 : IntKind.i64.wrap ((n : Int) - 1) = (m : Int) := by rw [IntKind.wrap_i64]; omega
    have hmn : (m : Int) < (ln : Int) := by omega
    have hm0 : (0 : Int) ≤ (m : Int) := by omega
    clear h1 e9 hlc hR hget hge hn1 d1 hS2
    by_cases h00 : h = 0
    · subst h00
      have HR2 : Hid (D = n) := Lib.hid (by rw [HR.out]; rfl)
      replace h0 : w2.cell? ⟨b, off + m * 2, none⟩ = some (.int .i64 0) := h0
      clear hbd hh hS hln2 hm1
      go_wp2_with fail
      go_ret
      exact ⟨by rw [HR2.out]; rfl, HB3.out⟩
    · have hne : ((h : Int) == 0) = false := by rw [beq_eq_false_iff_ne]; omega
      have HQ := Lib.hid (fun W => quotient_any m h 1099511627776 (by omega) (by omega) (by omega) (by omega) W)
      rw [show ((1099511627776 : Nat) : Int) = 1099511627776 from rfl] at HQ
      have hqe := quo_est hn h00
      rw [← hm1] at hqe
      clear hbd hh hS hln2 h00 hm1
      go_wp2_with fail
      with_reducible refine (HQ.out _).mono ?_
      rintro e w3 ⟨rfl, hb1⟩
      have HB4 := Lib.hid (bz_call HB3.out hb1)
      have HG4 := Lib.hid (blk_below HG3.out hb1)
      clear r0 r1 r2 hb1 h0
      obtain ⟨r0, r1, r2⟩ := HC.out _ HG4.out
      rcases hqe with ⟨hq, hd⟩ | ⟨q, hq, hq1, hd⟩
      · rw [hq]
        have HR2 : Hid (D = 1099511627776) := Lib.hid (by rw [HR.out, hd])
        clear hq hd
        go_wp2_with fail
        go_ret
        exact ⟨by rw [HR2.out]; rfl, HB4.out⟩
      · rw [hq]
        have HR2 : Hid (D = max q n) := Lib.hid (by rw [HR.out, hd])
        have p1 : ¬ (q : Int) < 0 := by omega
        clear hq hd
        go_wp2_with fail
        go_ret
        exact ⟨ret_int (show max (q : Int) (n : Int) = _ by rw [HR2.out]; omega), HB4.out⟩
end Go.Proofs.Ytajainkaomkbjaa
