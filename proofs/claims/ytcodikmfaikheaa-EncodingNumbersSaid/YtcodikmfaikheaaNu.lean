/- EncodingNumbers: the call. -/
import Derived.Test.YtcodikmfaikheaaRn
namespace Go.Proofs.Ytcodikmfaikheaa
open Go.ChangeShapes Go.WideShapes Go.ChangeAt Go.RowKit En

theorem rdN_num (A rest : List UInt8) (n : Int) (h : In64 n) (p : Nat) (hp : p = A.length) : rdN ⟨(A ++ (num n ++ rest)).toArray⟩ p 0 = (n, p + (num n).length, 0) := by
  have e : ((⟨(A ++ (num n ++ rest)).toArray⟩ : ByteArray).data.toList.drop p) = num n ++ rest := by
    show (A ++ (num n ++ rest)).drop p = _
    rw [hp, List.drop_left]
  unfold rdN
  rw [if_pos rfl, e, scan_num n h, if_pos rfl, Int.toNat_natCast]
theorem whole_two (f f' : List UInt8) : whole [f', f] = f ++ f' := by simp [whole]

set_option maxRecDepth 100000 in
set_option maxHeartbeats 1000000 in
theorem numbers_any (m n : Int) (hm1 : -9223372036854775808 ≤ m) (hm2 : m ≤ 9223372036854775807) (hn1 : -9223372036854775808 ≤ n) (hn2 : n ≤ 9223372036854775807) (w : World) : Calls Try.prog 3 #[.int .i64 m, .int .i64 n] w fun e w' => e = .returned (.bool true) ∧ Below w.heap.size w w' := by
  have hbm := num_bounds m hm1 hm2
  have hbn := num_bounds n hn1 hn2
  have im : In64 m := ⟨hm1, hm2⟩
  have iN : In64 n := ⟨hn1, hn2⟩
  have hr1 := rdN_num [] (num n) m im 0 rfl
  have hr2 := rdN_num (num m) [] n iN (num m).length rfl
  rw [List.nil_append, Nat.zero_add] at hr1
  rw [List.append_nil] at hr2
  have hrm := fun w => ref_number m im w
  have hrn := fun w => ref_number n iN w
  obtain ⟨M, hM⟩ : ∃ M, M = num m := ⟨_, rfl⟩
  obtain ⟨N, hN⟩ : ∃ N, N = num n := ⟨_, rfl⟩
  have HM := Lib.hid hM
  have HN := Lib.hid hN
  rw [← hM] at hbm hr1 hr2 hrm
  rw [← hN] at hbn hr1 hr2 hrn
  obtain ⟨S, hS⟩ : ∃ S : ByteArray, S = ⟨(M ++ N).toArray⟩ := ⟨_, rfl⟩
  have hsz : S.size = M.length + N.length := by rw [hS]; show (M ++ N).toArray.size = _; simp
  have Hcat : Hid ((⟨M.toArray⟩ : ByteArray) ++ ⟨N.toArray⟩ = S) := Lib.hid (by
    rw [hS]; apply ByteArray.ext; simp)
  rw [← hS] at hr1 hr2
  have HS := Lib.hid hS
  have hEq : (S.toList == ((⟨M.toArray⟩ : ByteArray) ++ ⟨N.toArray⟩).toList) = true := by rw [Hcat.out, beq_self_eq_true]
  have hlim : (M.length : Int) + (N.length : Int) ≤ 9223372036854775807 := by omega
  have hlim2 : ¬ (9223372036854775807 : Int) < (M.length : Int) + (N.length : Int) := by omega
  have Htm : Hid (total [M] ≤ 1000000) := Lib.hid (by rw [total_cons]; show M.length + 0 ≤ _; omega)
  have htot : total [N, M] = S.size := by rw [total_cons, total_cons, hsz]; show N.length + (M.length + 0) = _; omega
  have Htn : Hid (total [N, M] ≤ 1000000) := Lib.hid (by rw [htot, hsz]; omega)
  have Htot := Lib.hid htot
  have Hp : Hid (∀ f ∈ [N, M], 0 < f.length) := Lib.hid (fun f hf => by
    rcases List.mem_cons.1 hf with rfl | hf
    · exact hbn.1
    · rw [List.mem_singleton.1 hf]; exact hbm.1)
  have Hr1 := Lib.hid hr1
  have Hr2 := Lib.hid hr2
  have Hss : Hid (S.size ≤ 1000000) := Lib.hid (by omega)
  have Hsz := Lib.hid hsz
  clear hM hN hS hr1 hr2 htot hsz hbm hbn im iN
  go_enter Try.func3, Try.ntmps3
  go_wp2_with fail
  have hW0 : WS (w.alloc (.cells #[.pointer none, .int .i64 0] 24)) w.heap.size [] := ⟨.pointer none, Deep.blk_alloc_new w _, rfl⟩
  refine (w_number w.heap.size [] m hm1 hm2 (by decide) _ hW0).mono ?_
  rw [← HM.out]
  rintro e w1 ⟨rfl, hW1, g1⟩
  have HB1 : Hid (Below w.heap.size w w1) := Lib.hid (below_grown ((Below.refl w.heap.size w).alloc (Nat.le_refl _) _) g1 (Nat.le_refl _) (Nat.le_refl _))
  have HW1 := Lib.hid hW1
  clear hW0 hW1 g1
  go_wp2_with fail
  refine (w_number w.heap.size [M] n hn1 hn2 Htm.out _ HW1.out).mono ?_
  rw [← HN.out]
  rintro e w2 ⟨rfl, hW2, g2⟩
  have HB2 : Hid (Below w.heap.size w w2) := Lib.hid (below_grown HB1.out g2 (Nat.le_refl _) (Nat.le_refl _))
  have HW2 := Lib.hid hW2
  clear hW2 g2
  go_wp2_with fail
  refine (w_bytes w.heap.size [N, M] Hp.out Htn.out w2 HW2.out).mono ?_
  rw [whole_two, ← HS.out]
  rintro e w3 ⟨rfl, hB3⟩
  have HB3 : Hid (Below w.heap.size w w3) := Lib.hid (Below.trans HB2.out (hB3.mono HB2.out.size))
  have HW3 := Lib.hid (HW2.out.below hB3)
  have hb3 := HB3.out.size
  clear hB3
  go_wp2_with fail
  refine (new_reader S w3).mono ?_
  rintro e w4 ⟨rfl, hR4, hB4⟩
  have HB4 : Hid (Below w.heap.size w w4) := Lib.hid (Below.trans HB3.out (hB4.mono HB3.out.size))
  have HW4 := Lib.hid (HW3.out.below hB4)
  have HR4 := Lib.hid hR4
  clear hR4 hB4
  go_wp2_with fail
  refine (known_any w4).mono ?_
  rintro e w5 ⟨rfl, hB5⟩
  have HB5 : Hid (Below w.heap.size w w5) := Lib.hid (Below.trans HB4.out (hB5.mono HB4.out.size))
  have HW5 := Lib.hid (HW4.out.below hB5)
  have HR5 := Lib.hid (HR4.out.below hB5)
  clear hB5
  go_wp2_with fail
  refine (hrm w5).mono ?_
  rintro e w6 ⟨rfl, hB6⟩
  have HB6 : Hid (Below w.heap.size w w6) := Lib.hid (Below.trans HB5.out (hB6.mono HB5.out.size))
  have HW6 := Lib.hid (HW5.out.below hB6)
  have HR6 := Lib.hid (HR5.out.below hB6)
  clear hB6
  go_wp2_with fail
  refine (hrn w6).mono ?_
  rintro e w7 ⟨rfl, hB7⟩
  have HB7 : Hid (Below w.heap.size w w7) := Lib.hid (Below.trans HB6.out (hB7.mono HB6.out.size))
  have HW7 := Lib.hid (HW6.out.below hB7)
  have HR7 := Lib.hid (HR6.out.below hB7)
  clear hB7 hrm hrn
  go_wp2_with fail
  refine (w_len w.heap.size [N, M] w7 HW7.out).mono ?_
  rw [Htot.out]
  rintro e w8 ⟨rfl, rfl⟩
  go_wp2_with fail
  refine (read_number w3.heap.size S 0 0 Hss.out _ HR7.out).mono ?_
  rw [Hr1.out]
  rintro e w9 ⟨rfl, hR9, g9⟩
  have HB9 : Hid (Below w.heap.size w w9) := Lib.hid (below_grown HB7.out g9 (by omega) (Nat.le_refl _))
  have HR9 := Lib.hid hR9
  clear hR9 g9
  go_wp2_with fail
  refine (read_number w3.heap.size S M.length 0 Hss.out _ HR9.out).mono ?_
  rw [Hr2.out, show (n, M.length + N.length, (0 : Int)).2.1 = S.size from Hsz.out.symm]
  rintro e w10 ⟨rfl, hR10, g10⟩
  have HB10 : Hid (Below w.heap.size w w10) := Lib.hid (below_grown HB9.out g10 (by omega) (Nat.le_refl _))
  have HR10 := Lib.hid hR10
  clear hR10 g10
  go_wp2_with fail
  refine (r_end_ok w3.heap.size S Hss.out _ HR10.out).mono ?_
  rintro e w11 ⟨rfl, hB11⟩
  have HB11 : Hid (Below w.heap.size w w11) := Lib.hid (Below.trans HB10.out (hB11.mono HB10.out.size))
  have HR11 := Lib.hid (HR10.out.below hB11)
  clear hB11
  go_wp2_with fail
  refine (r_left w3.heap.size S S.size 0 Hss.out _ HR11.out).mono ?_
  rw [Nat.sub_self]
  rintro e w12 ⟨rfl, rfl⟩
  go_wp2_with fail
  go_ret
  exact ⟨rfl, Below.drew HB11.out⟩
end Go.Proofs.Ytcodikmfaikheaa
