/- The statement BitmapRange: for any two numbers, the law returns true and changes nothing (written by wip/bin/gen_range.py). -/
import Derived.Test.YtacgomhegjilgaaRow
namespace Go.Proofs.Ytacgomhegjilgaa.lawRange
open Go.Proofs.Ytacgomhegjilgaa Go.ChangeShapes Go.WideShapes Go.ChangeAt Go.RowKit Go.Joins Ts

theorem nil_bs (n : Nat) : Bs n [] := ⟨Nrm.nil, Nat.zero_le _, fun _ h => absurd h In.nil⟩
theorem all_eq {size : Int} (h : 0 ≤ size ∧ size ≤ 1048576) {N : List Iv} (hN : Nrm N ∧ ∀ n, In n N ↔ (has n (allL size) && !has n []) = true) : N = allL size := by
  refine nrm_ext hN.1 (all_bs h).nrm (fun n => (hN.2 n).trans ?_)
  rw [show has n [] = false from rfl, Bool.not_false, Bool.and_true, has_in]
theorem all_cnt {size : Int} (h : 0 ≤ size ∧ size ≤ 1048576) : cnt (rn (allL size)) = size := by
  unfold allL
  by_cases h0 : 0 < size
  · rw [if_pos h0]; simp [rn, rx, cnt]
  · rw [if_neg h0]; simp [rn, cnt]; omega
theorem one_rb {a b : Int} (h1 : 0 ≤ a) (h2 : b ≤ 1048576) (h3 : a < b) : Rb [(a, b - 1)] := fun x hx => by
  rw [List.mem_singleton.1 hx]; dsimp only; omega
theorem not_zero (to : Int) (h : 0 ≤ to ∧ to ≤ 1048576) (w : World) :
    Calls Try.prog 26 #[.agg #[.slice none 0 0], .int .i64 to] w fun e w' => (∃ r, e = .returned (.tuple #[.agg #[r], .int .i64 0]) ∧ Sl w' r (rn (allL to))) ∧ Below w.heap.size w w' := by
  refine (not_ok (B := []) (nil_bs _) to h w (sl_zero w)).mono ?_
  rintro e w' ⟨⟨r, N, rfl, hown, hN⟩, hb⟩
  obtain rfl := all_eq h hN
  exact ⟨⟨r, rfl, sl_own hown⟩, hb⟩

set_option maxRecDepth 100000 in
set_option maxHeartbeats 4000000 in
theorem walk_neg_neg (w : World) (fr to : Int) (hf : fr < 0) (ht : to < 0) :
    Calls Try.prog 5 #[.int .i64 fr, .int .i64 to] w fun e w' => e = .returned (.bool true) ∧ Below w.heap.size w w' := by
  obtain ⟨q1, q2⟩ := rg_bad (a := fr) (b := to) (by omega)
  have HR := Lib.hid (fun W => range_any fr to W)
  rw [q1, q2] at HR
  clear q1 q2
  go_enter Try.func5, Try.ntmps5
  go_wp2_with fail
  refine (known_any _).mono ?_
  rintro e w1 ⟨rfl, hb⟩
  have H1 := Lib.hid ((Hold.start w).next hb)
  clear hb
  go_wp2_with fail
  refine (HR.out _).mono ?_
  rintro e w2 ⟨⟨r, rfl, hr2⟩, hb⟩
  have H2 := Lib.hid ((H1.out.next hb).addV hr2)
  obtain ⟨A, c, rfl, _, _, _, _⟩ := hr2
  have H2a := Lib.hid (H2.out.alloc (.cells #[.slice A 0 c] 26) (Deep.blk_alloc_new w2 _))
  clear hb
  go_wp2_with fail
  refine (not_bad none 0 0 to (by omega) _).mono ?_
  rintro e w3 ⟨rfl, hb⟩
  have H3 := Lib.hid (H2a.out.next hb)
  have H4 := Lib.hid (H3.out.alloc (.cells #[.slice none 0 0] 26) (Deep.blk_alloc_new w3 _))
  have hc := H3.out.cell (.head _) 0
  have hlt := H3.out.lt (.head _)
  clear hb
  go_wp2_with fail
  refine (len_any (L := []) (by decide) (fun _ h => nomatch h) _ (H4.out.set _ (.head _))).mono ?_
  rintro e w5 ⟨rfl, hb⟩
  have H5 := Lib.hid (H4.out.next hb)
  clear hb
  go_wp2_with fail
  go_ret
  exact ⟨rfl, H5.out.out⟩
set_option maxRecDepth 100000 in
set_option maxHeartbeats 4000000 in
theorem walk_neg_big (w : World) (fr to : Int) (hf : fr < 0) (ht : 1048576 < to) :
    Calls Try.prog 5 #[.int .i64 fr, .int .i64 to] w fun e w' => e = .returned (.bool true) ∧ Below w.heap.size w w' := by
  obtain ⟨q1, q2⟩ := rg_bad (a := fr) (b := to) (by omega)
  have HR := Lib.hid (fun W => range_any fr to W)
  rw [q1, q2] at HR
  clear q1 q2
  go_enter Try.func5, Try.ntmps5
  go_wp2_with fail
  refine (known_any _).mono ?_
  rintro e w1 ⟨rfl, hb⟩
  have H1 := Lib.hid ((Hold.start w).next hb)
  clear hb
  go_wp2_with fail
  refine (HR.out _).mono ?_
  rintro e w2 ⟨⟨r, rfl, hr2⟩, hb⟩
  have H2 := Lib.hid ((H1.out.next hb).addV hr2)
  obtain ⟨A, c, rfl, _, _, _, _⟩ := hr2
  have H2a := Lib.hid (H2.out.alloc (.cells #[.slice A 0 c] 26) (Deep.blk_alloc_new w2 _))
  clear hb
  go_wp2_with fail
  refine (not_bad none 0 0 to (by omega) _).mono ?_
  rintro e w3 ⟨rfl, hb⟩
  have H3 := Lib.hid (H2a.out.next hb)
  have H4 := Lib.hid (H3.out.alloc (.cells #[.slice none 0 0] 26) (Deep.blk_alloc_new w3 _))
  have hc := H3.out.cell (.head _) 0
  have hlt := H3.out.lt (.head _)
  clear hb
  go_wp2_with fail
  refine (len_any (L := []) (by decide) (fun _ h => nomatch h) _ (H4.out.set _ (.head _))).mono ?_
  rintro e w5 ⟨rfl, hb⟩
  have H5 := Lib.hid (H4.out.next hb)
  clear hb
  go_wp2_with fail
  go_ret
  exact ⟨rfl, H5.out.out⟩
set_option maxRecDepth 100000 in
set_option maxHeartbeats 4000000 in
theorem walk_neg_ok (w : World) (fr to : Int) (hf : fr < 0) (ht : 0 ≤ to ∧ to ≤ 1048576) :
    Calls Try.prog 5 #[.int .i64 fr, .int .i64 to] w fun e w' => e = .returned (.bool true) ∧ Below w.heap.size w w' := by
  obtain ⟨q1, q2⟩ := rg_bad (a := fr) (b := to) (by omega)
  have HR := Lib.hid (fun W => range_any fr to W)
  rw [q1, q2] at HR
  clear q1 q2
  have HC := Lib.hid (fun W => not_zero to ht W)
  have hrc := bs_rc (all_bs ht)
  have HN := Lib.hid (fun W v h => len_any (v := v) (L := rn (allL to)) (by rw [rn_len]; exact (all_bs ht).len) (rc_rb hrc) W h)
  rw [all_cnt ht] at HN
  clear hrc
  obtain ⟨K, hK⟩ : ∃ K, K = rn (allL to) := ⟨_, rfl⟩
  rw [← hK] at HC HN
  clear hK
  have ht1 := ht.1
  have ht2 := ht.2
  go_enter Try.func5, Try.ntmps5
  go_wp2_with fail
  refine (known_any _).mono ?_
  rintro e w1 ⟨rfl, hb⟩
  have H1 := Lib.hid ((Hold.start w).next hb)
  clear hb
  go_wp2_with fail
  refine (HR.out _).mono ?_
  rintro e w2 ⟨⟨r, rfl, hr2⟩, hb⟩
  have H2 := Lib.hid ((H1.out.next hb).addV hr2)
  obtain ⟨A, c, rfl, _, _, _, _⟩ := hr2
  have H2a := Lib.hid (H2.out.alloc (.cells #[.slice A 0 c] 26) (Deep.blk_alloc_new w2 _))
  clear hb
  go_wp2_with fail
  refine (HC.out _).mono ?_
  rintro e w3 ⟨⟨r3, rfl, hr3⟩, hb⟩
  have H3 := Lib.hid ((H2a.out.next hb).addV hr3)
  obtain ⟨A3, c3, rfl, _, _, _, _⟩ := hr3
  have H3a := Lib.hid (H3.out.alloc (.cells #[.slice A3 K.length c3] 26) (Deep.blk_alloc_new w3 _))
  have hc := H3.out.cell (.head _) 0
  have hlt := H3.out.lt (.head _)
  clear hb
  go_wp2_with fail
  refine (HN.out _ _ (H3a.out.set _ (.head _))).mono ?_
  rintro e w4 ⟨rfl, hb⟩
  have H4 := Lib.hid (H3a.out.next hb)
  clear hb hc hlt
  have hc := H4.out.cell (.tail _ (.head _)) 0
  go_wp2_with fail
  refine (len_any (L := []) (by decide) (fun _ h => nomatch h) _ (H4.out.set _ (.tail _ (.head _)))).mono ?_
  rintro e w5 ⟨rfl, hb⟩
  have H5 := Lib.hid (H4.out.next hb)
  clear hb
  go_wp2_with fail
  go_ret
  exact ⟨rfl, H5.out.out⟩
set_option maxRecDepth 100000 in
set_option maxHeartbeats 4000000 in
theorem walk_big_neg (w : World) (fr to : Int) (hf : 1048576 < fr) (ht : to < 0) :
    Calls Try.prog 5 #[.int .i64 fr, .int .i64 to] w fun e w' => e = .returned (.bool true) ∧ Below w.heap.size w w' := by
  obtain ⟨q1, q2⟩ := rg_bad (a := fr) (b := to) (by omega)
  have HR := Lib.hid (fun W => range_any fr to W)
  rw [q1, q2] at HR
  clear q1 q2
  go_enter Try.func5, Try.ntmps5
  go_wp2_with fail
  refine (known_any _).mono ?_
  rintro e w1 ⟨rfl, hb⟩
  have H1 := Lib.hid ((Hold.start w).next hb)
  clear hb
  go_wp2_with fail
  refine (HR.out _).mono ?_
  rintro e w2 ⟨⟨r, rfl, hr2⟩, hb⟩
  have H2 := Lib.hid ((H1.out.next hb).addV hr2)
  obtain ⟨A, c, rfl, _, _, _, _⟩ := hr2
  have H2a := Lib.hid (H2.out.alloc (.cells #[.slice A 0 c] 26) (Deep.blk_alloc_new w2 _))
  clear hb
  go_wp2_with fail
  refine (not_bad none 0 0 to (by omega) _).mono ?_
  rintro e w3 ⟨rfl, hb⟩
  have H3 := Lib.hid (H2a.out.next hb)
  have H4 := Lib.hid (H3.out.alloc (.cells #[.slice none 0 0] 26) (Deep.blk_alloc_new w3 _))
  have hc := H3.out.cell (.head _) 0
  have hlt := H3.out.lt (.head _)
  clear hb
  go_wp2_with fail
  refine (len_any (L := []) (by decide) (fun _ h => nomatch h) _ (H4.out.set _ (.head _))).mono ?_
  rintro e w5 ⟨rfl, hb⟩
  have H5 := Lib.hid (H4.out.next hb)
  clear hb
  go_wp2_with fail
  go_ret
  exact ⟨rfl, H5.out.out⟩
set_option maxRecDepth 100000 in
set_option maxHeartbeats 4000000 in
theorem walk_big_big (w : World) (fr to : Int) (hf : 1048576 < fr) (ht : 1048576 < to) :
    Calls Try.prog 5 #[.int .i64 fr, .int .i64 to] w fun e w' => e = .returned (.bool true) ∧ Below w.heap.size w w' := by
  obtain ⟨q1, q2⟩ := rg_bad (a := fr) (b := to) (by omega)
  have HR := Lib.hid (fun W => range_any fr to W)
  rw [q1, q2] at HR
  clear q1 q2
  go_enter Try.func5, Try.ntmps5
  go_wp2_with fail
  refine (known_any _).mono ?_
  rintro e w1 ⟨rfl, hb⟩
  have H1 := Lib.hid ((Hold.start w).next hb)
  clear hb
  go_wp2_with fail
  refine (HR.out _).mono ?_
  rintro e w2 ⟨⟨r, rfl, hr2⟩, hb⟩
  have H2 := Lib.hid ((H1.out.next hb).addV hr2)
  obtain ⟨A, c, rfl, _, _, _, _⟩ := hr2
  have H2a := Lib.hid (H2.out.alloc (.cells #[.slice A 0 c] 26) (Deep.blk_alloc_new w2 _))
  clear hb
  go_wp2_with fail
  refine (not_bad none 0 0 to (by omega) _).mono ?_
  rintro e w3 ⟨rfl, hb⟩
  have H3 := Lib.hid (H2a.out.next hb)
  have H4 := Lib.hid (H3.out.alloc (.cells #[.slice none 0 0] 26) (Deep.blk_alloc_new w3 _))
  have hc := H3.out.cell (.head _) 0
  have hlt := H3.out.lt (.head _)
  clear hb
  go_wp2_with fail
  refine (len_any (L := []) (by decide) (fun _ h => nomatch h) _ (H4.out.set _ (.head _))).mono ?_
  rintro e w5 ⟨rfl, hb⟩
  have H5 := Lib.hid (H4.out.next hb)
  clear hb
  go_wp2_with fail
  go_ret
  exact ⟨rfl, H5.out.out⟩
set_option maxRecDepth 100000 in
set_option maxHeartbeats 4000000 in
theorem walk_big_ok (w : World) (fr to : Int) (hf : 1048576 < fr) (ht : 0 ≤ to ∧ to ≤ 1048576) :
    Calls Try.prog 5 #[.int .i64 fr, .int .i64 to] w fun e w' => e = .returned (.bool true) ∧ Below w.heap.size w w' := by
  obtain ⟨q1, q2⟩ := rg_bad (a := fr) (b := to) (by omega)
  have HR := Lib.hid (fun W => range_any fr to W)
  rw [q1, q2] at HR
  clear q1 q2
  have HC := Lib.hid (fun W => not_zero to ht W)
  have hrc := bs_rc (all_bs ht)
  have HN := Lib.hid (fun W v h => len_any (v := v) (L := rn (allL to)) (by rw [rn_len]; exact (all_bs ht).len) (rc_rb hrc) W h)
  rw [all_cnt ht] at HN
  clear hrc
  obtain ⟨K, hK⟩ : ∃ K, K = rn (allL to) := ⟨_, rfl⟩
  rw [← hK] at HC HN
  clear hK
  have ht1 := ht.1
  have ht2 := ht.2
  go_enter Try.func5, Try.ntmps5
  go_wp2_with fail
  refine (known_any _).mono ?_
  rintro e w1 ⟨rfl, hb⟩
  have H1 := Lib.hid ((Hold.start w).next hb)
  clear hb
  go_wp2_with fail
  refine (HR.out _).mono ?_
  rintro e w2 ⟨⟨r, rfl, hr2⟩, hb⟩
  have H2 := Lib.hid ((H1.out.next hb).addV hr2)
  obtain ⟨A, c, rfl, _, _, _, _⟩ := hr2
  have H2a := Lib.hid (H2.out.alloc (.cells #[.slice A 0 c] 26) (Deep.blk_alloc_new w2 _))
  clear hb
  go_wp2_with fail
  refine (HC.out _).mono ?_
  rintro e w3 ⟨⟨r3, rfl, hr3⟩, hb⟩
  have H3 := Lib.hid ((H2a.out.next hb).addV hr3)
  obtain ⟨A3, c3, rfl, _, _, _, _⟩ := hr3
  have H3a := Lib.hid (H3.out.alloc (.cells #[.slice A3 K.length c3] 26) (Deep.blk_alloc_new w3 _))
  have hc := H3.out.cell (.head _) 0
  have hlt := H3.out.lt (.head _)
  clear hb
  go_wp2_with fail
  refine (HN.out _ _ (H3a.out.set _ (.head _))).mono ?_
  rintro e w4 ⟨rfl, hb⟩
  have H4 := Lib.hid (H3a.out.next hb)
  clear hb hc hlt
  have hc := H4.out.cell (.tail _ (.head _)) 0
  go_wp2_with fail
  refine (len_any (L := []) (by decide) (fun _ h => nomatch h) _ (H4.out.set _ (.tail _ (.head _)))).mono ?_
  rintro e w5 ⟨rfl, hb⟩
  have H5 := Lib.hid (H4.out.next hb)
  clear hb
  go_wp2_with fail
  go_ret
  exact ⟨rfl, H5.out.out⟩
set_option maxRecDepth 100000 in
set_option maxHeartbeats 4000000 in
theorem walk_ok_neg (w : World) (fr to : Int) (hf : 0 ≤ fr ∧ fr ≤ 1048576) (ht : to < 0) :
    Calls Try.prog 5 #[.int .i64 fr, .int .i64 to] w fun e w' => e = .returned (.bool true) ∧ Below w.heap.size w w' := by
  obtain ⟨q1, q2⟩ := rg_bad (a := fr) (b := to) (by omega)
  have HR := Lib.hid (fun W => range_any fr to W)
  rw [q1, q2] at HR
  clear q1 q2
  have hf1 := hf.1
  have hf2 := hf.2
  go_enter Try.func5, Try.ntmps5
  go_wp2_with fail
  refine (known_any _).mono ?_
  rintro e w1 ⟨rfl, hb⟩
  have H1 := Lib.hid ((Hold.start w).next hb)
  clear hb
  go_wp2_with fail
  refine (HR.out _).mono ?_
  rintro e w2 ⟨⟨r, rfl, hr2⟩, hb⟩
  have H2 := Lib.hid ((H1.out.next hb).addV hr2)
  obtain ⟨A, c, rfl, _, _, _, _⟩ := hr2
  have H2a := Lib.hid (H2.out.alloc (.cells #[.slice A 0 c] 26) (Deep.blk_alloc_new w2 _))
  clear hb
  go_wp2_with fail
  refine (not_bad none 0 0 to (by omega) _).mono ?_
  rintro e w3 ⟨rfl, hb⟩
  have H3 := Lib.hid (H2a.out.next hb)
  have H4 := Lib.hid (H3.out.alloc (.cells #[.slice none 0 0] 26) (Deep.blk_alloc_new w3 _))
  have hc := H3.out.cell (.head _) 0
  have hlt := H3.out.lt (.head _)
  clear hb
  go_wp2_with fail
  refine (len_any (L := []) (by decide) (fun _ h => nomatch h) _ (H4.out.set _ (.head _))).mono ?_
  rintro e w5 ⟨rfl, hb⟩
  have H5 := Lib.hid (H4.out.next hb)
  clear hb
  go_wp2_with fail
  go_ret
  exact ⟨rfl, H5.out.out⟩
set_option maxRecDepth 100000 in
set_option maxHeartbeats 4000000 in
theorem walk_ok_big (w : World) (fr to : Int) (hf : 0 ≤ fr ∧ fr ≤ 1048576) (ht : 1048576 < to) :
    Calls Try.prog 5 #[.int .i64 fr, .int .i64 to] w fun e w' => e = .returned (.bool true) ∧ Below w.heap.size w w' := by
  obtain ⟨q1, q2⟩ := rg_bad (a := fr) (b := to) (by omega)
  have HR := Lib.hid (fun W => range_any fr to W)
  rw [q1, q2] at HR
  clear q1 q2
  have hf1 := hf.1
  have hf2 := hf.2
  go_enter Try.func5, Try.ntmps5
  go_wp2_with fail
  refine (known_any _).mono ?_
  rintro e w1 ⟨rfl, hb⟩
  have H1 := Lib.hid ((Hold.start w).next hb)
  clear hb
  go_wp2_with fail
  refine (HR.out _).mono ?_
  rintro e w2 ⟨⟨r, rfl, hr2⟩, hb⟩
  have H2 := Lib.hid ((H1.out.next hb).addV hr2)
  obtain ⟨A, c, rfl, _, _, _, _⟩ := hr2
  have H2a := Lib.hid (H2.out.alloc (.cells #[.slice A 0 c] 26) (Deep.blk_alloc_new w2 _))
  clear hb
  go_wp2_with fail
  refine (not_bad none 0 0 to (by omega) _).mono ?_
  rintro e w3 ⟨rfl, hb⟩
  have H3 := Lib.hid (H2a.out.next hb)
  have H4 := Lib.hid (H3.out.alloc (.cells #[.slice none 0 0] 26) (Deep.blk_alloc_new w3 _))
  have hc := H3.out.cell (.head _) 0
  have hlt := H3.out.lt (.head _)
  clear hb
  go_wp2_with fail
  refine (len_any (L := []) (by decide) (fun _ h => nomatch h) _ (H4.out.set _ (.head _))).mono ?_
  rintro e w5 ⟨rfl, hb⟩
  have H5 := Lib.hid (H4.out.next hb)
  clear hb
  go_wp2_with fail
  go_ret
  exact ⟨rfl, H5.out.out⟩
set_option maxRecDepth 100000 in
set_option maxHeartbeats 4000000 in
theorem walk_ok_ok_ge (w : World) (fr to : Int) (hf : 0 ≤ fr ∧ fr ≤ 1048576) (ht : 0 ≤ to ∧ to ≤ 1048576) (hr : to ≤ fr) :
    Calls Try.prog 5 #[.int .i64 fr, .int .i64 to] w fun e w' => e = .returned (.bool true) ∧ Below w.heap.size w w' := by
  obtain ⟨q1, q2⟩ := rg_none (a := fr) (b := to) (by omega) hr
  have HR := Lib.hid (fun W => range_any fr to W)
  rw [q1, q2] at HR
  clear q1 q2
  have HC := Lib.hid (fun W => not_zero to ht W)
  have hrc := bs_rc (all_bs ht)
  have HN := Lib.hid (fun W v h => len_any (v := v) (L := rn (allL to)) (by rw [rn_len]; exact (all_bs ht).len) (rc_rb hrc) W h)
  rw [all_cnt ht] at HN
  clear hrc
  obtain ⟨K, hK⟩ : ∃ K, K = rn (allL to) := ⟨_, rfl⟩
  rw [← hK] at HC HN
  clear hK
  have hf1 := hf.1
  have hf2 := hf.2
  have ht1 := ht.1
  have ht2 := ht.2
  go_enter Try.func5, Try.ntmps5
  go_wp2_with fail
  refine (known_any _).mono ?_
  rintro e w1 ⟨rfl, hb⟩
  have H1 := Lib.hid ((Hold.start w).next hb)
  clear hb
  go_wp2_with fail
  refine (HR.out _).mono ?_
  rintro e w2 ⟨⟨r, rfl, hr2⟩, hb⟩
  have H2 := Lib.hid ((H1.out.next hb).addV hr2)
  obtain ⟨A, c, rfl, _, _, _, _⟩ := hr2
  have H2a := Lib.hid (H2.out.alloc (.cells #[.slice A 0 c] 26) (Deep.blk_alloc_new w2 _))
  clear hb
  go_wp2_with fail
  refine (HC.out _).mono ?_
  rintro e w3 ⟨⟨r3, rfl, hr3⟩, hb⟩
  have H3 := Lib.hid ((H2a.out.next hb).addV hr3)
  obtain ⟨A3, c3, rfl, _, _, _, _⟩ := hr3
  have H3a := Lib.hid (H3.out.alloc (.cells #[.slice A3 K.length c3] 26) (Deep.blk_alloc_new w3 _))
  have hc := H3.out.cell (.head _) 0
  have hlt := H3.out.lt (.head _)
  clear hb
  go_wp2_with fail
  refine (HN.out _ _ (H3a.out.set _ (.head _))).mono ?_
  rintro e w4 ⟨rfl, hb⟩
  have H4 := Lib.hid (H3a.out.next hb)
  clear hb hc hlt
  have hc := H4.out.cell (.tail _ (.head _)) 0
  go_wp2_with fail
  refine (is_true (N := []) (nil_bs _) none 0 [] (by decide) List.Pairwise.nil (fun n => ⟨(fun h => nomatch h), (fun h => absurd h In.nil)⟩) _ (H4.out.set _ (.tail _ (.head _))) Rs.nil).mono ?_
  rintro e w5 ⟨rfl, hb⟩
  have H5 := Lib.hid (H4.out.next hb)
  clear hb
  go_wp2_with fail
  go_ret
  exact ⟨rfl, H5.out.out⟩
set_option maxRecDepth 100000 in
set_option maxHeartbeats 4000000 in
theorem walk_ok_ok_lt (w : World) (fr to : Int) (hf : 0 ≤ fr ∧ fr ≤ 1048576) (ht : 0 ≤ to ∧ to ≤ 1048576) (hr : fr < to) :
    Calls Try.prog 5 #[.int .i64 fr, .int .i64 to] w fun e w' => e = .returned (.bool true) ∧ Below w.heap.size w w' := by
  obtain ⟨q1, q2⟩ := rg_one (a := fr) (b := to) (by omega) hr
  have HR := Lib.hid (fun W => range_any fr to W)
  rw [q1, q2] at HR
  clear q1 q2
  have HC := Lib.hid (fun W => not_zero to ht W)
  have hrc := bs_rc (all_bs ht)
  have HN := Lib.hid (fun W v h => len_any (v := v) (L := rn (allL to)) (by rw [rn_len]; exact (all_bs ht).len) (rc_rb hrc) W h)
  rw [all_cnt ht] at HN
  clear hrc
  obtain ⟨K, hK⟩ : ∃ K, K = rn (allL to) := ⟨_, rfl⟩
  rw [← hK] at HC HN
  clear hK
  have hf1 := hf.1
  have hf2 := hf.2
  have ht1 := ht.1
  have ht2 := ht.2
  have hw1 : IntKind.i64.wrap (to - 1) = to - 1 := by simp only [IntKind.wrap_i64]; omega
  have hw2 : IntKind.i64.wrap (to - fr) = to - fr := by simp only [IntKind.wrap_i64]; omega
  go_enter Try.func5, Try.ntmps5
  go_wp2_with fail
  refine (known_any _).mono ?_
  rintro e w1 ⟨rfl, hb⟩
  have H1 := Lib.hid ((Hold.start w).next hb)
  clear hb
  go_wp2_with fail
  refine (HR.out _).mono ?_
  rintro e w2 ⟨⟨r, rfl, hr2⟩, hb⟩
  have H2 := Lib.hid ((H1.out.next hb).addV hr2)
  obtain ⟨A, c, rfl, _, _, _, _⟩ := hr2
  have H2a := Lib.hid (H2.out.alloc (.cells #[.slice A 1 c] 26) (Deep.blk_alloc_new w2 _))
  clear hb
  go_wp2_with fail
  refine (HC.out _).mono ?_
  rintro e w3 ⟨⟨r3, rfl, hr3⟩, hb⟩
  have H3 := Lib.hid ((H2a.out.next hb).addV hr3)
  obtain ⟨A3, c3, rfl, _, _, _, _⟩ := hr3
  have H3a := Lib.hid (H3.out.alloc (.cells #[.slice A3 K.length c3] 26) (Deep.blk_alloc_new w3 _))
  have hc := H3.out.cell (.head _) 0
  have hlt := H3.out.lt (.head _)
  clear hb
  go_wp2_with fail
  refine (HN.out _ _ (H3a.out.set _ (.head _))).mono ?_
  rintro e w4 ⟨rfl, hb⟩
  have H4 := Lib.hid (H3a.out.next hb)
  clear hb hc hlt
  have hc := H4.out.cell (.tail _ (.head _)) 0
  go_wp2_with fail
  have H4a := Lib.hid (H4.out.alloc (.cells (ivCells [(fr, to - 1)]).toArray 40) (Deep.blk_alloc_new w4 _))
  have Hc := Lib.hid (law_runs (L := [(fr, to - 1)]) (by simp) (some ⟨w4.heap.size, 0, none⟩) 1 [(fr, to - 1)] (by simp) _ (H4a.out.set _ (.tail _ (.head _))) (rs_blk (cs := ivCells [(fr, to - 1)]) (H4a.out.blk _ (.head _))))
  rw [show decide ([(fr, to - 1)] = [(fr, to - 1)]) = true by simp] at Hc
  refine Hc.out.mono ?_
  rintro e w5 ⟨rfl, hb⟩
  have H5 := Lib.hid (H4a.out.next hb)
  clear hb hc
  have hc := H5.out.cell (.tail _ (.tail _ (.head _))) 0
  go_wp2_with fail
  have Hd := Lib.hid (len_any (L := [(fr, to - 1)]) (by simp) (one_rb hf1 ht2 hr) _ (H5.out.set _ (.tail _ (.head _))))
  rw [show cnt [(fr, to - 1)] = to - fr by simp [cnt]; omega] at Hd
  refine Hd.out.mono ?_
  rintro e w6 ⟨rfl, hb⟩
  have H6 := Lib.hid (H5.out.next hb)
  clear hb
  go_wp2_with fail
  go_ret
  exact ⟨by simp, H6.out.out⟩
theorem walk (w : World) (fr : Int) (_w1 : (Lit.int .i64 fr).wf = true) (to : Int) (_w2 : (Lit.int .i64 to).wf = true) :
    Calls Try.prog 5 #[.int .i64 fr, .int .i64 to] w fun e w' => e = .returned (.bool true) ∧ Below w.heap.size w w' := by
  rcases (by omega : fr < 0 ∨ 1048576 < fr ∨ (0 ≤ fr ∧ fr ≤ 1048576)) with hf | hf | hf
  all_goals rcases (by omega : to < 0 ∨ 1048576 < to ∨ (0 ≤ to ∧ to ≤ 1048576)) with ht | ht | ht
  · exact walk_neg_neg w fr to hf ht
  · exact walk_neg_big w fr to hf ht
  · exact walk_neg_ok w fr to hf ht
  · exact walk_big_neg w fr to hf ht
  · exact walk_big_big w fr to hf ht
  · exact walk_big_ok w fr to hf ht
  · exact walk_ok_neg w fr to hf ht
  · exact walk_ok_big w fr to hf ht
  · rcases (by omega : to ≤ fr ∨ fr < to) with hr | hr
    · exact walk_ok_ok_ge w fr to hf ht hr
    · exact walk_ok_ok_lt w fr to hf ht hr
set_option maxRecDepth 100000 in
theorem lifted (os : Os) (started : os.Started) (H : Type) (enc : TypeId × Value → H) :
    ReturnsInHanded {} Try.checked os 5 .any (Rows.bitmapRangeSpec.pre6 enc Try.prog Try.f5 Rows.bitmapRangeRow.domain false) (Rows.bitmapRangeSpec.post enc Try.prog Try.f5 false true false false) := by
  refine returnsInHanded_of_change (C := Try.checked) own started (by kernel_rfl) Try.func5
    (ChangeSpec.witness6 (enc := enc) (C := Try.checked) false ⟨#[], #[.int .i64 0, .int .i64 0], []⟩ 8 (by kernel_rfl) (by kernel_rfl) (by kernel_rfl) (by kernel_rfl)) ?_
  intro W base args ds gs before hval0 hW _ _
  have hval : ∀ (j : Nat) t v, Try.f5.params[j]? = some t → args[j]? = some v → Value.okWide Try.prog W .any base t v := hval0
  have hW' := hW
  obtain ⟨p, q, hA0, hV, rfl, _, _⟩ := hW
  have hA : DataW.TrodAll enc Try.prog W 0 (fun _ => true) true Try.f5.params.toList args.toList ds p := hA0
  rw [Try.params5] at hA hval
  obtain ⟨v0, vs0, d0, ds0, p0, q0, hargs0, rfl, rfl, h0, r0⟩ := trodAll_cons hA
  obtain ⟨v1, vs1, d1, ds1, p1, q1, hargs1, rfl, rfl, h1, r1⟩ := trodAll_cons r0
  obtain ⟨rfl, rfl, rfl⟩ := trodAll_nil r1
  obtain rfl : args = #[v0, v1] := by cases args; simp_all
  obtain ⟨rfl, rfl⟩ := trodVars_none hV
  obtain ⟨a0, rfl, rfl, rfl, wa0⟩ := open_int Try.underlying3 (hval 0 3 v0 rfl rfl) h0
  obtain ⟨a1, rfl, rfl, rfl, wa1⟩ := open_int Try.underlying3 (hval 1 3 v1 rfl rfl) h1
  clear hA0 hval0
  simp only [List.append_nil] at hW'
  refine (walk W a0 wa0 a1 wa1).mono fun e W' ⟨he, hb⟩ => ?_
  subst he
  exact ⟨_, rfl, post_mem hW' hb (fun _ _ _ => trodAll_mk1 (shut_bool Try.underlying4 _)) (fun _ _ => by
    exact trodAll_cons_mk (shut_int Try.underlying3 wa0) (trodAll_cons_mk (shut_int Try.underlying3 wa1) trodAll_mk0)) (fun _ => rfl) (ok_one (by kernel_rfl) rfl (okWide_bool_mk Try.underlying4 _))⟩

theorem proved : Rows.BitmapRangeSaid :=
  OpenClaim.holds_of_wide 5 Try.f5 rfl rfl rfl rfl rfl rfl rfl ⟨rfl, rfl, rfl, rfl, rfl⟩ rfl rfl rfl rfl rfl (by kernel_rfl) Try.func5 (by kernel_rfl)
    (of_decide_eq_true (by kernel_rfl)) (by unfold Func.isWrapper; first | (rw [if_pos (by decide +kernel)]; kernel_rfl) | (rw [if_neg (by decide +kernel)]; exact ⟨rfl, rfl⟩))
    (fun os started H enc _ => lifted os started H enc)

end Go.Proofs.Ytacgomhegjilgaa.lawRange
