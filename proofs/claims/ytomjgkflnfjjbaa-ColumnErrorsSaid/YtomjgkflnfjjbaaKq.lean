/- slices.Concat of two slices of ints; methods of nil columns; Append to a full column. -/
import Derived.Test.YtomjgkflnfjjbaaRow
import Derived.Test.YtomjgkflnfjjbaaGro
import Derived.Shelf.Spec.SlicesGrow
import Derived.Laws.AppendOwnNone
import Derived.Deep.RegionHeld3
namespace Go.Proofs.Ytomjgkflnfjjbaa
open Go.ChangeShapes Go.WideShapes Go.ChangeAt Go.RowKit En

theorem info_int0 : (Try.prog.info? 3).map (fun i => (i.zero, i.size, i.bytes)) = some (some (.int .i64 0), 1, 8) := by kernel_rfl
theorem one_ints (L : List Int) : ∀ u ∈ L.map (Value.int .i64), u.oneCell' = true := fun u hu => by
  obtain ⟨x, _, rfl⟩ := List.mem_map.1 hu
  rfl
theorem rd_ints {w : World} {A : Option Addr} {L : List Int} (h : Rd (Value.int .i64) w A L) : ∀ ad, A = some ad → ∀ j u, (L.map (Value.int .i64))[j]? = some u → w.cell? (ad.add j) = some u := by
  intro ad e j u hu
  rw [List.getElem?_map] at hu
  obtain ⟨x, hx, rfl⟩ := Option.map_eq_some_iff.1 hu
  obtain ⟨hk, rfl⟩ := List.getElem?_eq_some_iff.1 hx
  obtain ⟨b, off, e2, hb, hc⟩ := h j hk
  rw [e] at e2
  injection e2 with e2
  subst e2
  rw [add_flat]; exact hc
theorem sel_nil (A : Option Addr) (n c : Nat) (w : World) : Calls Try.prog 17 #[.pointer none, .slice A n c] w fun e w' => e = .returned (.tuple #[.slice none 0 0, .int .i64 1]) ∧ w = w' := by
  go_enter Try.func17, Try.ntmps17
  go_wp2_with fail
  exact bodyPost_ret (results_tmp2 rfl _ _ _) rfl ⟨rfl, rfl⟩
theorem slice_nil (a b : Int) (w : World) : Calls Try.prog 18 #[.pointer none, .int .i64 a, .int .i64 b] w fun e w' => e = .returned (.tuple #[.pointer none, .int .i64 1]) ∧ w = w' := by
  go_enter Try.func18, Try.ntmps18
  go_wp2_with fail
  exact bodyPost_ret (results_tmp2 rfl _ _ _) rfl ⟨rfl, rfl⟩
theorem app_nil1 (q : Option Addr) (w : World) : Calls Try.prog 19 #[.pointer none, .pointer q] w fun e w' => e = .returned (.tuple #[.pointer none, .int .i64 1]) ∧ w = w' := by
  go_enter Try.func19, Try.ntmps19
  go_wp2_with fail
  exact bodyPost_ret (results_tmp2 rfl _ _ _) rfl ⟨rfl, rfl⟩
theorem app_nil2 (q : Nat) (w : World) : Calls Try.prog 19 #[.pointer (some ⟨q, 0, none⟩), .pointer none] w fun e w' => e = .returned (.tuple #[.pointer none, .int .i64 1]) ∧ w = w' := by
  go_enter Try.func19, Try.ntmps19
  go_wp2_with fail
  exact bodyPost_ret (results_tmp2 rfl _ _ _) rfl ⟨rfl, rfl⟩
theorem enc_nil  (w : World) : Calls Try.prog 16 #[.pointer none] w fun e w' => e = .returned (.string ⟨#[]⟩) ∧ w = w' := by
  go_enter Try.func16, Try.ntmps16
  go_wp2_with fail
  go_ret
  exact ⟨rfl, rfl⟩
theorem kind_nil  (w : World) : Calls Try.prog 22 #[.pointer none] w fun e w' => e = .returned (.int .i64 0) ∧ w = w' := by
  go_enter Try.func22, Try.ntmps22
  go_wp2_with fail
  go_ret
  exact ⟨rfl, rfl⟩
theorem len_nil  (w : World) : Calls Try.prog 23 #[.pointer none] w fun e w' => e = .returned (.int .i64 0) ∧ w = w' := by
  go_enter Try.func23, Try.ntmps23
  go_wp2_with fail
  go_ret
  exact ⟨rfl, rfl⟩
theorem vals_nil  (w : World) : Calls Try.prog 15 #[.pointer none] w fun e w' => e = .returned (.slice none 0 0) ∧ w = w' := by
  go_enter Try.func15, Try.ntmps15
  go_wp2_with fail
  go_ret
  exact ⟨rfl, rfl⟩
theorem where_nil (a b : Int) (w : World) : Calls Try.prog 24 #[.pointer none, .int .i64 a, .int .i64 b] w fun e w' => e = .returned (.slice none 0 0) ∧ w = w' := by
  go_enter Try.func24, Try.ntmps24
  go_wp2_with fail
  go_ret
  exact ⟨rfl, rfl⟩
theorem eq_nn  (w : World) : Calls Try.prog 25 #[.pointer none, .pointer none] w fun e w' => e = .returned (.bool true) ∧ w = w' := by
  go_enter Try.func25, Try.ntmps25
  go_wp2_with fail
  go_ret
  exact ⟨rfl, rfl⟩
theorem eq_nq (q : Nat) (w : World) : Calls Try.prog 25 #[.pointer none, .pointer (some ⟨q, 0, none⟩)] w fun e w' => e = .returned (.bool false) ∧ w = w' := by
  go_enter Try.func25, Try.ntmps25
  go_wp2_with fail
  go_ret
  exact ⟨rfl, rfl⟩
theorem eq_qn (q : Nat) (w : World) : Calls Try.prog 25 #[.pointer (some ⟨q, 0, none⟩), .pointer none] w fun e w' => e = .returned (.bool false) ∧ w = w' := by
  go_enter Try.func25, Try.ntmps25
  go_wp2_with fail
  go_ret
  exact ⟨rfl, rfl⟩
theorem at_nil (a : Int) (w : World) : Calls Try.prog 20 #[.pointer none, .int .i64 a] w fun e w' => e = .returned (.tuple #[.int .i64 0, .bool false]) ∧ w = w' := by
  by_cases h : a < 0
  · go_enter Try.func20, Try.ntmps20
    go_wp2_with fail
    exact bodyPost_ret (results_tmp2 rfl _ _ _) rfl ⟨rfl, rfl⟩
  · have h2 : decide (a < 0) = false := by simpa using h
    have h3 : 0 ≤ a := by omega
    clear h
    go_enter Try.func20, Try.ntmps20
    go_wp2_with (go_at_call 23; refine (len_nil _).mono ?_; rintro e w' ⟨rfl, rfl⟩)
    exact bodyPost_ret (results_tmp2 rfl _ _ _) rfl ⟨rfl, rfl⟩
theorem zone_nil (w : World) : Calls Try.prog 21 #[.pointer none] w fun e w' => e = .returned (.tuple #[.agg #[.int .i64 0, .int .i64 0], .bool false]) ∧ Below w.heap.size w w' := by
  go_enter Try.func21, Try.ntmps21
  go_wp2_with (go_at_call 23; refine (len_nil _).mono ?_; rintro e w' ⟨rfl, rfl⟩)
  refine bodyPost_ret (v := .tuple #[.agg #[.int .i64 0, .int .i64 0], .bool false]) ?_ rfl ⟨rfl, ?_⟩
  · rw [results_cell_tmp1 rfl]; go_simp <;> rfl
  · (repeat' (first | exact Below.refl _ _ | refine Below.setCell ?_ (by simp <;> omega) _ | refine Below.alloc ?_ (by simp <;> omega) _))
/-- slices.Grow of nil. -/
theorem grow_any (n : Nat) (hn : n ≤ 1000000) (w : World) :
    Calls Try.prog 54 #[.slice none 0 0, .int .i64 (n : Int)] w fun e w' => (∃ v, e = .returned v ∧ w'.ownsRow w.heap.size 3 1 v 0 []) ∧ Below w.heap.size w w' := by
  obtain ⟨i0, hi0, hz0, hz1, hz2⟩ := info_parts info_int0
  by_cases h0 : n = 0
  · subst h0
    refine (Any8.slices_Grow_room Try.growS none 0 0 0 w (Nat.le_refl _) (by omega) (by omega) (Nat.le_refl _)).mono ?_
    rintro e w' ⟨rfl, rfl⟩
    exact ⟨⟨_, rfl, own_nil _ _⟩, Below.refl _ _⟩
  · refine (Any8.slices_Grow_grow Try.growS i0 _ hi0 hz0 (by rw [hz1]; decide) none 0 0 n [] w (Nat.le_refl _) (by omega) (by rw [hz2]; omega) (by omega) (by simp) (fun _ => rfl) (fun a e => nomatch e)).mono ?_
    rintro e w' ⟨rfl, rfl⟩
    refine ⟨⟨_, rfl, by simp, .inr ⟨w.heap.size, _, _, rfl, Nat.le_refl _, Deep.blk_alloc_new w.drew _, Nat.zero_le _, grownCap_le_maxLen w (0 + n) 0 _ (by unfold maxLen; omega), ?_, by simp⟩⟩, ?_⟩
    · have hge := grownCap_ge w (0 + n) 0 (Try.growS_ren.t 25)
      simp [size_zeroCells, Value.cells] at hge ⊢
      omega
    · exact (Below.drew (Below.refl _ _)).alloc (Nat.le_refl _) _
set_option maxRecDepth 100000 in
set_option maxHeartbeats 1000000 in
theorem concat_any (g : Nat) (A B : Option Addr) (c d : Nat) (L M : List Int) (hL : L.length ≤ 400000) (hM : M.length ≤ 400000) (hA : A = none → L.length = 0 ∧ c = 0) (hB : B = none → M.length = 0 ∧ d = 0) (w : World) (hg : w.heap[g]? = some (.cells #[.slice A L.length c, .slice B M.length d] 22 (0, 0))) (hR : Rd (Value.int .i64) w A L) (hR2 : Rd (Value.int .i64) w B M) :
    Calls Try.prog 40 #[.slice (some ⟨g, 0, none⟩) 2 2] w fun e w' => (∃ A' c', e = .returned (.slice A' (L ++ M).length c') ∧ Rd (Value.int .i64) w' A' (L ++ M)) ∧ Below w.heap.size w w' := by
  obtain ⟨i0, hi0, hz0, hz1, hz2⟩ := info_parts info_int0
  have Hi0 := Lib.hid hi0
  have Hz0 := Lib.hid hz0
  have Hz1 := Lib.hid hz1
  have Hz2 := Lib.hid hz2
  have c0 := cell_of_row w g 0 _ _ _ hg
  have c1 := cell_of_row w g 1 _ _ _ hg
  have HG := Lib.hid hg
  have hgl : g < w.heap.size := (Array.getElem?_eq_some_iff.1 hg).1
  have HR := Lib.hid hR
  have HR2 := Lib.hid hR2
  have hnA := Lib.hid hA
  have hnB := Lib.hid hB
  clear hR hR2 hi0 hz0 hz1 hz2 hg hA hB
  go_enter Try.func40, Try.ntmps40
  go_wp2_with fail
  refine wp_loop_rounds 3 ?_
  rw [rounds_succ]
  go_wp2_with fail
  rw [rounds_succ]
  go_wp2_with fail
  rw [rounds_succ]
  go_wp2_with fail
  have hgr := grow_any (L.length + M.length) (by omega) w
  rw [Int.natCast_add] at hgr
  refine hgr.mono ?_
  rintro e w1 ⟨⟨v, rfl, hown⟩, hB1⟩
  have d0 := (hB1.cell (p := ⟨g, 0, none⟩) hgl).trans c0
  have d1 := (hB1.cell (p := ⟨g, 1, none⟩) hgl).trans c1
  have HB1 := Lib.hid hB1
  have HO := Lib.hid hown
  have hRA := Lib.hid (rd_ints (HR.out.below hB1))
  have HRM := Lib.hid (HR2.out.below hB1)
  clear hgr hown hB1 c0 c1
  go_wp2_with fail
  refine wp_loop_rounds 3 ?_
  rw [rounds_succ]
  go_wp2_with (at_builtin; refine wpList_append_more rfl (.tmp 31) (.tmp 32) 22 rfl w.heap.size 3 i0 _ 8 Try.underlying22 Hi0.out Hz0.out Hz1.out Hz2.out rfl v 0 [] rfl HO.out A L.length c rfl (L.map (Value.int .i64)) (by simp) hnA.out hRA.out (one_ints _) (by omega) (by omega) HB1.out.size ?_; intro v2 w2 hown2 hg2)
  have hB2 := below_grownBy (B := w.heap.size) (a := w) HB1.out HO.out hg2 (Nat.le_refl _) (Nat.le_refl _)
  have e0 := (hB2.cell (p := ⟨g, 0, none⟩) hgl).trans ((HB1.out.cell (p := ⟨g, 0, none⟩) hgl).symm.trans d0)
  have e1 := (hB2.cell (p := ⟨g, 1, none⟩) hgl).trans ((HB1.out.cell (p := ⟨g, 1, none⟩) hgl).symm.trans d1)
  have hRB := Lib.hid (rd_ints (HR2.out.below hB2))
  have HB2 := Lib.hid hB2
  have HO2 : Hid (w2.ownsRow w.heap.size 3 1 v2 L.length (L.map (Value.int .i64))) := Lib.hid (by rw [Nat.zero_add, List.nil_append] at hown2; exact hown2)
  clear hown2 hg2 d0 d1 hB2
  go_wp2_with fail
  rw [rounds_succ]
  go_wp2_with (at_builtin; refine wpList_append_more rfl (.tmp 31) (.tmp 32) 22 rfl w.heap.size 3 i0 _ 8 Try.underlying22 Hi0.out Hz0.out Hz1.out Hz2.out rfl v2 L.length (L.map (Value.int .i64)) rfl HO2.out B M.length d rfl (M.map (Value.int .i64)) (by simp) hnB.out hRB.out (one_ints _) (by omega) (by omega) HB2.out.size ?_; intro v3 w3 hown3 hg3)
  have HB3 := Lib.hid (below_grownBy (B := w.heap.size) (a := w) HB2.out HO2.out hg3 (Nat.le_refl _) (Nat.le_refl _))
  have HO3 := Lib.hid hown3
  clear hown3 hg3 e0 e1
  go_wp2_with fail
  rw [rounds_succ]
  go_wp2_with fail
  go_ret
  have h := HO3.out
  rw [← List.map_append] at h
  obtain ⟨A', c', rfl, _, h2⟩ := out_own h
  exact ⟨⟨A', c', rfl, h2⟩, HB3.out⟩

set_option maxRecDepth 100000 in
set_option maxHeartbeats 2000000 in
theorem app_full (q1 q2 : Nat) (L M : List Int) (h1 : 0 < L.length) (h2 : 0 < M.length) (hl : L.length ≤ 400000) (hm : M.length ≤ 400000) (hbig : 4096 < L.length + M.length) (w : World) (hC1 : Cl w q1 L) (hC2 : Cl w q2 M) :
    Calls Try.prog 19 #[.pointer (some ⟨q1, 0, none⟩), .pointer (some ⟨q2, 0, none⟩)] w fun e w' => e = .returned (.tuple #[.pointer none, .int .i64 6]) ∧ Below w.heap.size w w' := by
  obtain ⟨A, c, hb1, hR1⟩ := hC1
  obtain ⟨B, d, hb2, hR2⟩ := hC2
  obtain ⟨b1, o1, rfl, hz1, hz2⟩ := int_at hR1 0 h1
  obtain ⟨b2, o2, rfl, hz3, hz4⟩ := int_at hR2 0 h2
  clear hz1 hz2 hz3 hz4
  have c1 := cell_of_row w q1 0 _ _ _ hb1
  have c2 := cell_of_row w q2 0 _ _ _ hb2
  have l1 := (Array.getElem?_eq_some_iff.1 hb1).1
  have l2 := (Array.getElem?_eq_some_iff.1 hb2).1
  have H1 := Lib.hid hR1
  have H2 := Lib.hid hR2
  have HS : Hid (∀ W, Below w.heap.size w W → W.cell? ⟨q1, 0, none⟩ = some (.slice (some ⟨b1, o1, none⟩) L.length c) ∧ W.cell? ⟨q2, 0, none⟩ = some (.slice (some ⟨b2, o2, none⟩) M.length d)) := Lib.hid (fun W hb => ⟨(hb.cell (p := ⟨q1, 0, none⟩) l1).trans c1, (hb.cell (p := ⟨q2, 0, none⟩) l2).trans c2⟩)
  have HB0 : Hid (Below w.heap.size w (w.alloc (.cells #[.slice (some ⟨b1, o1, none⟩) L.length c, .slice (some ⟨b2, o2, none⟩) M.length d] 22)).drew) := Lib.hid (Below.drew ((Below.refl _ _).alloc (Nat.le_refl _) _))
  have HG0 : Hid ((w.alloc (.cells #[.slice (some ⟨b1, o1, none⟩) L.length c, .slice (some ⟨b2, o2, none⟩) M.length d] 22)).drew.heap[w.heap.size]? = some (.cells #[.slice (some ⟨b1, o1, none⟩) L.length c, .slice (some ⟨b2, o2, none⟩) M.length d] 22 (0, 0))) := Lib.hid (Deep.blk_alloc_new w _)
  have hC := concat_any w.heap.size (some ⟨b1, o1, none⟩) (some ⟨b2, o2, none⟩) c d L M hl hm (fun e => nomatch e) (fun e => nomatch e) _ HG0.out (H1.out.below HB0.out) (H2.out.below HB0.out)
  obtain ⟨N, hN⟩ : ∃ N, N = L ++ M := ⟨_, rfl⟩
  have hNl : N.length = L.length + M.length := by rw [hN, List.length_append]
  have hN1 : N.length ≤ 1000000 := by omega
  have hch : chkV N = 6 := by unfold chkV; rw [if_pos (by omega)]
  have hn := fun A' c' W (h : Rd (Value.int .i64) W A' N) => new_bad A' c' N hN1 (by rw [hch]; decide) W h
  rw [← hN] at hC
  rw [hch] at hn
  have HC := Lib.hid hC
  have HN := Lib.hid hn
  clear hb1 hb2 hR1 hR2 hch hC hn hN hNl hN1 hbig
  go_enter Try.func19, Try.ntmps19
  go_wp2_with fail
  go_region_held3 (fun W => W.cell? ⟨q1, 0, none⟩ = some (.slice (some ⟨b1, o1, none⟩) L.length c) ∧ W.cell? ⟨q2, 0, none⟩ = some (.slice (some ⟨b2, o2, none⟩) M.length d))
    (exact HS.out _ (by ((repeat (first | (with_reducible assumption) | (with_reducible exact Below.refl _ _) | (with_reducible refine Below.alloc ?_ (by simp <;> omega) _) | (with_reducible refine Below.drew ?_) | (with_reducible refine below_drewN ?_ _))); (first | done | fail))))
    ((first
      | (go_at_call 40; refine HC.out.mono ?_; rintro e v1 ⟨⟨A', c', rfl, hr⟩, hb⟩; have HRR := Lib.hid hr; have hB1 : Below w.heap.size w v1 := HB0.out.trans (hb.mono (by simp)); clear hr hb)
      | (go_at_call 9; refine (HN.out _ _ _ HRR.out).mono ?_; rintro e v2 ⟨rfl, hw⟩; subst hw)
      | fail))
  all_goals
    go_wp2_with fail
    exact bodyPost_ret (results_tmp2 rfl _ _ _) rfl ⟨rfl, by assumption⟩
end Go.Proofs.Ytomjgkflnfjjbaa
