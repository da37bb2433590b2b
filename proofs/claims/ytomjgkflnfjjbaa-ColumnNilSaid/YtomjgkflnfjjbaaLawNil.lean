/- ColumnNil: for every two numbers and every list of rows the law returns true. No condition. -/
import Derived.Test.YtomjgkflnfjjbaaKq
import Derived.Test.YtomjgkflnfjjbaaKp
namespace Go.Proofs.Ytomjgkflnfjjbaa.lawNil
open Go.ChangeShapes Go.WideShapes Go.ChangeAt Go.RowKit Go.Joins En

theorem make_ints (n : Nat) (hn : n ≤ 1000000) (w : World) :
    (Instr.makeSlice 22 (.int .i64 (n : Int)) (.int .i64 (n : Int))).run Try.prog w = .ok (.slice (some ⟨w.heap.size, 0, none⟩) n n) (w.alloc (.cells (List.replicate n (.int .i64 0)).toArray 3)) := by
  obtain ⟨i0, hi0, hz0, hz1, hz2⟩ := info_parts info_int0
  have h := run_make w 22 3 i0 _ Try.underlying22 hi0 hz0 .i64 .i64 n n (by omega) (Int.le_refl _) (by rw [hz2]; omega) (by omega)
  rw [Int.toNat_natCast, hz1, Nat.mul_one] at h
  rw [h]
  have e : madeCells (Value.cells (.int .i64 0)) n = (List.replicate n (.int .i64 0)).toArray := by
    have := toList_madeCells_one (.int .i64 0) n
    rw [← this]; rfl
  rw [e]
theorem rd_zeros (w : World) (n : Nat) (t : TypeId) : Rd (Value.int .i64) (w.alloc (.cells (List.replicate n (.int .i64 0)).toArray t)) (some ⟨w.heap.size, 0, none⟩) (List.replicate n 0) := fun k hk => by
  refine ⟨_, _, rfl, by simp, ?_⟩
  rw [cell_of_row _ _ _ _ _ _ (Deep.blk_alloc_new w _)]
  simp at hk ⊢
  simp [hk]
theorem chk_zeros (n : Nat) (h : n ≤ 4096) : chkV (List.replicate n 0) = 0 :=
  chkV_of (by simpa using h) (fun x hx => by have := (List.mem_replicate.1 hx).2; omega)
set_option maxRecDepth 100000 in
set_option maxHeartbeats 4000000 in
theorem walk (w : World) (a : Int) (_wa : (Lit.int .i64 a).wf = true) (b : Int) (_wb : (Lit.int .i64 b).wf = true) (A : Option Addr) (c : Nat) (L : List Int) (hL : L.length ≤ 9223372036854775807) (_hR : Rd (Value.int .i64) w A L) :
    Calls Try.prog 6 #[.int .i64 a, .int .i64 b, .slice A L.length c] w fun e w' => e = .returned (.bool true) ∧ Below w.heap.size w w' := by
  obtain ⟨n, hn⟩ : ∃ n, n = L.length := ⟨_, rfl⟩
  rw [← hn] at hL ⊢
  clear hn _hR
  by_cases h10 : 10 < n
  · have hd : decide (10 < n) = true := by simpa using h10
    go_enter Try.func6, Try.ntmps6
    go_wp2_with fail
    refine (known_any _).mono ?_
    rintro e w1 ⟨rfl, hb⟩
    have HB1 := Lib.hid hb
    clear hb
    go_wp2_with fail
    refine (known_any _).mono ?_
    rintro e w2 ⟨rfl, hb⟩
    have HB2 := Lib.hid (HB1.out.trans (hb.mono HB1.out.size))
    clear hb
    go_wp2_with fail
    go_ret
    exact ⟨rfl, HB2.out⟩
  · have hd : decide (10 < n) = false := by simpa using h10
    have hmk := fun W => make_ints 4096 (by decide) W
    rw [show (((4096 : Nat) : Int)) = 4096 from rfl] at hmk
    have HN1 := Lib.hid (fun W => new_ok (some ⟨W.heap.size, 0, none⟩) 4096 (List.replicate 4096 0) (by simp) (chk_zeros 4096 (by decide)) (W.alloc (.cells (List.replicate 4096 (.int .i64 0)).toArray 3)) (rd_zeros W 4096 3))
    have HN2 := Lib.hid (fun W => new_ok (some ⟨W.heap.size, 0, none⟩) 1 [1] (by decide) (by kernel_rfl) (W.alloc (.cells #[.int .i64 1] 3)) (rd_new W [1] 3))
    have HAF := Lib.hid (fun q1 q2 W (h1 : Cl W q1 (List.replicate 4096 0)) (h2 : Cl W q2 [1]) => app_full q1 q2 (List.replicate 4096 0) [1] (by simp) (by simp) (by simp) (by simp) (by simp) W h1 h2)
    obtain ⟨Z, hZ⟩ : ∃ Z : List Int, Z = List.replicate 4096 0 := ⟨_, rfl⟩
    obtain ⟨ZC, hZC⟩ : ∃ Z : Array Value, Z = (List.replicate 4096 (.int .i64 0)).toArray := ⟨_, rfl⟩
    have hZl : Z.length = 4096 := by rw [hZ]; simp
    rw [← hZ, ← hZC] at HN1
    rw [← hZ] at HAF
    rw [← hZC] at hmk
    rw [hZl] at HN1
    clear hZ hZC hZl
    go_enter Try.func6, Try.ntmps6
    go_wp2_with fail
    refine (known_any _).mono ?_
    rintro e w1 ⟨rfl, hb⟩
    have HB1 := Lib.hid hb
    clear hb
    go_wp2_with fail
    refine (HN1.out w1).mono ?_
    rintro e w2 ⟨⟨q1, rfl, hc⟩, hb⟩
    have HC1 := Lib.hid hc
    have HB2 := Lib.hid ((HB1.out.alloc HB1.out.size _).trans (hb.mono (by have := HB1.out.size; simp; omega)))
    clear hc hb hmk
    go_wp2_with fail
    refine (HN2.out w2).mono ?_
    rintro e w3 ⟨⟨q2, rfl, hc⟩, hb⟩
    have HC2 := Lib.hid hc
    have HC1b := Lib.hid ((HC1.out.below ((Below.refl _ _).alloc (Nat.le_refl _) _)).below hb)
    have HB3 := Lib.hid ((HB2.out.alloc HB2.out.size _).trans (hb.mono (by have := HB2.out.size; simp; omega)))
    clear hc hb
    go_wp2_with (first
      | (go_at_call 17; refine (sel_nil _ _ _ _).mono ?_; rintro e w' ⟨rfl, rfl⟩)
      | (go_at_call 18; refine (slice_nil _ _ _).mono ?_; rintro e w' ⟨rfl, rfl⟩)
      | (go_at_call 19; (with_reducible refine (app_nil1 _ _).mono ?_); rintro e w' ⟨rfl, rfl⟩)
      | (go_at_call 19; (with_reducible refine (app_nil2 _ _).mono ?_); rintro e w' ⟨rfl, rfl⟩))
    refine (HAF.out q1 q2 w3 HC1b.out HC2.out).mono ?_
    rintro e w4 ⟨rfl, hb⟩
    have HB4 := Lib.hid (HB3.out.trans (hb.mono HB3.out.size))
    clear hb
    go_wp2_with (go_at_call 20; refine (at_nil _ _).mono ?_; rintro e w' ⟨rfl, rfl⟩)
    refine (zone_nil _).mono ?_
    rintro e w5 ⟨rfl, hb⟩
    have HB5 := Lib.hid (HB4.out.trans (hb.mono HB4.out.size))
    clear hb
    go_wp2_with (first
      | (go_at_call 16; refine (enc_nil _).mono ?_; rintro e w' ⟨rfl, rfl⟩)
      | (go_at_call 22; refine (kind_nil _).mono ?_; rintro e w' ⟨rfl, rfl⟩)
      | (go_at_call 23; refine (len_nil _).mono ?_; rintro e w' ⟨rfl, rfl⟩)
      | (go_at_call 15; refine (vals_nil _).mono ?_; rintro e w' ⟨rfl, rfl⟩)
      | (go_at_call 24; refine (where_nil _ _ _).mono ?_; rintro e w' ⟨rfl, rfl⟩)
      | (go_at_call 25; (with_reducible refine (eq_nn _).mono ?_); rintro e w' ⟨rfl, rfl⟩)
      | (go_at_call 25; (with_reducible refine (eq_nq _ _).mono ?_); rintro e w' ⟨rfl, rfl⟩)
      | (go_at_call 25; (with_reducible refine (eq_qn _ _).mono ?_); rintro e w' ⟨rfl, rfl⟩))
    go_ret
    exact ⟨rfl, HB5.out.alloc HB5.out.size _⟩
set_option maxRecDepth 100000 in
theorem lifted (os : Os) (started : os.Started) (H : Type) (enc : TypeId × Value → H) :
    ReturnsInHanded {} Try.checked os 6 .any (Rows.columnNilSpec.pre6 enc Try.prog Try.f6 Rows.columnNilRow.domain false) (Rows.columnNilSpec.post enc Try.prog Try.f6 false true false false) := by
  refine returnsInHanded_of_change (C := Try.checked) own started (by kernel_rfl) Try.func6
    (ChangeSpec.witness6 (enc := enc) (C := Try.checked) false ⟨#[], #[.int .i64 0, .int .i64 0, .slice none 0 0], []⟩ 8 (by kernel_rfl) (by kernel_rfl) (by kernel_rfl) (by kernel_rfl)) ?_
  intro W base args ds gs before hval0 hW _ _
  have hval : ∀ (j : Nat) t v, Try.f6.params[j]? = some t → args[j]? = some v → Value.okWide Try.prog W .any base t v := hval0
  have hW' := hW
  obtain ⟨p, q, hA0, hV, rfl, _, _⟩ := hW
  have hA : DataW.TrodAll enc Try.prog W 0 (fun _ => true) true Try.f6.params.toList args.toList ds p := hA0
  rw [Try.params6] at hA hval
  obtain ⟨v0, vs0, d0, ds0, p0, q0, hargs0, rfl, rfl, h0, r0⟩ := trodAll_cons hA
  obtain ⟨v1, vs1, d1, ds1, p1, q1, hargs1, rfl, rfl, h1, r1⟩ := trodAll_cons r0
  obtain ⟨v2, vs2, d2, ds2, p2, q2, hargs2, rfl, rfl, h2, r2⟩ := trodAll_cons r1
  obtain ⟨rfl, rfl, rfl⟩ := trodAll_nil r2
  obtain rfl : args = #[v0, v1, v2] := by cases args; simp_all
  obtain ⟨rfl, rfl⟩ := trodVars_none hV
  obtain ⟨a0, rfl, rfl, rfl, wa0⟩ := open_int Try.underlying3 (hval 0 3 v0 rfl rfl) h0
  obtain ⟨a1, rfl, rfl, rfl, wa1⟩ := open_int Try.underlying3 (hval 1 3 v1 rfl rfl) h1
  have lt2 : ∀ x ∈ p2, x.block < W.heap.size := fun x hx => hW'.lt x (by simp [hx])
  obtain ⟨A2, c2, L2, rfl, hL2, hR2⟩ := open_nums (hval 2 22 v2 rfl rfl) h2 lt2
  clear hA0 hval0
  simp only [List.append_nil] at hW'
  refine (walk W a0 wa0 a1 wa1 A2 c2 L2 hL2 hR2).mono fun e W' ⟨he, hb⟩ => ?_
  subst he
  exact ⟨_, rfl, post_mem hW' hb (fun _ _ _ => trodAll_mk1 (shut_bool Try.underlying4 _)) (fun sp hsp => by
    have t := trodAll_cons_mk (shut_int Try.underlying3 wa0) (trodAll_cons_mk (shut_int Try.underlying3 wa1) (trodAll_cons_mk (carry laidOut (by kernel_rfl) (of_decide_eq_true (by kernel_rfl)) h2 hb lt2 sp (fun x hx => hsp x (by simp [hx]))) trodAll_mk0))
    simp only [List.append_nil] at t
    exact t) (fun _ => rfl) (ok_one (by kernel_rfl) rfl (okWide_bool_mk Try.underlying4 _))⟩

theorem proved : Rows.ColumnNilSaid :=
  OpenClaim.holds_of_wide 6 Try.f6 rfl rfl rfl rfl rfl rfl rfl ⟨rfl, rfl, rfl, rfl, rfl⟩ rfl rfl rfl rfl rfl (by kernel_rfl) Try.func6 (by kernel_rfl)
    (of_decide_eq_true (by kernel_rfl)) (by unfold Func.isWrapper; first | (rw [if_pos (by decide +kernel)]; kernel_rfl) | (rw [if_neg (by decide +kernel)]; exact ⟨rfl, rfl⟩))
    (fun os started H enc _ => lifted os started H enc)

end Go.Proofs.Ytomjgkflnfjjbaa.lawNil
