/- The statement ChecksumCombines: for any two strings and any three ints, the law returns true and changes nothing. No condition but that the table reads as its initialiser lays it, which the card ties to the program's text. -/
import Derived.Test.YtediohaamblpbaaDoorRow3
namespace Go.Proofs.YtediohaamblpbaaDoor.lawCombines
open Go.Proofs.YtediohaamblpbaaDoor Go.ChangeShapes Go.WideShapes Go.ChangeAt Go.RowKit Go.Joins Ck

theorem app_list (s t : ByteArray) : (s ++ t).data.toList = s.data.toList ++ t.data.toList := by
  simp [ByteArray.data_append]
theorem comb_at (a b : BitVec 32) (v u : Int) (hv : v = a.toNat) (hu : u = b.toNat) (n : Nat) (z : Int) (hz : z = n) (hn : n ≤ 1099511627776) (w : World) (hT : Tab w) :
    Calls Tryd.prog 24 #[.int .u32 v, .int .u32 u, .int .i64 z] w fun e w' => e = .returned (.tuple #[.int .u32 (comb a b n).toNat, .int .i64 0]) ∧ Below w.heap.size w w' := by
  subst hz; exact comb_any a b v u hv hu n hn w hT
/-- Combine of the third number: what it returns is not looked into, but where it is out of range. -/
theorem comb_third (a b : BitVec 32) (z : Int) (w : World) (hT : Tab w) :
    Calls Tryd.prog 24 #[.int .u32 a.toNat, .int .u32 b.toNat, .int .i64 z] w fun e w' => (∃ (x : BitVec 32) (o : Int), ((z < 0 ∨ 1099511627776 < z) → (x = 0#32 ∧ o = 2)) ∧ e = .returned (.tuple #[.int .u32 x.toNat, .int .i64 o])) ∧ Below w.heap.size w w' := by
  by_cases h : z < 0 ∨ 1099511627776 < z
  · refine (comb_range _ _ z h w).mono ?_
    rintro e w' ⟨rfl, rfl⟩
    exact ⟨⟨0#32, 2, fun _ => ⟨rfl, rfl⟩, rfl⟩, Below.refl _ _⟩
  · obtain ⟨n, rfl⟩ : ∃ n : Nat, z = n := ⟨z.toNat, by omega⟩
    refine (comb_any a b _ _ rfl rfl n (by omega) w hT).mono ?_
    rintro e w' ⟨rfl, hb⟩
    exact ⟨⟨_, 0, fun g => absurd g h, rfl⟩, hb⟩
theorem wrap32 (n : Int) : IntKind.u32.wrap n = ((BitVec.ofInt 32 n).toNat : Int) := by
  rw [IntKind.wrap_u32', BitVec.toNat_ofInt]; omega
theorem comb_zeros (a b : BitVec 32) (n : Nat) : bits .xor .u32 ((shn (8 * n) a).toNat : Int) (b.toNat : Int) = ((comb a b n).toNat : Int) := by
  rw [xor32]; rfl

theorem drewN_at {w : World} {g : Nat} {o : Obj} (h : w.heap[g]? = some o) (n : Nat) : (w.drewN n).heap[g]? = some o := h
theorem comb_strings (s t : ByteArray) : comb (Ck.sum s.data.toList) (Ck.sum t.data.toList) t.size = Ck.sum (s ++ t).data.toList := by
  have h := comb_sum s.data.toList t.data.toList
  rw [← app_list] at h
  exact h
set_option maxHeartbeats 4000000 in
theorem walk (s : ByteArray) (hs : s.size ≤ 9223372036854775807) (t : ByteArray) (ht : t.size ≤ 9223372036854775807) (m0 : Int) (_ : -9223372036854775808 ≤ m0) (_ : m0 ≤ 9223372036854775807) (m1 : Int) (_ : -9223372036854775808 ≤ m1) (_ : m1 ≤ 9223372036854775807) (m2 : Int) (_ : -9223372036854775808 ≤ m2) (_ : m2 ≤ 9223372036854775807) (w : World) (hT : Tab w) :
    Calls Tryd.prog 8 #[.string s, .string t, .agg #[.int .i64 m0, .int .i64 m1, .int .i64 m2]] w fun e w' => e = .returned (.bool true) ∧ Below w.heap.size w w' := by
  have HT := Lib.hid hT
  clear hT
  obtain ⟨A, hA⟩ : ∃ A : BitVec 32, IntKind.u32.wrap m0 = A.toNat := ⟨_, wrap32 m0⟩
  obtain ⟨B, hB⟩ : ∃ B : BitVec 32, IntKind.u32.wrap m1 = B.toNat := ⟨_, wrap32 m1⟩
  have HT0 := Lib.hid (HT.out.alloc (.cells #[.int .i64 m0, .int .i64 m1, .int .i64 m2] 37))
  have HK0 := Lib.hid (heap_alloc_new w (.cells #[.int .i64 m0, .int .i64 m1, .int .i64 m2] 37))
  have HB0 := Lib.hid ((Below.refl w.heap.size w).alloc (Nat.le_refl _) (.cells #[.int .i64 m0, .int .i64 m1, .int .i64 m2] 37))
  go_enter Tryd.func8, Tryd.ntmps8
  go_wp2_with fail
  go_quiet (fail)
  go_wp2_with fail
  all_goals
    have hz1 : (s.extract 0 500).size ≤ 500 := by simp; omega
    have hz2 : (t.extract 0 500).size ≤ 500 := by simp; omega
    try generalize s.extract 0 500 = S at hz1 ⊢
    try generalize t.extract 0 500 = T at hz2 ⊢
    refine (sum_any _ (by simp [maxLen]; omega) _ (HT0.out.drewN _)).mono ?_
    rintro e w' ⟨rfl, rfl⟩
    go_wp2_with fail
    refine (sum_any _ (by simp [maxLen]; omega) _ (HT0.out.drewN _)).mono ?_
    rintro e w' ⟨rfl, rfl⟩
    go_wp2_with fail
    refine (comb_at _ _ _ _ rfl rfl _ _ rfl (by omega) _ (HT0.out.drewN _)).mono ?_
    rintro e w1 ⟨rfl, hb⟩
    rw [comb_strings]
    have HT1 := Lib.hid ((HT0.out.drewN nq).below hb)
    have hk := (hb.block w.heap.size (Array.getElem?_eq_some_iff.1 (drewN_at HK0.out nq)).1).trans (drewN_at HK0.out nq)
    have HK1 := Lib.hid hk
    have HB1 := Lib.hid (Below.trans (below_drewN HB0.out nq) (hb.mono ((below_drewN HB0.out nq)).size))
    have c0 := cell_of_row _ w.heap.size 0 _ _ _ hk
    have c1 := cell_of_row _ w.heap.size 1 _ _ _ hk
    have c2 := cell_of_row _ w.heap.size 2 _ _ _ hk
    clear hb hk
    go_wp2_with fail
    go_quiet (fail)
    go_wp2_with fail
    clear c0 c1 c2
    refine (comb_at A B _ _ rfl rfl _ _ rfl (by omega) _ (HT1.out.drewN _)).mono ?_
    rintro e w2 ⟨rfl, hb⟩
    have HT2 := Lib.hid ((HT1.out.drewN nq).below hb)
    have hk := (hb.block w.heap.size (Array.getElem?_eq_some_iff.1 (drewN_at HK1.out nq)).1).trans (drewN_at HK1.out nq)
    have HK2 := Lib.hid hk
    have HB2 := Lib.hid (Below.trans (below_drewN HB1.out nq) (hb.mono ((below_drewN HB1.out nq)).size))
    have c0 := cell_of_row _ w.heap.size 0 _ _ _ hk
    have c1 := cell_of_row _ w.heap.size 1 _ _ _ hk
    have c2 := cell_of_row _ w.heap.size 2 _ _ _ hk
    clear hb hk
    go_wp2_with fail
    clear c0 c1 c2
    refine (comb_third A B m2 _ HT2.out).mono ?_
    rintro e w3 ⟨⟨x, o, hxo, rfl⟩, hb⟩
    have Hxo := Lib.hid hxo
    clear hxo
    have HT3 := Lib.hid (HT2.out.below hb)
    have hk := (hb.block w.heap.size (Array.getElem?_eq_some_iff.1 HK2.out).1).trans HK2.out
    have HK3 := Lib.hid hk
    have HB3 := Lib.hid (Below.trans HB2.out (hb.mono (HB2.out).size))
    have c0 := cell_of_row _ w.heap.size 0 _ _ _ hk
    have c1 := cell_of_row _ w.heap.size 1 _ _ _ hk
    have c2 := cell_of_row _ w.heap.size 2 _ _ _ hk
    clear hb hk
    by_cases h3 : m2 < 0
    · obtain ⟨rfl, rfl⟩ := Hxo.out (.inl h3)
      go_wp2_with fail
      clear c0 c1 c2
      refine (known_any _ HT3.out).mono ?_
      rintro e w4 ⟨rfl, hb⟩
      have HT4 := Lib.hid (HT3.out.below hb)
      have HB4 := Lib.hid (Below.trans HB3.out (hb.mono HB3.out.size))
      clear hb
      go_wp2_with fail
      refine (sum_any _ (by simp [maxLen]; omega) _ HT4.out).mono ?_
      rintro e w' ⟨rfl, rfl⟩
      go_wp2_with fail
      refine (rzeros_any A _ rfl _ (by omega) _).mono ?_
      rintro e w' ⟨rfl, rfl⟩
      have e1 := comb_zeros A B
      go_wp2_with fail
      go_ret
      exact ⟨rfl, HB4.out⟩
    · by_cases h4 : 1099511627776 < m2
      · obtain ⟨rfl, rfl⟩ := Hxo.out (.inr h4)
        go_wp2_with fail
        clear c0 c1 c2
        refine (known_any _ HT3.out).mono ?_
        rintro e w4 ⟨rfl, hb⟩
        have HT4 := Lib.hid (HT3.out.below hb)
        have HB4 := Lib.hid (Below.trans HB3.out (hb.mono HB3.out.size))
        clear hb
        go_wp2_with fail
        refine (sum_any _ (by simp [maxLen]; omega) _ HT4.out).mono ?_
        rintro e w' ⟨rfl, rfl⟩
        go_wp2_with fail
        refine (rzeros_any A _ rfl _ (by omega) _).mono ?_
        rintro e w' ⟨rfl, rfl⟩
        have e1 := comb_zeros A B
        go_wp2_with fail
        go_ret
        exact ⟨rfl, HB4.out⟩
      · go_wp2_with fail
        clear c0 c1 c2
        refine (known_any _ HT3.out).mono ?_
        rintro e w4 ⟨rfl, hb⟩
        have HT4 := Lib.hid (HT3.out.below hb)
        have HB4 := Lib.hid (Below.trans HB3.out (hb.mono HB3.out.size))
        clear hb
        go_wp2_with fail
        refine (sum_any _ (by simp [maxLen]; omega) _ HT4.out).mono ?_
        rintro e w' ⟨rfl, rfl⟩
        go_wp2_with fail
        refine (rzeros_any A _ rfl _ (by omega) _).mono ?_
        rintro e w' ⟨rfl, rfl⟩
        have e1 := comb_zeros A B
        go_wp2_with fail
        go_ret
        exact ⟨rfl, HB4.out⟩

set_option maxRecDepth 100000 in
theorem lifted (os : Os) (started : os.Started) (H : Type) (enc : TypeId × Value → H) :
    ReturnsInHanded {} Tryd.checked os 8 .any (fun w args => (Rows.checksumCombinesSpec.pre enc Tryd.prog Tryd.f8 [] false w args ∧ laidMetH Tryd.prog listed w) ∧ sizedMet enc Tryd.prog Tryd.f8 (OpenSpec.ofChange Rows.checksumCombinesSpec) false w args)
      (Rows.checksumCombinesSpec.post enc Tryd.prog Tryd.f8 false true false false) := by
  refine returnsInHanded_of_change_and (C := Tryd.checked) (X := fun w _ => laidMetH Tryd.prog listed w) (fun _ _ _ hh h => h.of_heap hh) own started (by kernel_rfl) Tryd.func8
    (ChangeSpec.witness_shaped (enc := enc) (C := Tryd.checked) (os := os) (X := fun w _ => laidMetH Tryd.prog listed w) false (World.doorLaid Tryd.prog 400 os) #[.string ByteArray.empty, .string ByteArray.empty, .agg #[.int .i64 0, .int .i64 0, .int .i64 0]] 8 rfl (World.shaped_of_RefB (by kernel_rfl) (by kernel_rfl)) (by kernel_rfl) (by kernel_rfl) (by kernel_rfl) (door_met os _)) ?_
  intro W base args ds gs before hval0 hW _ _ hL _
  have hval : ∀ (j : Nat) t v, Tryd.f8.params[j]? = some t → args[j]? = some v → Value.okWide Tryd.prog W .any base t v := hval0
  have hW' := hW
  obtain ⟨p, q, hA0, hV, rfl, _, _⟩ := hW
  have hA : DataW.TrodAll enc Tryd.prog W 0 (fun _ => true) true Tryd.f8.params.toList args.toList ds p := hA0
  rw [Tryd.params8] at hA hval
  obtain ⟨v0, vs0, d0, ds0, p0, q0, hargs0, rfl, rfl, h0, r0⟩ := trodAll_cons hA
  obtain ⟨v1, vs1, d1, ds1, p1, q1, hargs1, rfl, rfl, h1, r1⟩ := trodAll_cons r0
  obtain ⟨v2, vs2, d2, ds2, p2, q2, hargs2, rfl, rfl, h2, r2⟩ := trodAll_cons r1
  obtain ⟨rfl, rfl, rfl⟩ := trodAll_nil r2
  obtain rfl : args = #[v0, v1, v2] := by cases args; simp_all
  obtain ⟨rfl, rfl⟩ := trodVars_none hV
  obtain ⟨s0, rfl, rfl, rfl, ws0⟩ := Go.ChangeMaps.open_string Tryd.underlying9 (hval 0 9 v0 rfl rfl) h0
  obtain ⟨s1, rfl, rfl, rfl, ws1⟩ := Go.ChangeMaps.open_string Tryd.underlying9 (hval 1 9 v1 rfl rfl) h1
  obtain ⟨m20, m21, m22, rfl, rfl, rfl, wm20, wm21, wm22⟩ := open_row3 Tryd.underlying37 Tryd.underlying3 (by kernel_rfl) (by kernel_rfl) (hval 2 37 v2 rfl rfl) h2
  clear hA0 hval0
  simp only [List.append_nil] at hW'
  refine (walk s0 ws0 s1 ws1 m20 (bd64 wm20).1 (bd64 wm20).2 m21 (bd64 wm21).1 (bd64 wm21).2 m22 (bd64 wm22).1 (bd64 wm22).2 W (of_laid hL)).mono fun e W' ⟨he, hb⟩ => ?_
  subst he
  exact ⟨_, rfl, post_plain hW' hb (fun _ _ _ => trodAll_mk1 (shut_bool Tryd.underlying4 _)) (fun sp => trodAll_cons_mk (Go.ChangeMaps.shut_string Tryd.underlying9 ws0) (trodAll_cons_mk (Go.ChangeMaps.shut_string Tryd.underlying9 ws1) (trodAll_cons_mk (shut_row3 Tryd.underlying37 Tryd.underlying3 (by kernel_rfl) (by kernel_rfl) wm20 wm21 wm22) trodAll_mk0))) (fun _ => rfl) (ok_one (by kernel_rfl) rfl (okWide_bool_mk Tryd.underlying4 _))⟩

theorem row : Rows.ChecksumCombinesSaid :=
  OpenClaim.holds_of_wide 8 Tryd.f8 rfl rfl rfl rfl rfl rfl rfl ⟨rfl, rfl, rfl, rfl, rfl⟩ rfl rfl rfl rfl rfl (by kernel_rfl) Tryd.func8 (by kernel_rfl)
    (of_decide_eq_true (by kernel_rfl)) (by unfold Func.isWrapper; first | (rw [if_pos (by decide +kernel)]; kernel_rfl) | (rw [if_neg (by decide +kernel)]; exact ⟨rfl, rfl⟩))
    (fun os started H enc _ => lifted os started H enc)

theorem proved : Rows.ChecksumCombinesCardSaid :=
  Claim7.holds_tied_plain_at .later [] [.data] true _ false row (fun _ h => by cases h) (by kernel_rfl) (fun _ h => by cases h) checksumCombines_row_tie rfl ⟨rfl, rfl⟩ (by kernel_rfl) rfl
    (fun f fn hf hfn => by
      obtain rfl : f = 8 := Option.some.inj ((show Tryd.prog.funcNamed "sleuth/sleuthlaw04.ChecksumCombines" = some 8 by kernel_rfl).symm.trans hf) |>.symm
      obtain rfl : fn = Tryd.f8 := (Option.some.inj (Tryd.func8.symm.trans hfn)).symm
      exact ⟨by kernel_rfl, fun j t ht => by
        rw [Tryd.params8] at ht
        have hm : t ∈ [9, 37] := by simpa using Array.mem_of_getElem? ht
        have hall : ([9, 37].all fun u => !Tryd.prog.wantsStandIn u) = true := by kernel_rfl
        exact (show Tryd.prog.wantsStandIn t = false by simpa using List.all_eq_true.1 hall t hm)⟩)
    (by kernel_rfl)
end Go.Proofs.YtediohaamblpbaaDoor.lawCombines
