/- The statement ChecksumAssociates: for any three registers and any two words, the law returns true and changes nothing. No condition but that the table reads as its initialiser lays it, which the card ties to the program's text. -/
import Derived.Test.YtediohaamblpbaaDoorRow3
namespace Go.Proofs.YtediohaamblpbaaDoor.lawAssociates
open Go.Proofs.YtediohaamblpbaaDoor Go.ChangeShapes Go.WideShapes Go.ChangeAt Go.RowKit Go.Joins Ck

theorem comb_at (a b : BitVec 32) (v u : Int) (hv : v = a.toNat) (hu : u = b.toNat) (n : Nat) (z : Int) (hz : z = n) (hn : n ≤ 1099511627776) (w : World) (hT : Tab w) :
    Calls Tryd.prog 24 #[.int .u32 v, .int .u32 u, .int .i64 z] w fun e w' => e = .returned (.tuple #[.int .u32 (comb a b n).toNat, .int .i64 0]) ∧ Below w.heap.size w w' := by
  subst hz; exact comb_any a b v u hv hu n hn w hT
theorem comb_assoc (a b c : BitVec 32) (i j : Nat) : comb a (comb b c j) (i + j) = comb (comb a b i) c j := by
  unfold comb
  rw [shn_xor, ← shn_add, BitVec.xor_assoc, Nat.mul_add]
set_option maxHeartbeats 1000000 in
theorem walk (a b c : BitVec 32) (n m : BitVec 64) (w : World) (hT : Tab w) :
    Calls Tryd.prog 9 #[.agg #[.int .u32 a.toNat, .int .u32 b.toNat, .int .u32 c.toNat], .int .u64 n.toNat, .int .u64 m.toNat] w fun e w' => e = .returned (.bool true) ∧ Below w.heap.size w w' := by
  have HT := Lib.hid hT
  clear hT
  obtain ⟨I, hi⟩ : ∃ I : Nat, (n.toNat : Int) % 549755813889 = I := ⟨n.toNat % 549755813889, by omega⟩
  obtain ⟨J, hj⟩ : ∃ J : Nat, (m.toNat : Int) % 549755813889 = J := ⟨m.toNat % 549755813889, by omega⟩
  have hI : I ≤ 549755813888 := by omega
  have hJ : J ≤ 549755813888 := by omega
  have right := comb_assoc a b c I J
  have Right := Lib.hid right
  clear right
  have HT0 := Lib.hid (HT.out.alloc (.cells #[.int .u32 a.toNat, .int .u32 b.toNat, .int .u32 c.toNat] 43))
  have HK0 := Lib.hid (heap_alloc_new w (.cells #[.int .u32 a.toNat, .int .u32 b.toNat, .int .u32 c.toNat] 43))
  have HB0 := Lib.hid ((Below.refl w.heap.size w).alloc (Nat.le_refl _) (.cells #[.int .u32 a.toNat, .int .u32 b.toNat, .int .u32 c.toNat] 43))
  go_enter Tryd.func9, Tryd.ntmps9
  go_wp2_with fail
  refine (comb_at a b _ _ rfl rfl I _ rfl (by omega) _ HT0.out).mono ?_
  rintro e w1 ⟨rfl, hb⟩
  have HT1 := Lib.hid (HT0.out.below hb)
  have hk := (hb.block w.heap.size (Array.getElem?_eq_some_iff.1 HK0.out).1).trans HK0.out
  have HK1 := Lib.hid hk
  have HB1 := Lib.hid (Below.trans HB0.out (hb.mono HB0.out.size))
  have c0 := cell_of_row _ w.heap.size 0 _ _ _ hk
  have c1 := cell_of_row _ w.heap.size 1 _ _ _ hk
  have c2 := cell_of_row _ w.heap.size 2 _ _ _ hk
  clear hb hk
  go_wp2_with fail
  try clear c0 c1 c2
  refine (comb_at (comb a b I) c _ _ rfl rfl J _ rfl (by omega) _ HT1.out).mono ?_
  rintro e w2 ⟨rfl, hb⟩
  have HT2 := Lib.hid (HT1.out.below hb)
  have hk := (hb.block w.heap.size (Array.getElem?_eq_some_iff.1 HK1.out).1).trans HK1.out
  have HK2 := Lib.hid hk
  have HB2 := Lib.hid (Below.trans HB1.out (hb.mono HB1.out.size))
  have c0 := cell_of_row _ w.heap.size 0 _ _ _ hk
  have c1 := cell_of_row _ w.heap.size 1 _ _ _ hk
  have c2 := cell_of_row _ w.heap.size 2 _ _ _ hk
  clear hb hk
  go_wp2_with fail
  try clear c0 c1 c2
  refine (comb_at b c _ _ rfl rfl J _ rfl (by omega) _ HT2.out).mono ?_
  rintro e w3 ⟨rfl, hb⟩
  have HT3 := Lib.hid (HT2.out.below hb)
  have hk := (hb.block w.heap.size (Array.getElem?_eq_some_iff.1 HK2.out).1).trans HK2.out
  have HK3 := Lib.hid hk
  have HB3 := Lib.hid (Below.trans HB2.out (hb.mono HB2.out.size))
  have c0 := cell_of_row _ w.heap.size 0 _ _ _ hk
  have c1 := cell_of_row _ w.heap.size 1 _ _ _ hk
  have c2 := cell_of_row _ w.heap.size 2 _ _ _ hk
  clear hb hk
  go_wp2_with fail
  try clear c0 c1 c2
  refine (comb_at a (comb b c J) _ _ rfl rfl (I + J) _ (by omega) (by omega) _ HT3.out).mono ?_
  rintro e w4 ⟨rfl, hb⟩
  rw [Right.out]
  have HT4 := Lib.hid (HT3.out.below hb)
  have hk := (hb.block w.heap.size (Array.getElem?_eq_some_iff.1 HK3.out).1).trans HK3.out
  have HK4 := Lib.hid hk
  have HB4 := Lib.hid (Below.trans HB3.out (hb.mono HB3.out.size))
  have c0 := cell_of_row _ w.heap.size 0 _ _ _ hk
  have c1 := cell_of_row _ w.heap.size 1 _ _ _ hk
  have c2 := cell_of_row _ w.heap.size 2 _ _ _ hk
  clear hb hk
  go_wp2_with fail
  try clear c0 c1 c2
  refine (comb_at a b _ _ rfl rfl 0 _ rfl (by omega) _ HT4.out).mono ?_
  rintro e w5 ⟨rfl, hb⟩
  have HT5 := Lib.hid (HT4.out.below hb)
  have hk := (hb.block w.heap.size (Array.getElem?_eq_some_iff.1 HK4.out).1).trans HK4.out
  have HK5 := Lib.hid hk
  have HB5 := Lib.hid (Below.trans HB4.out (hb.mono HB4.out.size))
  have c0 := cell_of_row _ w.heap.size 0 _ _ _ hk
  have c1 := cell_of_row _ w.heap.size 1 _ _ _ hk
  have c2 := cell_of_row _ w.heap.size 2 _ _ _ hk
  clear hb hk
  have hx : bits .xor .u32 (a.toNat : Int) (b.toNat : Int) = ((comb a b 0).toNat : Int) := by rw [xor32]; rfl
  generalize comb a b 0 = z at *
  go_wp2_with fail
  try clear c0 c1 c2
  refine (known_any _ HT5.out).mono ?_
  rintro e w6 ⟨rfl, hb⟩
  have hk := (hb.block w.heap.size (Array.getElem?_eq_some_iff.1 HK5.out).1).trans HK5.out
  have HB6 := Lib.hid (Below.trans HB5.out (hb.mono HB5.out.size))
  have c0 := cell_of_row _ w.heap.size 0 _ _ _ hk
  have c1 := cell_of_row _ w.heap.size 1 _ _ _ hk
  clear hb hk
  go_wp2_with fail
  go_ret
  exact ⟨rfl, HB6.out⟩

set_option maxRecDepth 100000 in
theorem lifted (os : Os) (started : os.Started) (H : Type) (enc : TypeId × Value → H) :
    ReturnsInHanded {} Tryd.checked os 9 .any (fun w args => (Rows.checksumAssociatesSpec.pre enc Tryd.prog Tryd.f9 [] false w args ∧ laidMetH Tryd.prog listed w) ∧ sizedMet enc Tryd.prog Tryd.f9 (OpenSpec.ofChange Rows.checksumAssociatesSpec) false w args)
      (Rows.checksumAssociatesSpec.post enc Tryd.prog Tryd.f9 false true false false) := by
  refine returnsInHanded_of_change_and (C := Tryd.checked) (X := fun w _ => laidMetH Tryd.prog listed w) (fun _ _ _ hh h => h.of_heap hh) own started (by kernel_rfl) Tryd.func9
    (ChangeSpec.witness_shaped (enc := enc) (C := Tryd.checked) (os := os) (X := fun w _ => laidMetH Tryd.prog listed w) false (World.doorLaid Tryd.prog 400 os) #[.agg #[.int .u32 0, .int .u32 0, .int .u32 0], .int .u64 0, .int .u64 0] 8 rfl (World.shaped_of_RefB (by kernel_rfl) (by kernel_rfl)) (by kernel_rfl) (by kernel_rfl) (by kernel_rfl) (door_met os _)) ?_
  intro W base args ds gs before hval0 hW _ _ hL _
  have hval : ∀ (j : Nat) t v, Tryd.f9.params[j]? = some t → args[j]? = some v → Value.okWide Tryd.prog W .any base t v := hval0
  have hW' := hW
  obtain ⟨p, q, hA0, hV, rfl, _, _⟩ := hW
  have hA : DataW.TrodAll enc Tryd.prog W 0 (fun _ => true) true Tryd.f9.params.toList args.toList ds p := hA0
  rw [Tryd.params9] at hA hval
  obtain ⟨v0, vs0, d0, ds0, p0, q0, hargs0, rfl, rfl, h0, r0⟩ := trodAll_cons hA
  obtain ⟨v1, vs1, d1, ds1, p1, q1, hargs1, rfl, rfl, h1, r1⟩ := trodAll_cons r0
  obtain ⟨v2, vs2, d2, ds2, p2, q2, hargs2, rfl, rfl, h2, r2⟩ := trodAll_cons r1
  obtain ⟨rfl, rfl, rfl⟩ := trodAll_nil r2
  obtain rfl : args = #[v0, v1, v2] := by cases args; simp_all
  obtain ⟨rfl, rfl⟩ := trodVars_none hV
  obtain ⟨m00, m01, m02, rfl, rfl, rfl, wm00, wm01, wm02⟩ := open_row3 Tryd.underlying43 Tryd.underlying32 (by kernel_rfl) (by kernel_rfl) (hval 0 43 v0 rfl rfl) h0
  obtain ⟨x00, rfl⟩ := u32_of wm00
  obtain ⟨x01, rfl⟩ := u32_of wm01
  obtain ⟨x02, rfl⟩ := u32_of wm02
  obtain ⟨a1, rfl, rfl, rfl, wa1⟩ := open_int Tryd.underlying22 (hval 1 22 v1 rfl rfl) h1
  obtain ⟨x1, rfl⟩ := u64_of wa1
  obtain ⟨a2, rfl, rfl, rfl, wa2⟩ := open_int Tryd.underlying22 (hval 2 22 v2 rfl rfl) h2
  obtain ⟨x2, rfl⟩ := u64_of wa2
  clear hA0 hval0
  simp only [List.append_nil] at hW'
  refine (walk x00 x01 x02 x1 x2 W (of_laid hL)).mono fun e W' ⟨he, hb⟩ => ?_
  subst he
  exact ⟨_, rfl, post_plain hW' hb (fun _ _ _ => trodAll_mk1 (shut_bool Tryd.underlying4 _)) (fun sp => trodAll_cons_mk (shut_row3 Tryd.underlying43 Tryd.underlying32 (by kernel_rfl) (by kernel_rfl) wm00 wm01 wm02) (trodAll_cons_mk (shut_int Tryd.underlying22 wa1) (trodAll_cons_mk (shut_int Tryd.underlying22 wa2) trodAll_mk0))) (fun _ => rfl) (ok_one (by kernel_rfl) rfl (okWide_bool_mk Tryd.underlying4 _))⟩

theorem row : Rows.ChecksumAssociatesSaid :=
  OpenClaim.holds_of_wide 9 Tryd.f9 rfl rfl rfl rfl rfl rfl rfl ⟨rfl, rfl, rfl, rfl, rfl⟩ rfl rfl rfl rfl rfl (by kernel_rfl) Tryd.func9 (by kernel_rfl)
    (of_decide_eq_true (by kernel_rfl)) (by unfold Func.isWrapper; first | (rw [if_pos (by decide +kernel)]; kernel_rfl) | (rw [if_neg (by decide +kernel)]; exact ⟨rfl, rfl⟩))
    (fun os started H enc _ => lifted os started H enc)

theorem proved : Rows.ChecksumAssociatesCardSaid :=
  Claim7.holds_tied_plain_at .later [] [.data] true _ false row (fun _ h => by cases h) (by kernel_rfl) (fun _ h => by cases h) checksumAssociates_row_tie rfl ⟨rfl, rfl⟩ (by kernel_rfl) rfl
    (fun f fn hf hfn => by
      obtain rfl : f = 9 := Option.some.inj ((show Tryd.prog.funcNamed "sleuth/sleuthlaw04.ChecksumAssociates" = some 9 by kernel_rfl).symm.trans hf) |>.symm
      obtain rfl : fn = Tryd.f9 := (Option.some.inj (Tryd.func9.symm.trans hfn)).symm
      exact ⟨by kernel_rfl, fun j t ht => by
        rw [Tryd.params9] at ht
        have hm : t ∈ [43, 22] := by simpa using Array.mem_of_getElem? ht
        have hall : ([43, 22].all fun u => !Tryd.prog.wantsStandIn u) = true := by kernel_rfl
        exact (show Tryd.prog.wantsStandIn t = false by simpa using List.all_eq_true.1 hall t hm)⟩)
    (by kernel_rfl)
end Go.Proofs.YtediohaamblpbaaDoor.lawAssociates
