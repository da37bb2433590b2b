/- A nil sketch; sketches that conflict; Union and Overlap of no key and one key. -/
import Derived.Test.YtajainkaomkbjaaCb
import Derived.Deep.RegionHeld3
namespace Go.Proofs.Ytajainkaomkbjaa
open Go.ChangeShapes Go.WideShapes Go.ChangeAt Go.RowKit Go.Joins Bt

set_option maxRecDepth 100000 in
theorem nil_add (t : ByteArray) (w : World) : Calls Try.prog 17 #[.pointer none, .string t] w fun e w' => e = .returned (.int .i64 1) ∧ w = w' := by
  go_enter Try.func17, Try.ntmps17
  go_wp2_with fail
  go_ret
  exact ⟨rfl, rfl⟩
set_option maxRecDepth 100000 in
theorem nil_merge (v : Value) (w : World) : Calls Try.prog 23 #[.pointer none, v] w fun e w' => e = .returned (.int .i64 1) ∧ w = w' := by
  go_enter Try.func23, Try.ntmps23
  go_wp2_with fail
  go_ret
  exact ⟨rfl, rfl⟩
set_option maxRecDepth 100000 in
theorem merge_nil (g : Nat) (w : World) : Calls Try.prog 23 #[.pointer (some ⟨g, 0, none⟩), .pointer none] w fun e w' => e = .returned (.int .i64 1) ∧ w = w' := by
  go_enter Try.func23, Try.ntmps23
  go_wp2_with fail
  go_ret
  exact ⟨rfl, rfl⟩
set_option maxRecDepth 100000 in
theorem nil_size  (w : World) : Calls Try.prog 37 #[.pointer none] w fun e w' => e = .returned (.int .i64 0) ∧ w = w' := by
  go_enter Try.func37, Try.ntmps37
  go_wp2_with fail
  go_ret
  exact ⟨rfl, rfl⟩
set_option maxRecDepth 100000 in
theorem nil_seed  (w : World) : Calls Try.prog 38 #[.pointer none] w fun e w' => e = .returned (.int .i64 0) ∧ w = w' := by
  go_enter Try.func38, Try.ntmps38
  go_wp2_with fail
  go_ret
  exact ⟨rfl, rfl⟩
set_option maxRecDepth 100000 in
theorem nil_distinct  (w : World) : Calls Try.prog 28 #[.pointer none] w fun e w' => e = .returned (.int .i64 0) ∧ w = w' := by
  go_enter Try.func28, Try.ntmps28
  go_wp2_with fail
  go_ret
  exact ⟨rfl, rfl⟩
set_option maxRecDepth 100000 in
theorem nil_least  (w : World) : Calls Try.prog 30 #[.pointer none] w fun e w' => e = .returned (.int .i64 0) ∧ w = w' := by
  go_enter Try.func30, Try.ntmps30
  go_wp2_with fail
  go_ret
  exact ⟨rfl, rfl⟩
set_option maxRecDepth 100000 in
theorem nil_keys  (w : World) : Calls Try.prog 25 #[.pointer none] w fun e w' => e = .returned (.slice none 0 0) ∧ w = w' := by
  go_enter Try.func25, Try.ntmps25
  go_wp2_with fail
  go_ret
  exact ⟨rfl, rfl⟩
set_option maxRecDepth 100000 in
theorem nil_encode  (w : World) : Calls Try.prog 24 #[.pointer none] w fun e w' => e = .returned (.string ByteArray.empty) ∧ w = w' := by
  go_enter Try.func24, Try.ntmps24
  go_wp2_with fail
  go_ret
  exact ⟨rfl, rfl⟩
set_option maxRecDepth 100000 in
theorem nil_exact  (w : World) : Calls Try.prog 31 #[.pointer none] w fun e w' => e = .returned (.bool false) ∧ w = w' := by
  go_enter Try.func31, Try.ntmps31
  go_wp2_with fail
  go_ret
  exact ⟨rfl, rfl⟩
set_option maxRecDepth 100000 in
theorem nil_clone  (w : World) : Calls Try.prog 22 #[.pointer none] w fun e w' => e = .returned (.pointer none) ∧ w = w' := by
  go_enter Try.func22, Try.ntmps22
  go_wp2_with fail
  go_ret
  exact ⟨rfl, rfl⟩
set_option maxRecDepth 100000 in
theorem nil_equal_nil  (w : World) : Calls Try.prog 21 #[.pointer none, .pointer none] w fun e w' => e = .returned (.bool true) ∧ w = w' := by
  go_enter Try.func21, Try.ntmps21
  go_wp2_with fail
  go_ret
  exact ⟨rfl, rfl⟩
theorem run_eql_nil_some (t : TypeId) (a : Addr) (w : World) (h : Try.prog.underlying t = some (.pointer (Try.prog.pointee t))) : (binOp .eql t (.pointer none) (.pointer (some a))).run Try.prog w = .ok (.bool false) w := by
  have h2 : ∀ d : Nat, (Op.equalIn (d + 1) t (.pointer none) (.pointer (some a))).run Try.prog w = .ok false w := fun d => by simp [Op.equalIn, run_underlying h]
  simp only [binOp]
  simp [Op.equal, Op.maxDepth, h2 9999]
set_option maxRecDepth 100000 in
theorem nil_equal (g : Nat) (w : World) : Calls Try.prog 21 #[.pointer none, .pointer (some ⟨g, 0, none⟩)] w fun e w' => e = .returned (.bool false) ∧ w = w' := by
  have he := run_eql_nil_some 25 ⟨g, 0, none⟩ w (by kernel_rfl)
  go_enter Try.func21, Try.ntmps21
  go_wp2_with fail
  go_ret
  exact ⟨rfl, rfl⟩
set_option maxRecDepth 100000 in
theorem equal_nil (g : Nat) (w : World) : Calls Try.prog 21 #[.pointer (some ⟨g, 0, none⟩), .pointer none] w fun e w' => e = .returned (.bool false) ∧ w = w' := by
  go_enter Try.func21, Try.ntmps21
  go_wp2_with fail
  go_ret
  exact ⟨rfl, rfl⟩
set_option maxRecDepth 100000 in
theorem merge_conflict (g h : Nat) (n sd n2 sd2 : Int) (x y : List Ky × Bool) (hne : ¬ (n = n2 ∧ sd = sd2)) (w : World) (hk : Sk w g n sd x) (hk2 : Sk w h n2 sd2 y) :
    Calls Try.prog 23 #[.pointer (some ⟨g, 0, none⟩), .pointer (some ⟨h, 0, none⟩)] w fun e w' => e = .returned (.int .i64 17) ∧ Below w.heap.size w w' := by
  obtain ⟨v, _, hg⟩ := hk
  obtain ⟨u, _, hh⟩ := hk2
  have x0 := cell_of_row w g 0 _ _ _ hg
  have x1 := cell_of_row w g 1 _ _ _ hg
  have y0 := cell_of_row w h 0 _ _ _ hh
  have y1 := cell_of_row w h 1 _ _ _ hh
  simp at x0 x1 y0 y1
  have HB := Lib.hid (fun nq => below_drewN (Below.refl w.heap.size w) nq)
  clear hg hh
  by_cases e : n = n2
  · subst e
    have ne1 : (n != n) = false := by simp
    have ne2 : (sd != sd2) = true := by simp; exact fun e => hne ⟨rfl, e⟩
    clear hne
    go_enter Try.func23, Try.ntmps23
    go_wp2_with fail
    go_quiet (fail)
    go_wp2_with fail
    go_ret
    exact ⟨rfl, HB.out _⟩
  · have ne1 : (n != n2) = true := by simpa using e
    clear hne e
    go_enter Try.func23, Try.ntmps23
    go_wp2_with fail
    go_quiet (fail)
    go_wp2_with fail
    go_ret
    exact ⟨rfl, HB.out _⟩
theorem union_ok (g h n : Nat) (sd : Int) (hn : n ≤ 1024) (x y : List Ky × Bool) (hx : x.1.length ≤ n) (hy : y.1.length ≤ n) (w : World) (hk : Sk w g n sd x) (hk2 : Sk w h n sd y) :
    Calls Try.prog 55 #[.pointer (some ⟨g, 0, none⟩), .pointer (some ⟨h, 0, none⟩)] w fun e w' => e = .returned (.tuple #[.pointer (some ⟨w.heap.size, 0, none⟩), .int .i64 0]) ∧ Sk w' w.heap.size n sd (kep n (mrg x.1 y.1) (x.2 || y.2)) ∧ Below w.heap.size w w' := by
  have HC := Lib.hid (clone_any g n sd x w hk)
  have HM := Lib.hid (fun W h1 h2 => merge_any w.heap.size h n sd hn x y hx hy W h1 h2)
  have HK := Lib.hid hk2
  obtain ⟨X, hX⟩ : ∃ X, X = kep n (mrg x.1 y.1) (x.2 || y.2) := ⟨_, rfl⟩
  rw [← hX] at HM ⊢
  clear hk hk2 hx hy hX
  go_enter Try.func55, Try.ntmps55
  go_wp2_with fail
  refine HC.out.mono ?_
  rintro e w1 ⟨rfl, hsk, hb⟩
  have HB := Lib.hid hb
  have HS := Lib.hid hsk
  clear hb hsk
  go_wp2_with fail
  refine (HM.out _ HS.out (HK.out.below HB.out)).mono ?_
  rintro e w2 ⟨rfl, hsk, hg⟩
  have HB2 := Lib.hid (below_gs HB.out hg (Nat.le_refl _) (Nat.le_refl _))
  have HS2 := Lib.hid hsk
  clear hg hsk
  go_wp2_with fail
  go_ret2
  exact ⟨rfl, HS2.out, HB2.out⟩
theorem union_conflict (g h : Nat) (n sd n2 sd2 : Int) (x y : List Ky × Bool) (hne : ¬ (n = n2 ∧ sd = sd2)) (w : World) (hk : Sk w g n sd x) (hk2 : Sk w h n2 sd2 y) :
    Calls Try.prog 55 #[.pointer (some ⟨g, 0, none⟩), .pointer (some ⟨h, 0, none⟩)] w fun e w' => e = .returned (.tuple #[.pointer none, .int .i64 17]) ∧ Below w.heap.size w w' := by
  have HC := Lib.hid (clone_any g n sd x w hk)
  have HM := Lib.hid (fun W h1 h2 => merge_conflict w.heap.size h n sd n2 sd2 x y hne W h1 h2)
  have HK := Lib.hid hk2
  clear hk hk2 hne
  go_enter Try.func55, Try.ntmps55
  go_wp2_with fail
  refine HC.out.mono ?_
  rintro e w1 ⟨rfl, hsk, hb⟩
  have HB := Lib.hid hb
  have HS := Lib.hid hsk
  clear hb hsk
  go_wp2_with fail
  refine (HM.out _ HS.out (HK.out.below HB.out)).mono ?_
  rintro e w2 ⟨rfl, hb⟩
  have HB2 := Lib.hid (HB.out.trans (hb.mono HB.out.size))
  clear hb
  go_wp2_with fail
  go_ret2
  exact ⟨rfl, HB2.out⟩
theorem union_nil (g : Nat) (n sd : Int) (x : List Ky × Bool) (w : World) (hk : Sk w g n sd x) :
    Calls Try.prog 55 #[.pointer (some ⟨g, 0, none⟩), .pointer none] w fun e w' => e = .returned (.tuple #[.pointer none, .int .i64 1]) ∧ Below w.heap.size w w' := by
  have HC := Lib.hid (clone_any g n sd x w hk)
  clear hk
  go_enter Try.func55, Try.ntmps55
  go_wp2_with fail
  refine HC.out.mono ?_
  rintro e w1 ⟨rfl, _, hb⟩
  have HB := Lib.hid hb
  clear hb
  go_wp2_with fail
  refine (merge_nil _ _).mono ?_
  rintro e w2 ⟨rfl, rfl⟩
  go_wp2_with fail
  go_ret2
  exact ⟨rfl, HB.out⟩
theorem nil_union (v : Value) (w : World) :
    Calls Try.prog 55 #[.pointer none, v] w fun e w' => e = .returned (.tuple #[.pointer none, .int .i64 1]) ∧ w = w' := by
  go_enter Try.func55, Try.ntmps55
  go_wp2_with fail
  refine (nil_clone _).mono ?_
  rintro e w2 ⟨rfl, rfl⟩
  go_wp2_with fail
  refine (nil_merge _ _).mono ?_
  rintro e w2 ⟨rfl, rfl⟩
  go_wp2_with fail
  go_ret2
  exact ⟨rfl, rfl⟩
theorem keeps_any (g : Nat) (n sd : Int) (x : List Ky × Bool) (hS : Srt x.1) (hL : x.1.length ≤ 1000000) (kh : Int) (kt : ByteArray) (w : World) (hk : Sk w g n sd x) :
    Calls Try.prog 56 #[.pointer (some ⟨g, 0, none⟩), .agg #[.int .i64 kh, .string kt]] w fun e w' => e = .returned (.bool (decide (x.1[lw x.1 (kh, kt)]? = some (kh, kt)))) ∧ Below w.heap.size w w' := by
  obtain ⟨L, m⟩ := x
  dsimp only at hS hL ⊢
  obtain ⟨v, ⟨A, c, rfl, _, _, hR⟩, hg⟩ := hk
  dsimp only at hR hg
  have hgl := (Array.getElem?_eq_some_iff.1 hg).1
  have HB := Lib.hid (fun W h => bsf_any A c L kh kt hS hL W h)
  have HR := Lib.hid hR
  have HG := Lib.hid hg
  obtain ⟨r, hr⟩ : ∃ r, r = decide (L[lw L (kh, kt)]? = some (kh, kt)) := ⟨_, rfl⟩
  rw [← hr] at HB ⊢
  obtain ⟨q, hq⟩ : ∃ q, q = lw L (kh, kt) := ⟨_, rfl⟩
  rw [← hq] at HB
  obtain ⟨ln, hln⟩ : ∃ ln, ln = L.length := ⟨_, rfl⟩
  rw [← hln] at HB HG
  have HB0 : Hid (Below w.heap.size w (w.alloc (.cells #[.int .i64 kh, .string kt] 50))) := Lib.hid ((Below.refl _ _).alloc (Nat.le_refl _) _)
  have HK0 := Lib.hid (Deep.blk_alloc_new w (.cells #[.int .i64 kh, .string kt] 50))
  clear hS hL hR hg hr hln hq
  go_enter Try.func56, Try.ntmps56
  go_wp2_with fail
  obtain ⟨w0, hw0⟩ : ∃ w0, w0 = w.alloc (.cells #[.int .i64 kh, .string kt] 50) := ⟨_, rfl⟩
  rw [← hw0] at HB0 HK0 ⊢
  have hl0 := (Array.getElem?_eq_some_iff.1 HK0.out).1
  have HS : Hid (∀ W, Below w0.heap.size w0 W → W.cell? ⟨g, 2, none⟩ = some (.slice A ln c) ∧ W.cell? ⟨w.heap.size, 0, none⟩ = some (.int .i64 kh) ∧ W.cell? ⟨w.heap.size, 1, none⟩ = some (.string kt)) := Lib.hid (fun W hb => ⟨cell_of_row W g 2 _ _ _ (((HB0.out.trans (hb.mono HB0.out.size)).block g hgl).trans HG.out), cell_of_row W w.heap.size 0 _ _ _ ((hb.block _ hl0).trans HK0.out), cell_of_row W w.heap.size 1 _ _ _ ((hb.block _ hl0).trans HK0.out)⟩)
  have HD0 : Hid (Below w0.heap.size w0 w0.drew) := Lib.hid (Below.refl _ _).drew
  clear hw0
  go_region_held3 (fun W => W.cell? ⟨g, 2, none⟩ = some (.slice A ln c) ∧ W.cell? ⟨w.heap.size, 0, none⟩ = some (.int .i64 kh) ∧ W.cell? ⟨w.heap.size, 1, none⟩ = some (.string kt))
    (first | exact HS.out _ HD1.out | exact HS.out _ HD0.out)
    ((first
      | (go_at_call 68; (with_reducible refine (HB.out _ (HR.out.below (HB0.out.trans (HD0.out.mono HB0.out.size)))).mono ?_); rintro e w1 ⟨rfl, hb1⟩; have HD1 : Hid (Below w0.heap.size w0 w1) := Lib.hid (HD0.out.trans (hb1.mono HD0.out.size)); clear hb1)
      | fail))
  go_wp2_with fail
  go_ret
  exact ⟨rfl, HB0.out.trans (HD1.out.mono HB0.out.size)⟩
end Go.Proofs.Ytajainkaomkbjaa
