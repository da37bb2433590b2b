/- Union and Overlap for the law of nil sketches. -/
import Derived.Test.YtajainkaomkbjaaCc
namespace Go.Proofs.Ytajainkaomkbjaa
open Go.ChangeShapes Go.WideShapes Go.ChangeAt Go.RowKit Go.Joins Bt

theorem union_exact (g h n : Nat) (sd : Int) (hn : n ≤ 1024) (x y : List Ky × Bool) (hx : x.1.length ≤ n) (hy : y.1.length ≤ n) (hm : (kep n (mrg x.1 y.1) (x.2 || y.2)).2 = false) (w : World) (hk : Sk w g n sd x) (hk2 : Sk w h n sd y) :
    Calls Try.prog 32 #[.pointer (some ⟨g, 0, none⟩), .pointer (some ⟨h, 0, none⟩)] w fun e w' => e = .returned (.tuple #[.int .i64 ((kep n (mrg x.1 y.1) (x.2 || y.2)).1.length : Int), .int .i64 0]) ∧ Below w.heap.size w w' := by
  have HU := Lib.hid (union_ok g h n sd hn x y hx hy w hk hk2)
  have HD := Lib.hid (fun W hs => distinct_exact (g := w.heap.size) (n := n) (sd := sd) (x := kep n (mrg x.1 y.1) (x.2 || y.2)) W hs hm)
  obtain ⟨X, hX⟩ : ∃ X, X = kep n (mrg x.1 y.1) (x.2 || y.2) := ⟨_, rfl⟩
  rw [← hX] at HU HD ⊢
  clear hX hm hx hy hk hk2
  go_enter Try.func32, Try.ntmps32
  go_wp2_with fail
  refine HU.out.mono ?_
  rintro e w1 ⟨rfl, hsk, hb⟩
  have HB := Lib.hid hb
  have HS := Lib.hid hsk
  clear hb hsk
  go_wp2_with fail
  refine (HD.out _ HS.out).mono ?_
  rintro e w2 ⟨rfl, rfl⟩
  go_wp2_with fail
  go_ret2
  exact ⟨rfl, HB.out⟩
theorem union_err (p q : Value) (c : Int) (hc : c ≠ 0) (w : World) (hu : Calls Try.prog 55 #[p, q] w fun e w' => e = .returned (.tuple #[.pointer none, .int .i64 c]) ∧ Below w.heap.size w w') :
    Calls Try.prog 32 #[p, q] w fun e w' => (∃ v, e = .returned (.tuple #[v, .int .i64 c])) ∧ Below w.heap.size w w' := by
  have HU := Lib.hid hu
  have hc2 : (c != 0) = true := by simpa using hc
  clear hu hc
  go_enter Try.func32, Try.ntmps32
  go_wp2_with fail
  refine HU.out.mono ?_
  rintro e w1 ⟨rfl, hb⟩
  have HB := Lib.hid hb
  clear hb
  go_wp2_with fail
  go_ret2
  exact ⟨⟨_, rfl⟩, HB.out⟩
theorem overlap_err (p q : Value) (c : Int) (hc : c ≠ 0) (w : World) (hu : Calls Try.prog 55 #[p, q] w fun e w' => e = .returned (.tuple #[.pointer none, .int .i64 c]) ∧ Below w.heap.size w w') :
    Calls Try.prog 33 #[p, q] w fun e w' => (∃ v, e = .returned (.tuple #[v, .int .i64 c])) ∧ Below w.heap.size w w' := by
  have HU := Lib.hid hu
  have hc2 : (c != 0) = true := by simpa using hc
  clear hu hc
  go_enter Try.func33, Try.ntmps33
  go_wp2_with fail
  refine HU.out.mono ?_
  rintro e w1 ⟨rfl, hb⟩
  have HB := Lib.hid hb
  clear hb
  go_wp2_with fail
  go_ret2
  exact ⟨⟨_, rfl⟩, HB.out⟩
set_option maxRecDepth 100000 in
set_option maxHeartbeats 2000000 in
theorem overlap_one (g h n : Nat) (sd : Int) (hn0 : 1 ≤ n) (hn : n ≤ 1024) (kh : Int) (kt : ByteArray) (w : World) (hk : Sk w g n sd ([], false)) (hk2 : Sk w h n sd ([(kh, kt)], false)) :
    Calls Try.prog 33 #[.pointer (some ⟨g, 0, none⟩), .pointer (some ⟨h, 0, none⟩)] w fun e w' => (∃ v, e = .returned (.tuple #[v, .int .i64 0])) ∧ Below w.heap.size w w' := by
  have HU := Lib.hid (union_ok g h n sd hn ([], false) ([(kh, kt)], false) (Nat.zero_le _) hn0 w hk hk2)
  rw [show kep n (mrg ([], false).1 ([(kh, kt)], false).1) (([], false).2 || ([(kh, kt)], false).2) = ([(kh, kt)], false) by rw [mrg_nil_l]; unfold kep; rw [if_neg (by simp; omega)]; rfl] at HU
  have HKp := Lib.hid (fun W hs => keeps_any g n sd ([], false) srt_nil (Nat.zero_le _) kh kt W hs)
  simp only [List.getElem?_nil, reduceCtorEq, decide_false] at HKp
  have HK := Lib.hid hk
  clear hk hk2 hn0 hn
  go_enter Try.func33, Try.ntmps33
  go_wp2_with fail
  refine HU.out.mono ?_
  rintro e w1 ⟨rfl, hsk, hb⟩
  have HB := Lib.hid hb
  obtain ⟨v, ⟨A, c, rfl, hlc, hnl, hR⟩, hg⟩ := hsk
  obtain ⟨b, off, rfl, hbl, h0, h1⟩ := kr_head hR
  dsimp only at h0 h1
  have x2 := cell_of_row w1 w.heap.size 2 _ _ _ hg
  simp at x2
  have HG := Lib.hid hg
  have hz : w.heap.size < w1.heap.size := (Array.getElem?_eq_some_iff.1 hg).1
  clear hb hR hnl hg
  go_wp2_with fail
  refine wp_loop_rounds 3 ?_
  rw [rounds_succ]
  go_wp2_with fail
  have HB2 := Lib.hid (HB.out.alloc HB.out.size (.cells #[.int .i64 kh, .string kt] 50))
  have HG2 := Lib.hid ((Below.heap_alloc w1 (.cells #[.int .i64 kh, .string kt] 50) w.heap.size hz).trans HG.out)
  refine (HKp.out _ (HK.out.below HB2.out)).mono ?_
  rintro e w2 ⟨rfl, hb⟩
  have HB3 := Lib.hid (HB2.out.trans (hb.mono HB2.out.size))
  have hG3 := (hb.block _ (Array.getElem?_eq_some_iff.1 HG2.out).1).trans HG2.out
  clear x2 h0 h1
  have x2 := cell_of_row w2 w.heap.size 2 _ _ _ hG3
  simp at x2
  clear hb hG3
  go_wp2_with fail
  rw [rounds_succ]
  go_wp2_with fail
  go_ret2
  exact ⟨⟨_, rfl⟩, HB3.out⟩
end Go.Proofs.Ytajainkaomkbjaa
