/- Add, New, Of. -/
import Derived.Test.YtajainkaomkbjaaBi
namespace Go.Proofs.Ytajainkaomkbjaa
open Go.ChangeShapes Go.WideShapes Go.ChangeAt Go.RowKit Go.Joins Bt

theorem sk_seed {w : World} {g : Nat} {n sd : Int} {x : List Ky × Bool} (h : Sk w g n sd x) : w.cell? ⟨g, 1, none⟩ = some (.int .i64 sd) := by
  obtain ⟨v, _, h⟩ := h
  exact cell_of_row w g 1 _ _ _ h
theorem add_nil (t : ByteArray) (w : World) : Calls Try.prog 17 #[.pointer none, .string t] w fun e w' => e = .returned (.int .i64 1) ∧ w = w' := by
  go_enter Try.func17, Try.ntmps17
  go_wp2_with fail
  go_ret
  exact ⟨rfl, rfl⟩
set_option maxRecDepth 100000 in
theorem add_bad (g : Nat) (t : ByteArray) (ht : t.size ≤ 1000000) (hc : chkK t ≠ 0) (w : World) :
    Calls Try.prog 17 #[.pointer (some ⟨g, 0, none⟩), .string t] w fun e w' => e = .returned (.int .i64 (chkK t)) ∧ Below w.heap.size w w' := by
  have HC := Lib.hid (fun W => cv_any t ht W)
  obtain ⟨k, hk⟩ : ∃ k, k = chkK t := ⟨_, rfl⟩
  rw [← hk] at HC hc ⊢
  have hk0 : (k != 0) = true := by simpa using hc
  clear hk hc
  go_enter Try.func17, Try.ntmps17
  go_wp2_with fail
  refine (HC.out _).mono ?_
  rintro e w1 ⟨rfl, hb⟩
  have HB := Lib.hid hb
  clear hb
  go_wp2_with fail
  go_ret
  exact ⟨rfl, HB.out⟩
set_option maxRecDepth 100000 in
theorem add_ok (g n : Nat) (sd : Int) (hn0 : 1 ≤ n) (hn : n ≤ 1024) (x : List Ky × Bool) (hS : Srt x.1) (hL : x.1.length ≤ n) (t : ByteArray) (ht : t.size ≤ 1000000) (hc : chkK t = 0) (w : World) (hk : Sk w g n sd x) :
    Calls Try.prog 17 #[.pointer (some ⟨g, 0, none⟩), .string t] w fun e w' => e = .returned (.int .i64 0) ∧ Sk w' g n sd (stp n x (kyO sd t)) ∧ Gs g w w' := by
  have HC := Lib.hid (fun W => cv_any t ht W)
  rw [hc] at HC
  have HH := Lib.hid (fun W => hashed_any sd t ht W)
  have HI := Lib.hid (fun W h => insert_any g n sd hn0 hn x hS hL (hsh sd t) t W h)
  have HK := Lib.hid hk
  clear hk hc hS hL
  go_enter Try.func17, Try.ntmps17
  go_wp2_with fail
  refine (HC.out _).mono ?_
  rintro e w1 ⟨rfl, hb⟩
  have HB := Lib.hid hb
  have HK1 := Lib.hid (HK.out.below hb)
  have c1 := sk_seed HK1.out
  have hl1 := HK1.out.lt
  clear hb
  go_wp2_with fail
  refine (HH.out _).mono ?_
  rintro e w2 ⟨rfl, hb⟩
  have HB2 := Lib.hid (HB.out.trans (hb.mono HB.out.size))
  have HK2 := Lib.hid (HK1.out.below hb)
  clear hb c1 hl1
  go_wp2_with fail
  refine (HI.out _ HK2.out).mono ?_
  rintro e w3 ⟨rfl, h1, h2⟩
  have H1 := Lib.hid h1
  have H2 := Lib.hid h2
  clear h1 h2
  go_wp2_with fail
  go_ret
  exact ⟨rfl, H1.out, (Gs.of HB2.out).trans H2.out⟩
set_option maxRecDepth 100000 in
theorem new_ok (n : Nat) (hn0 : 1 ≤ n) (hn : n ≤ 1024) (sd : Int) (h0 : 0 ≤ sd) (h1 : sd ≤ 1048576) (w : World) :
    Calls Try.prog 13 #[.int .i64 (n : Int), .int .i64 sd] w fun e w' => e = .returned (.tuple #[.pointer (some ⟨w.heap.size, 0, none⟩), .int .i64 0]) ∧ Sk w' w.heap.size n sd ([], false) ∧ Below w.heap.size w w' := by
  have d1 : decide ((n : Int) < 1) = false := by simp; omega
  have d2 : decide ((1024 : Int) < (n : Int)) = false := by simp; omega
  have d3 : decide (sd < 0) = false := by simp; omega
  have d4 : decide ((1048576 : Int) < sd) = false := by simp; omega
  go_enter Try.func13, Try.ntmps13
  go_wp2_with fail
  go_ret2
  exact ⟨rfl, ⟨_, ⟨none, 0, rfl, Nat.le_refl _, fun _ => rfl, KR.nil⟩, Deep.blk_alloc_new w _⟩, (Below.refl _ _).alloc (Nat.le_refl _) _⟩
set_option maxRecDepth 100000 in
theorem new_bad (n sd : Int) (h : n < 1 ∨ 1024 < n ∨ sd < 0 ∨ 1048576 < sd) (w : World) :
    Calls Try.prog 13 #[.int .i64 n, .int .i64 sd] w fun e w' => e = .returned (.tuple #[.pointer none, .int .i64 2]) ∧ w = w' := by
  by_cases h1 : n < 1
  · have d1 : decide (n < 1) = true := by simpa using h1
    clear h
    go_enter Try.func13, Try.ntmps13
    go_wp2_with fail
    go_ret2
    exact ⟨rfl, rfl⟩
  have d1 : decide (n < 1) = false := by simpa using h1
  by_cases h2 : 1024 < n
  · have d2 : decide ((1024 : Int) < n) = true := by simpa using h2
    clear h
    go_enter Try.func13, Try.ntmps13
    go_wp2_with fail
    go_ret2
    exact ⟨rfl, rfl⟩
  have d2 : decide ((1024 : Int) < n) = false := by simpa using h2
  by_cases h3 : sd < 0
  · have d3 : decide (sd < 0) = true := by simpa using h3
    clear h
    go_enter Try.func13, Try.ntmps13
    go_wp2_with fail
    go_ret2
    exact ⟨rfl, rfl⟩
  have d3 : decide (sd < 0) = false := by simpa using h3
  have d4 : decide ((1048576 : Int) < sd) = true := by simp; omega
  clear h
  go_enter Try.func13, Try.ntmps13
  go_wp2_with fail
  go_ret2
  exact ⟨rfl, rfl⟩
end Go.Proofs.Ytajainkaomkbjaa
