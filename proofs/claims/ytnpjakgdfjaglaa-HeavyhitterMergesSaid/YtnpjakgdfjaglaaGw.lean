/- The law's equal (written by wip/bin/gen_gw22.py). -/
import Derived.Test.YtnpjakgdfjaglaaGt
import Derived.Lib.QuietBelow
namespace Go.Proofs.Ytnpjakgdfjaglaa
open Go.ChangeShapes Go.WideShapes Go.ChangeAt Go.RowKit Go.Joins

/-- Are two summaries equal? -/
def eqS (a b : Su) : Bool := decide (a.mo = b.mo) && (decide (a.to = b.to) && (decide (a.lo = b.lo) && decide (a.cs = b.cs)))
set_option maxRecDepth 100000 in
set_option maxHeartbeats 4000000 in
theorem equal_any (v u : Value) (a b : Su) (hl : a.cs.length ≤ 1000000) (w : World) (hv : SuV w v a) (hu : SuV w u b) :
    Calls Try.prog 15 #[v, u] w fun e w' => e = .returned (.bool (eqS a b)) ∧ Below w.heap.size w w' := by
  obtain ⟨mo, to, lo, cs⟩ := a
  obtain ⟨mo', to', lo', cs'⟩ := b
  obtain ⟨x, rfl, hx⟩ := hv
  obtain ⟨y, rfl, hy⟩ := hu
  dsimp only at hl hx hy ⊢
  have HE : Hid (eqS ⟨mo, to, lo, cs⟩ ⟨mo', to', lo', cs'⟩ = (decide (mo = mo') && (decide (to = to') && (decide (lo = lo') && decide (cs = cs'))))) := Lib.hid rfl
  obtain ⟨r, hr⟩ : ∃ r, r = decide (cs = cs') := ⟨_, rfl⟩
  rw [← hr] at HE
  obtain ⟨q, hq⟩ : ∃ q, q = eqS ⟨mo, to, lo, cs⟩ ⟨mo', to', lo', cs'⟩ := ⟨_, rfl⟩
  rw [← hq] at HE ⊢
  have HX := Lib.hid hx
  have HY := Lib.hid hy
  obtain ⟨A, c, rfl, _⟩ := id hx
  obtain ⟨B, d, rfl, _⟩ := id hy
  have HR := Lib.hid hr
  obtain ⟨la, hla⟩ : ∃ la, la = cs.length := ⟨_, rfl⟩
  obtain ⟨lb, hlb⟩ : ∃ lb, lb = cs'.length := ⟨_, rfl⟩
  rw [← hla] at HX ⊢
  rw [← hlb] at HY ⊢
  clear hx hy hq hla hlb hr
  obtain ⟨W0, hW0⟩ : ∃ W0 : World, W0 = (w.alloc (.cells #[.int .i64 mo, .int .i64 to, .int .i64 lo, .slice A la c] 24)).alloc (.cells #[.int .i64 mo', .int .i64 to', .int .i64 lo', .slice B lb d] 24) := ⟨_, rfl⟩
  have HB0 : Hid (Below w.heap.size w W0) := Lib.hid (by rw [hW0]; exact ((Below.refl _ _).alloc (Nat.le_refl _) _).alloc (by simp) _)
  have g0 : W0.heap[w.heap.size]? = some (.cells #[.int .i64 mo, .int .i64 to, .int .i64 lo, .slice A la c] 24 (0, 0)) := by rw [hW0]; exact blk_under _ _ _
  have g1 : W0.heap[w.heap.size + 1]? = some (.cells #[.int .i64 mo', .int .i64 to', .int .i64 lo', .slice B lb d] 24 (0, 0)) := by rw [hW0]; exact blk_over _ _ _
  have HC : Hid (Calls Try.prog 32 #[.slice A la c, .slice B lb d] W0 fun e w'' => e = .returned (.bool r) ∧ Below W0.heap.size W0 w'') := Lib.hid (by
    have := same_any _ _ cs cs' hl W0 (HX.out.below HB0.out) (HY.out.below HB0.out)
    rw [← HR.out] at this; exact this)
  have HBe := HB0.out
  rw [hW0] at HBe
  have HBe := Lib.hid HBe
  clear g0 g1 HX HY HR
  go_enter Try.func15, Try.ntmps15
  have HW := Lib.hid hW0
  clear hW0
  by_cases h0 : mo = mo'
  · have b0 : (mo == mo') = true := by simpa using h0
    have H0 := Lib.hid h0
    clear h0
    by_cases h1 : to = to'
    · have b1 : (to == to') = true := by simpa using h1
      have H1 := Lib.hid h1
      clear h1
      by_cases h2 : lo = lo'
      · have b2 : (lo == lo') = true := by simpa using h2
        have HF : Hid (q = r) := Lib.hid (by rw [HE.out, decide_eq_true H0.out, decide_eq_true H1.out, decide_eq_true h2]; simp)
        clear h2
        go_wp2_with fail
        rw [← HW.out]
        refine HC.out.mono ?_
        rintro e w2 ⟨rfl, hb⟩
        have HB2 := Lib.hid (HB0.out.trans (hb.mono HB0.out.size))
        clear hb
        go_wp2_with fail
        go_ret
        exact ⟨by rw [HF.out]; rfl, HB2.out⟩
      · have b2 : (lo == lo') = false := by simpa using h2
        have HF : Hid (q = false) := Lib.hid (by rw [HE.out, decide_eq_false h2]; simp)
        clear h2
        go_wp2_with fail
        go_ret
        exact ⟨by rw [HF.out]; rfl, HBe.out⟩
    · have b1 : (to == to') = false := by simpa using h1
      have HF : Hid (q = false) := Lib.hid (by rw [HE.out, decide_eq_false h1]; simp)
      clear h1
      go_wp2_with fail
      go_ret
      exact ⟨by rw [HF.out]; rfl, HBe.out⟩
  · have b0 : (mo == mo') = false := by simpa using h0
    have HF : Hid (q = false) := Lib.hid (by rw [HE.out, decide_eq_false h0]; simp)
    clear h0
    go_wp2_with fail
    go_ret
    exact ⟨by rw [HF.out]; rfl, HBe.out⟩
end Go.Proofs.Ytnpjakgdfjaglaa
