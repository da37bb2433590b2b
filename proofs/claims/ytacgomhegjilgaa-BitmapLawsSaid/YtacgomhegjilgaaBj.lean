/- The program's join (made out of layer 3's). -/
import Derived.Test.YtacgomhegjilgaaBg
namespace Go.Proofs.Ytacgomhegjilgaa
open Go.ChangeShapes Go.WideShapes Go.ChangeAt Go.RowKit Ts

attribute [local go_sem] cast_not_neg
set_option maxRecDepth 100000 in
set_option maxHeartbeats 2000000 in
theorem join_any (base : Nat) (v : Value) (L : List Iv) (hl : L.length ≤ 600000) (hB : ∀ x ∈ L, -2000000 ≤ x.2 ∧ x.2 ≤ 2000000) (x1 x2 : Int) (w : World) (hown : w.ownsRow base 39 2 v L.length (ivCells L)) (hbase : base ≤ w.heap.size) :
    Calls Try.prog 54 #[v, .agg #[.int .i64 x1, .int .i64 x2]] w fun e w' => ∃ v', e = .returned v' ∧ w'.ownsRow base 39 2 v' (jr L (x1, x2)).length (ivCells (jr L (x1, x2))) ∧ w.grownBy w' v.ownBlock := by
  obtain ⟨i0, hi0, hz0, hz1, hz2⟩ := info_parts info_iv
  have Hi0 := Lib.hid hi0
  have Hz0 := Lib.hid hz0
  have Hz1 := Lib.hid hz1
  have Hz2 := Lib.hid hz2
  have HA : Hid (Below w.heap.size w (w.alloc (.cells #[.int .i64 x1, .int .i64 x2] 39))) := Lib.hid ((Below.refl _ _).alloc (Nat.le_refl _) _)
  clear hi0 hz0 hz1 hz2
  rcases List.eq_nil_or_concat L with rfl | ⟨K, ⟨y1, y2⟩, rfl⟩
  · have hO0 := hown
    change w.ownsRow base _ 2 _ 0 [] at hO0
    clear hown
    obtain ⟨A2, c2, rfl, _, _, _⟩ := rs_own hO0
    have HO0 := Lib.hid hO0
    clear hO0
    go_enter Try.func54, Try.ntmps54
    go_wp2_with fail
    go_region
    go_wp2_with (at_builtin; refine wpList_append_agg rfl (.tmp 22) (.tmp 24) 24 rfl base 39 i0 _ 2 16 Try.underlying24 Hi0.out Hz0.out Hz1.out Hz2.out rfl (by decide) _ 0 _ rfl (World.ownsRow.alloc (World.ownsRow.drew (World.ownsRow.alloc HO0.out _)) _) (w.heap.size + 1) 1 [.int .i64 x1, .int .i64 x2] 39 rfl (by simp [go_sem]) (blk_over w _ _) (by simp [Value.oneCell']) (by omega) (by omega) (by simp; omega) ?_; intro v4 w4 hown4 hg4; have HO4 := Lib.hid hown4; have HG4 := Lib.hid (gr_below (Below.alloc (Below.drew HA.out) (by simp) _) hg4); clear hown4 hg4)
    go_ret
    exact ⟨_, rfl, HO4.out, HG4.out⟩
  · rw [List.concat_eq_append] at hown hl ⊢
    have hlK : (K ++ [(y1, y2)]).length = K.length + 1 := by simp
    have hO0 := hown
    rw [hlK] at hO0 hl
    obtain ⟨A2, c2, e, hnc2, hRs2, hA2⟩ := rs_own hO0
    subst e
    obtain ⟨g, off2, rfl, hg, d0, d1⟩ := iv_at hRs2 K.length (by omega)
    obtain ⟨rfl, g0⟩ : off2 = 0 ∧ base ≤ g := by
      rcases hA2 with ⟨h, _⟩ | ⟨g', h, h1, h2⟩
      · cases h
      · cases h; exact ⟨rfl, h1⟩
    have e2 : (K ++ [(y1, y2)])[K.length]'(by omega) = (y1, y2) := by simp
    rw [e2] at d0 d1
    have hfr := hO0.frozenAt (K.length * 2 + 1)
    have HO0 := Lib.hid hO0
    clear hO0 hown hRs2 hA2 hlK e2
    dsimp only at d0 d1
    rw [Nat.zero_add] at d0 d1
    have hkl : (K.length : Int) < (K.length : Int) + 1 := by omega
    have hk0 : (0 : Int) ≤ (K.length : Int) := by omega
    have hw1 : IntKind.i64.wrap ((K.length : Int) + 1 - 1) = (K.length : Int) := by simp only [IntKind.wrap_i64]; omega
    have hy2 := hB (y1, y2) (by simp)
    dsimp only at hy2
    have hw2 : IntKind.i64.wrap (y2 + 1) = y2 + 1 := by simp only [IntKind.wrap_i64]; omega
    clear hy2 hB
    by_cases hfar : y2 + 1 < x1
    · have HJ := Lib.hid (jr_far K (y1, y2) (x1, x2) hfar)
      go_enter Try.func54, Try.ntmps54
      go_wp2_with fail
      go_region
      go_wp2_with (at_builtin; refine wpList_append_agg rfl (.tmp 22) (.tmp 24) 24 rfl base 39 i0 _ 2 16 Try.underlying24 Hi0.out Hz0.out Hz1.out Hz2.out rfl (by decide) _ (K.length + 1) _ rfl (World.ownsRow.alloc (World.ownsRow.drew (World.ownsRow.alloc HO0.out _)) _) (w.heap.size + 1) 1 [.int .i64 x1, .int .i64 x2] 39 rfl (by simp [go_sem]) (blk_over w _ _) (by simp [Value.oneCell']) (by omega) (by omega) (by simp; omega) ?_; intro v4 w4 hown4 hg4; have HO4 := Lib.hid hown4; have HG4 := Lib.hid (gr_below (Below.alloc (Below.drew HA.out) (by simp) _) hg4); clear hown4 hg4)
      go_ret
      refine ⟨_, rfl, ?_, HG4.out⟩
      rw [HJ.out, iv_snoc (K ++ [(y1, y2)]), List.length_append, List.length_append]; exact HO4.out
    · have HJ := Lib.hid (jr_near K (y1, y2) (x1, x2) hfar)
      have hle : x1 ≤ y2 + 1 := by omega
      by_cases hmx : y2 < x2
      · have emax : max y2 x2 = x2 := by omega
        go_enter Try.func54, Try.ntmps54
        go_wp2_with fail
        go_region
        go_wp2_with fail
        go_region
        go_wp2_with fail
        go_ret
        have h := World.ownsRow.stored HO0.out (K.length * 2 + 1) (.int .i64 x2)
        refine ⟨_, rfl, ?_, gr_drew (gr_drew (gr_alloc h.2 _))⟩
        have h1 := World.ownsRow.alloc h.1 (.cells #[.int .i64 x1, .int .i64 x2] 39)
        rw [iv_set] at h1
        rw [HJ.out, List.length_append, emax]
        exact h1
      · have emax : max y2 x2 = y2 := by omega
        have hmx' : x2 ≤ y2 := by omega
        go_enter Try.func54, Try.ntmps54
        go_wp2_with fail
        go_region
        go_wp2_with fail
        go_region
        go_wp2_with fail
        go_ret
        have h := World.ownsRow.stored HO0.out (K.length * 2 + 1) (.int .i64 y2)
        refine ⟨_, rfl, ?_, gr_drew (gr_drew (gr_alloc h.2 _))⟩
        have h1 := World.ownsRow.alloc h.1 (.cells #[.int .i64 x1, .int .i64 x2] 39)
        rw [iv_set] at h1
        rw [HJ.out, List.length_append, emax]
        exact h1
end Go.Proofs.Ytacgomhegjilgaa
