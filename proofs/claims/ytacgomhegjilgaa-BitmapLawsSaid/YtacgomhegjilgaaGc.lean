/- The reference's Runs (written by wip/bin/gen_gc.py). -/
import Derived.Test.YtacgomhegjilgaaGb
namespace Go.Proofs.Ytacgomhegjilgaa
open Go.ChangeShapes Go.WideShapes Go.ChangeAt Go.RowKit Ts

attribute [local go_sem] cast_not_neg
theorem info_two : (Try.prog.info? 40).map (fun i => (i.zero, i.size, i.bytes)) = some (some (.agg #[.int .i64 0, .int .i64 0]), 2, 16) := by kernel_rfl
set_option maxRecDepth 100000 in
set_option maxHeartbeats 4000000 in
theorem ref_runs (A : Option Addr) (c : Nat) (L : List Int) (hl : L.length ≤ 90000) (hB : ∀ x ∈ L, -2000000 ≤ x ∧ x ≤ 2000000) (w : World) (hR : Rs w w.heap.size A (nC L)) :
    Calls Try.prog 47 #[.slice A L.length c] w fun e w' => (∃ v, e = .returned v ∧ w'.ownsRow w.heap.size 40 2 v (rsL L L.length).length (ivCells (rsL L L.length))) ∧ Below w.heap.size w w' := by
  have HR := Lib.hid hR
  have HBd := Lib.hid (rsL_bd L 2000000 hB)
  have HS := Lib.hid (rsL_step L)
  have HL := Lib.hid (rsL_len L)
  obtain ⟨i0, hi0, hz0, hz1, hz2⟩ := info_parts info_two
  have Hi0 := Lib.hid hi0
  have Hz0 := Lib.hid hz0
  have Hz1 := Lib.hid hz1
  have Hz2 := Lib.hid hz2
  clear hR hi0 hz0 hz1 hz2 hB
  go_enter Try.func47, Try.ntmps47
  go_wp2_with fail
  go_loopw [3, 4] (fun u iv wr => ∃ j : Nat, j ≤ L.length ∧ iv = .int .i64 (j : Int) ∧ Hid (wr.ownsRow w.heap.size 40 2 u (rsL L j).length (ivCells (rsL L j))) ∧ Hid (Below w.heap.size w wr)) (fun _ iv _ => L.length - (intOf iv).toNat)
  case atStart => exact ⟨0, Nat.zero_le _, rfl, Lib.hid ⟨rfl, Or.inl ⟨rfl, rfl⟩⟩, Lib.hid (Below.refl _ _)⟩
  case round =>
    obtain ⟨j, hj, rfl, HO, HB⟩ := hrel
    have hle := HL.out j
    by_cases hlt : j < L.length
    · obtain ⟨g, off, rfl, hg, d0⟩ := num_at (HR.out.below HB.out) j hlt
      have HS1 := Lib.hid (HS.out j hlt)
      have hbd := HBd.out j
      obtain ⟨x, hx⟩ : ∃ x, x = L[j] := ⟨_, rfl⟩
      rw [← hx] at d0 HS1
      clear hx
      have hjl : (j : Int) < (L.length : Int) := by omega
      have hj0 : (0 : Int) ≤ (j : Int) := by omega
      have hw1 : IntKind.i64.wrap ((j : Int) + 1) = (j : Int) + 1 := by simp only [IntKind.wrap_i64]; omega
      have hgr : g < wr.heap.size := by have := HB.out.size; omega
      obtain ⟨J, hJ⟩ : ∃ J, J = rsL L j := ⟨_, rfl⟩
      rw [← hJ] at HO HS1 hle hbd
      clear hJ
      rcases List.eq_nil_or_concat J with hE | ⟨K, ⟨y1, y2⟩, hE⟩
      · subst hE
        have HS2 : Hid (rsL L (j + 1) = [(x, x)]) := Lib.hid (by rw [HS1.out, rs1_nil])
        have hO0 := HO.out
        change wr.ownsRow _ _ 2 _ 0 [] at hO0
        obtain ⟨A2, c2, rfl, _, _, _⟩ := rs_own hO0
        have HO0 := Lib.hid hO0
        clear HO hO0 hbd
        go_wp2_with fail
        go_quiet (fail)
        (refine (by assumption : ∀ _ _, _ → _) _ _ ?_)
        go_wp2_with fail
        go_region_law (refine step_append_sized rfl (.tmp 39) (.tmp 49) 37 rfl w.heap.size 40 i0 _ 2 16 Try.underlying37 Hi0.out Hz0.out Hz1.out Hz2.out rfl (by decide) (.slice A2 0 c2) 0 (ivCells []) (by simp [Act.eval]) (World.ownsRow.alloc HO0.out _) (some ⟨wr.heap.size, 0, none⟩) 1 1 (by simp [Act.eval]) [.int .i64 x, .int .i64 x] rfl (fun h => by cases h) (cells_two (Deep.blk_alloc_new wr _)) (by simp [Value.oneCell']) (by omega) (by omega) (by have := HB.out.size; simp; omega) ?_; intro v3 w4 hown3 hg3; have HB3 := Lib.hid (below_grownk (B := w.heap.size) (a := w) (Below.alloc (below_drewN HB.out _) (by have := HB.out.size; exact this) _) (World.ownsRow.alloc HO0.out _) hg3 (Nat.le_refl _) (Nat.le_refl _)); have HO3 := Lib.hid hown3; clear hown3 hg3)
        all_goals
          go_wp2_with fail
          go_roundw
          case rel => exact ⟨j + 1, by omega, by go_num, by rw [HS2.out]; exact Lib.hid (by first | exact HO3.out | (rw [iv_snoc, List.length_append, List.length_append]; exact HO3.out)), HB3⟩
          case measure => simp [intOf] <;> omega
      · rw [List.concat_eq_append] at hE
        subst hE
        have hlK : (K ++ [(y1, y2)]).length = K.length + 1 := by simp
        have hO0 := HO.out
        rw [hlK] at hO0 hle
        obtain ⟨A2, c2, rfl, hnc2, hRs2, hA2⟩ := rs_own hO0
        obtain ⟨g2, off2, rfl, hg2, e0, e1⟩ := iv_at hRs2 K.length (by omega)
        obtain ⟨rfl, g0⟩ : off2 = 0 ∧ w.heap.size ≤ g2 := by
          rcases hA2 with ⟨h, _⟩ | ⟨g', h, h1, h2⟩
          · cases h
          · cases h; exact ⟨rfl, h1⟩
        have e2 : (K ++ [(y1, y2)])[K.length]'(by omega) = (y1, y2) := by simp
        rw [e2] at e0 e1
        have hfr := hO0.frozenAt (K.length * 2 + 1)
        have HO0 := Lib.hid hO0
        have hyb := hbd (y1, y2) (by simp)
        clear hO0 hRs2 hA2 hlK e2 HO hbd
        dsimp only at e0 e1 hyb
        rw [Nat.zero_add] at e0 e1
        have hkl : (K.length : Int) < (K.length : Int) + 1 := by omega
        have hk0 : (0 : Int) ≤ (K.length : Int) := by omega
        have hkp : (0 : Int) < (K.length : Int) + 1 := by omega
        have hkd : decide ((0 : Int) < (K.length : Int) + 1) = true := decide_eq_true hkp
        have hw3 : IntKind.i64.wrap ((K.length : Int) + 1 - 1) = (K.length : Int) := by simp only [IntKind.wrap_i64]; omega
        have hw2 : IntKind.i64.wrap (y2 + 1) = y2 + 1 := by simp only [IntKind.wrap_i64]; omega
        have hw4 : wrap64 (y2 + 1) = y2 + 1 := by unfold wrap64; omega
        clear hyb
        by_cases hn : y2 + 1 = x
        · have HS2 : Hid (rsL L (j + 1) = K ++ [(y1, x)]) := Lib.hid (by rw [HS1.out, rs1_near _ _ _ hn])
          subst hn
          go_wp2_with fail
          go_quiet (fail)
          (refine (by assumption : ∀ _ _, _ → _) _ _ ?_)
          go_wp2_with fail
          go_region
          all_goals
            go_wp2_with fail
            go_roundw
            case rel =>
              have h := World.ownsRow.stored HO0.out (K.length * 2 + 1) (.int .i64 (y2 + 1))
              have h1 := h.1
              rw [iv_set] at h1
              have h2 : Below w.heap.size w (wr.setCell ⟨g2, K.length * 2 + 1, none⟩ (.int .i64 (y2 + 1))) := HB.out.setCell (p := ⟨g2, K.length * 2 + 1, none⟩) g0 _
              have h3 : (K ++ [(y1, y2 + 1)]).length = K.length + 1 := by simp
              refine ⟨j + 1, by omega, by go_num, ?_, Lib.hid ⟨h2.os, h2.tape, h2.output, h2.size, h2.block⟩⟩
              rw [HS2.out, h3]
              exact Lib.hid h1
            case measure => simp [intOf] <;> omega
        · have HS2 : Hid (rsL L (j + 1) = K ++ [(y1, y2)] ++ [(x, x)]) := Lib.hid (by rw [HS1.out, rs1_far _ _ _ hn])
          go_wp2_with fail
          go_quiet (fail)
          (refine (by assumption : ∀ _ _, _ → _) _ _ ?_)
          go_wp2_with fail
          go_region_law (refine step_append_sized rfl (.tmp 39) (.tmp 49) 37 rfl w.heap.size 40 i0 _ 2 16 Try.underlying37 Hi0.out Hz0.out Hz1.out Hz2.out rfl (by decide) (.slice (some ⟨g2, 0, none⟩) (K.length + 1) c2) (K.length + 1) (ivCells (K ++ [(y1, y2)])) (by simp [Act.eval]) (World.ownsRow.alloc HO0.out _) (some ⟨wr.heap.size, 0, none⟩) 1 1 (by simp [Act.eval]) [.int .i64 x, .int .i64 x] rfl (fun h => by cases h) (cells_two (Deep.blk_alloc_new wr _)) (by simp [Value.oneCell']) (by omega) (by omega) (by have := HB.out.size; simp; omega) ?_; intro v3 w4 hown3 hg3; have HB3 := Lib.hid (below_grownk (B := w.heap.size) (a := w) (Below.alloc (below_drewN HB.out _) (by have := HB.out.size; exact this) _) (World.ownsRow.alloc HO0.out _) hg3 (Nat.le_refl _) (Nat.le_refl _)); have HO3 := Lib.hid hown3; clear hown3 hg3)
          all_goals
            go_wp2_with fail
            go_roundw
            case rel => exact ⟨j + 1, by omega, by go_num, by rw [HS2.out]; exact Lib.hid (by first | exact HO3.out | (rw [iv_snoc, List.length_append, List.length_append]; exact HO3.out)), HB3⟩
            case measure => simp [intOf] <;> omega
    · obtain rfl : j = L.length := by omega
      go_wp2_with fail
      go_ret
      exact ⟨⟨_, rfl, HO.out⟩, HB.out⟩
end Go.Proofs.Ytacgomhegjilgaa
