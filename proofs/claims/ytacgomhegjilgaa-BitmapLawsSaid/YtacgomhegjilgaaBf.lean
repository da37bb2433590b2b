/- The program's Of at rows in range. -/
import Derived.Test.YtacgomhegjilgaaBs
import Derived.RangeFuncBox
namespace Go.Proofs.Ytacgomhegjilgaa
open Go.ChangeShapes Go.WideShapes Go.ChangeAt Go.RowKit Ts

theorem results_cell_tmp1 {fn : Func} {p u : Tmp} {ty : TypeId} (h : fn.results = #[.cell p ty, .tmp u]) (tmps : Array Value) (P : Program) (w : World) :
    (results fn tmps).run P w =
      ((asAddr (tmps.getD p undef)).run P w).andThen fun a w₁ => ((loadVar ty a).run P w₁).andThen fun v w₂ => .ok (.tuple #[v, tmps.getD u undef]) w₂ := by
  simp only [results, h]
  simp [Sem.run_bind, Result.andThen]
set_option maxRecDepth 100000 in
set_option maxHeartbeats 4000000 in
theorem of_any (A : Option Addr) (c : Nat) (L : List Int) (hl : L.length ≤ 80000) (hin : L.any (fun x => !isR x) = false) (w : World) (hR : Rs w w.heap.size A (nC L)) :
    Calls Try.prog 14 #[.slice A L.length c] w fun e w' => (∃ r, e = .returned (.tuple #[.agg #[r], .int .i64 0]) ∧ Sl w' r (rn (setL L))) ∧ Below w.heap.size w w' := by
  have hrow : ∀ n ∈ srI L, isR n = true := fun n hn => by
    have h := List.any_eq_false.1 hin n ((srI_mem L n).1 hn)
    simpa using h
  have HRow := Lib.hid hrow
  have HR := Lib.hid hR
  have hA0 : Below w.heap.size w (w.alloc (.cells #[.slice none 0 0] 26)) := (Below.refl _ _).alloc (Nat.le_refl _) _
  have H1 := Lib.hid (contains_any A c L (by omega) _ ((hR.below hA0).more hA0.size))
  rw [hin] at H1
  have HB0 := Lib.hid hA0
  have H2 := Lib.hid (clone_rows A c L (by omega) _ ((hR.below hA0).more hA0.size))
  have HAll := Lib.hid (jf_all L)
  clear hR hin hrow hA0
  go_enter Try.func14, Try.ntmps14
  go_wp2_with fail
  refine H1.out.mono ?_
  rintro e w1 ⟨rfl, hw⟩
  subst hw
  go_wp2_with fail
  refine H2.out.mono ?_
  rintro e w2 ⟨⟨v, rfl, hown⟩, hb⟩
  have HB2 := Lib.hid hb
  obtain ⟨Z, hZ⟩ : ∃ Z, Z = (w.alloc (.cells #[.slice none 0 0] 26)).heap.size := ⟨_, rfl⟩
  have hzz : Z = w.heap.size + 1 := by rw [hZ]; simp
  have hblk : (w.alloc (.cells #[.slice none 0 0] 26)).heap[w.heap.size]? = some (.cells #[.slice none 0 0] 26 (0, 0)) := Deep.blk_alloc_new w _
  have H3 := Lib.hid (sort_rows _ v L (by omega) w2 hown)
  have HO := Lib.hid hown
  clear hb hown
  go_wp2_with fail
  refine H3.out.mono ?_
  rintro e w3 ⟨rfl, hown3, hg3⟩
  have HB3 := Lib.hid (below_grownk (B := (w.alloc (.cells #[.slice none 0 0] 26)).heap.size) (a := w.alloc (.cells #[.slice none 0 0] 26)) HB2.out HO.out hg3 (Nat.le_refl _) (Nat.le_refl _))
  obtain ⟨D, hD⟩ : ∃ D, D = srI L := ⟨_, rfl⟩
  have hlen : D.length = L.length := by rw [hD]; exact srI_len L
  have hso : D.Pairwise (fun x y => x ≤ y) := by rw [hD]; exact srI_srt L
  rw [← hD] at hown3 HRow HAll
  rw [← hlen] at hown3
  obtain ⟨A3, c3, rfl, _, hR3, _⟩ := rs_ownn hown3
  have HR3 := Lib.hid hR3
  have HSo := Lib.hid hso
  have hl4 : D.length ≤ 80000 := by omega
  have HBlk := Lib.hid ((HB3.out.block w.heap.size (by rw [← hZ]; omega)).trans hblk)
  clear hown3 hg3 hD hso hR3 hblk
  go_wp2_with fail
  go_loopw [5, 17] (fun u iv wr => ∃ j : Nat, j ≤ D.length ∧ iv = .int .i64 (j : Int) ∧ Hid (wr.ownsRow w3.heap.size 39 2 u (rn (jf D j)).length (ivCells (rn (jf D j)))) ∧ Hid (Below w3.heap.size w3 wr)) (fun _ iv _ => D.length - (intOf iv).toNat)
  case atStart => exact ⟨0, Nat.zero_le _, rfl, Lib.hid ⟨rfl, Or.inl ⟨rfl, rfl⟩⟩, Lib.hid (Below.refl _ _)⟩
  case round =>
    obtain ⟨j, hj, rfl, HOj, HB⟩ := hrel
    by_cases hlt : j < D.length
    · obtain ⟨b, off, rfl, hb, d0⟩ := num_at (HR3.out.below HB.out) j hlt
      have E := Lib.hid (jf_step D j hlt)
      have hjl := jf_len D j
      have hJb := nrm_rn (jf_fold D HSo.out j).1 (fun n hn => HRow.out n (List.mem_of_mem_take (((jf_fold D HSo.out j).2 n).1 hn)))
      rw [← rn_len] at hjl
      obtain ⟨x, hx⟩ : ∃ x, x = D[j] := ⟨_, rfl⟩
      rw [← hx] at d0 E
      clear hx
      have hjI : (j : Int) < (D.length : Int) := by omega
      have hj0 : (0 : Int) ≤ (j : Int) := by omega
      have hw1 : IntKind.i64.wrap ((j : Int) + 1) = (j : Int) + 1 := by simp only [IntKind.wrap_i64]; omega
      have hgr : b < wr.heap.size := by have := HB.out.size; omega
      obtain ⟨J, hJ⟩ : ∃ J, J = rn (jf D j) := ⟨_, rfl⟩
      rw [← hJ] at HOj E hjl hJb
      have Hjn := Lib.hid (fun W o => join_any w3.heap.size u5 J (by omega) (fun y hy => by have := hJb y hy; omega) x x W o)
      clear hJ hJb
      go_wp2_with fail
      refine (Hjn.out _ HOj.out HB.out.size).mono ?_
      rintro e w4 ⟨v4, rfl, hown4, hg4⟩
      have HO4 := Lib.hid hown4
      have HB4 := Lib.hid (below_grownk (B := w3.heap.size) (a := w3) HB.out HOj.out hg4 (Nat.le_refl _) (Nat.le_refl _))
      clear hown4 hg4
      go_wp2_with fail
      go_roundw
      case rel => exact ⟨j + 1, by omega, by go_num, by rw [E.out]; exact HO4, HB4⟩
      case measure => simp [intOf] <;> omega
    · obtain rfl : j = D.length := by omega
      rw [HAll.out] at HOj
      obtain ⟨A5, c5, rfl, _, _, _⟩ := rs_own HOj.out
      have HBk2 := Lib.hid ((HB.out.block w.heap.size (by have := HB3.out.size; rw [← hZ] at this; omega)).trans HBlk.out)
      have hzw : w.heap.size < w3.heap.size := by have := HB3.out.size; rw [← hZ] at this; omega
      have hfr : wr.frozen? ⟨w.heap.size, 0, none⟩ = false := by simp [World.frozen?, HBk2.out]
      have hcl : wr.cell? ⟨w.heap.size, 0, none⟩ = some (.slice none 0 0) := by simp [World.cell?, HBk2.out]
      go_wp2_with fail
      (try simp only [Exit.inBlock, Exit.then])
      have hcl2 : (wr.setCell ⟨w.heap.size, 0, none⟩ (.slice A5 (rn (setL L)).length c5)).cell? ⟨w.heap.size, 0, none⟩ = some (.slice A5 (rn (setL L)).length c5) := by
        have hb2 := blk_set (off := 0) (.slice A5 (rn (setL L)).length c5) HBk2.out
        simp [World.cell?, hb2]
      refine bodyPost_ret (v := .tuple #[.agg #[.slice A5 (rn (setL L)).length c5], .int .i64 0]) ?_ rfl ⟨⟨_, rfl, ?_⟩, ?_⟩
      · rw [results_cell_tmp1 rfl]; go_simp <;> rfl
      · exact sl_own (HOj.out.kept (grownBy_setCell' wr w.heap.size _) (.inr (row_ne_low HOj.out hzw).symm))
      · exact (HB0.out.trans ((HB3.out.trans (HB.out.mono HB3.out.size)).mono HB0.out.size)).setCell (Nat.le_refl _) _
end Go.Proofs.Ytacgomhegjilgaa
