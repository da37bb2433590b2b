/- Coarsen, the reference's Coarsen. -/
import Derived.Test.YtkjpficpkpfkdaaRn
import Derived.Test.YtkjpficpkpfkdaaCl
namespace Go.Proofs.Ytkjpficpkpfkdaa
open Go.ChangeShapes Go.WideShapes Go.ChangeAt Go.RowKit Ts

def cnk (s : Int) (L : List Iv) (j : Nat) : List Iv := (cells s (L.take j)).foldl jn []
theorem cnk_succ (s : Int) (L : List Iv) (j : Nat) (h : j < L.length) : cnk s L (j + 1) = jn (cnk s L j) (L[j].1 / s, (L[j].2 - 1) / s + 1) := by
  unfold cnk cells
  rw [take_snoc L j h, List.map_append, List.foldl_append]; rfl
theorem cnk_all (s : Int) (L : List Iv) : cnk s L L.length = coarse s L := by unfold cnk coarse; rw [List.take_length]
theorem cnk_len (s : Int) (L : List Iv) (j : Nat) : (cnk s L j).length ≤ j := by
  have h := foldl_jn_len (cells s (L.take j)) []
  have h2 : (cells s (L.take j)).length ≤ j := by unfold cells; rw [List.length_map, List.length_take]; omega
  unfold cnk
  simp only [List.length_nil] at h
  omega
theorem coarse_len (s : Int) (L : List Iv) : (coarse s L).length ≤ L.length := by rw [← cnk_all]; exact cnk_len s L _
theorem ediv_bd {s : Int} (hs : 0 < s) (n b : Int) (h1 : -b ≤ n) (h2 : n ≤ b) (hb : 0 ≤ b) : -b ≤ n / s ∧ n / s ≤ b := by
  constructor
  · refine (Int.le_ediv_iff_mul_le hs).2 ?_
    have h3 : b * 1 ≤ b * s := Int.mul_le_mul_of_nonneg_left (by omega) hb
    rw [Int.neg_mul]; omega
  · by_cases h : 0 ≤ n
    · have := Int.ediv_le_self s h; omega
    · have := Int.ediv_neg_of_neg_of_pos (show n < 0 by omega) hs; omega
def Sm (L : List Iv) : Prop := ∀ x ∈ L, (-1500000000000000 ≤ x.1 ∧ x.1 ≤ 1500000000000000) ∧ (-1500000000000000 ≤ x.2 ∧ x.2 ≤ 1500000000000000)
theorem sm_ok {n : Nat} {L : List Iv} (h : Ok n L) : Sm L := fun x hx => by have := h.bd x hx; omega
theorem coarse_ok {n : Nat} {L : List Iv} (h : Ok n L) {s : Int} (hs : 0 < s) : Ok n (coarse s L) := by
  obtain ⟨a, b, _⟩ := coarse_spec hs h.nrm
  refine ⟨a, Nat.le_trans (coarse_len s L) h.len, fun x hx => ?_⟩
  have hb := nrm_bd (lo := -1000000000000) (hi := 1000000000000) a (fun k hk => by
    obtain ⟨m, ⟨y, hy, h1, h2⟩, rfl⟩ := (b k).1 hk
    have h3 := h.bd y hy
    have h4 := ediv_bd hs m 1000000000000 (by omega) (by omega) (by omega)
    refine ⟨h4.1, ?_⟩
    by_cases h5 : 0 ≤ m
    · have := Int.ediv_le_self s h5; omega
    · have := Int.ediv_neg_of_neg_of_pos (show m < 0 by omega) hs; omega) x hx
  have hl := a.1 x hx
  omega
set_option maxRecDepth 100000 in
set_option maxHeartbeats 2000000 in
theorem coarsen_in {v : Value} {L : List Iv} (s : Int) (hs : 0 < s) (hs2 : s ≤ 1125899906842624) (hbd : Sm L) (hl : L.length ≤ 1000) (w : World) (hv : Sl w v L) :
    Calls Try.prog 45 #[v, .int .i64 s] w fun e w' => (∃ r, e = .returned (.tuple #[r, .int .i64 0]) ∧ Sl w' r (coarse s L)) ∧ Below w.heap.size w w' := by
  obtain ⟨A, c, rfl, _, _, _, hR⟩ := hv
  have HR := Lib.hid hR
  have HBd := Lib.hid hbd
  have HAll := Lib.hid (cnk_all s L)
  have hn1 : ¬ s < 1 := by omega
  have hn2 : ¬ 1125899906842624 < s := by omega
  clear hR hbd
  go_enter Try.func45, Try.ntmps45
  go_wp2_with fail
  go_loopw [6, 17] (fun u iv wr => ∃ j : Nat, j ≤ L.length ∧ iv = .int .i64 (j : Int) ∧ Hid (wr.ownsRow w.heap.size 25 2 u (cnk s L j).length (ivCells (cnk s L j))) ∧ Hid (Below w.heap.size w wr)) (fun _ iv _ => L.length - (intOf iv).toNat)
  case atStart => exact ⟨0, Nat.zero_le _, rfl, Lib.hid ⟨rfl, Or.inl ⟨rfl, rfl⟩⟩, Lib.hid (Below.refl _ _)⟩
  case round =>
    obtain ⟨j, hj, rfl, HOj, HB⟩ := hrel
    by_cases hlt : j < L.length
    · obtain ⟨b, off, rfl, hb, h0, h1⟩ := iv_at (HR.out.below HB.out) j hlt
      have hs1 := cnk_succ s L j hlt
      have hjl := cnk_len s L j
      have hbx := HBd.out _ (List.getElem_mem hlt)
      obtain ⟨x, hx⟩ : ∃ x, x = L[j] := ⟨_, rfl⟩
      rw [← hx] at h0 h1 hs1 hbx
      clear hx
      obtain ⟨x1, x2⟩ := x
      dsimp only at h0 h1 hs1 hbx
      have d1 := ediv_bd hs x1 1600000000000000 (by omega) (by omega) (by omega)
      have d2 := ediv_bd hs (x2 - 1) 1600000000000000 (by omega) (by omega) (by omega)
      have C1 : Hid (∀ W, Calls Try.prog 67 #[.int .i64 x1, .int .i64 s] W fun e w' => e = .returned (.int .i64 (x1 / s)) ∧ w' = W) := Lib.hid (fun W => cell_any x1 s hs (by omega) (by omega) (by omega) W)
      have C2 : Hid (∀ W, Calls Try.prog 67 #[.int .i64 (x2 - 1), .int .i64 s] W fun e w' => e = .returned (.int .i64 ((x2 - 1) / s)) ∧ w' = W) := Lib.hid (fun W => cell_any (x2 - 1) s hs (by omega) (by omega) (by omega) W)
      obtain ⟨y1, hy1⟩ : ∃ y, x1 / s = y := ⟨_, rfl⟩
      obtain ⟨y2, hy2⟩ : ∃ y, (x2 - 1) / s = y := ⟨_, rfl⟩
      rw [hy1] at C1 d1 hs1
      rw [hy2] at C2 d2 hs1
      have E := Lib.hid hs1
      obtain ⟨J, hJ⟩ : ∃ J, J = cnk s L j := ⟨_, rfl⟩
      rw [← hJ] at HOj E hjl
      have hjI : (j : Int) < (L.length : Int) := by omega
      have hj0 : (0 : Int) ≤ (j : Int) := by omega
      have hw1 : IntKind.i64.wrap ((j : Int) + 1) = (j : Int) + 1 := by simp only [IntKind.wrap_i64]; omega
      have hw2 : IntKind.i64.wrap (x2 - 1) = x2 - 1 := by simp only [IntKind.wrap_i64]; omega
      have hw3 : IntKind.i64.wrap (y2 + 1) = y2 + 1 := by simp only [IntKind.wrap_i64]; omega
      have hbr : b < wr.heap.size := by have := HB.out.size; omega
      clear hJ hs1 hbx hy1 hy2
      go_wp2_with fail
      go_region_with (first
        | (go_at_call 67; with_reducible refine (C1.out _).mono ?_; rintro e w' ⟨rfl, hw⟩; have hw2 := hw.symm; subst hw2; clear hw)
        | (go_at_call 67; with_reducible refine (C2.out _).mono ?_; rintro e w' ⟨rfl, hw⟩; have hw2 := hw.symm; subst hw2; clear hw)
        | (go_at_call 54; refine (join_any w.heap.size u6 J (by omega) y1 (y2 + 1) _ (World.ownsRow.drew (HOj.out.alloc _)) (by have := HB.out.size; simp; omega)).mono ?_; rintro e w4 ⟨v4, rfl, hown4, hg4⟩; have HO4 := Lib.hid hown4; have HB4 := Lib.hid (below_grownk (B := w.heap.size) (a := w) (Below.drew (HB.out.alloc HB.out.size _)) (World.ownsRow.drew (HOj.out.alloc _)) hg4 (Nat.le_refl _) (Nat.le_refl _)); clear hown4 hg4))
      all_goals
        go_wp2_with fail
        go_roundw
        case rel => exact ⟨j + 1, by omega, by go_num, by rw [E.out]; exact HO4, HB4⟩
        case measure => simp [intOf] <;> omega
    · obtain rfl : j = L.length := by omega
      rw [HAll.out] at HOj
      go_wp2_with fail
      go_ret2
      exact ⟨⟨_, rfl, sl_own HOj.out⟩, HB.out⟩
set_option maxRecDepth 100000 in
theorem coarsen_out {v : Value} {L : List Iv} (s : Int) (hs : s < 1 ∨ 1125899906842624 < s) (w : World) (hv : Sl w v L) :
    Calls Try.prog 45 #[v, .int .i64 s] w fun e w' => e = .returned (.tuple #[.slice none 0 0, .int .i64 2]) ∧ w' = w := by
  obtain ⟨A, c, rfl, _, _, _, hR⟩ := hv
  clear hR
  by_cases h1 : s < 1
  · clear hs
    go_enter Try.func45, Try.ntmps45
    go_wp2_with fail
    go_ret2
    exact ⟨rfl, rfl⟩
  · have h2 : 1125899906842624 < s := by omega
    have h1' : (s < 1) = False := eq_false h1
    have h1'' : 1 ≤ s := by omega
    clear hs
    go_enter Try.func45, Try.ntmps45
    go_wp2_with fail
    go_ret2
    exact ⟨rfl, rfl⟩
section
variable {P : Program}
/-- A call that returns a value and changes nothing, as a step of a region that draws. -/
theorem step_call {ops : Array Oper} {o : Oper} {a : Act} {w : World} {K : Act → World → Prop} {Q : Exit → Act → World → Prop} {E : Prop} (hg : o.guard = none) (f : Nat) (xs : Array Operand) (ts : Array TypeId)
    (hop : o.op = .call { callee := .value (.func f), args := xs, argTypes := ts }) (eg : ∀ args w, (callFunc f args).run P w = .ok (.enter f args) w)
    (args : Array Value) (hxs : xs.map a.eval = args) (v : Value) (h : Calls P f args w fun e w' => e = .returned v ∧ w' = w) (hK : K (a.put o.dst v) w) :
    if Region.wanted o (yielded ops a.tmps) = true then Oper.wp P o a w K Q else E := by
  have hw : Region.wanted o (yielded ops a.tmps) = true := by simp [Region.wanted, hg]
  rw [if_pos hw]
  have hrun : (execOp a.eval o).run P w = .ok (.enter f args) w := by
    subst hxs
    simp [execOp, hop, resolve, invoke, eg, go_sem]
  unfold Oper.wp
  rw [hrun, Oper.upon_enter]
  exact h.mono (by rintro e w' ⟨rfl, rfl⟩; exact hK)
end
def ck (s : Int) (L : List Iv) (j : Nat) : List Iv := cells s (L.take j)
theorem ck_succ (s : Int) (L : List Iv) (j : Nat) (h : j < L.length) : ck s L (j + 1) = ck s L j ++ [(L[j].1 / s, (L[j].2 - 1) / s + 1)] := by
  unfold ck cells
  rw [take_snoc L j h, List.map_append]; rfl
theorem ck_all (s : Int) (L : List Iv) : ck s L L.length = cells s L := by unfold ck; rw [List.take_length]
theorem ck_len (s : Int) (L : List Iv) (j : Nat) (h : j ≤ L.length) : (ck s L j).length = j := by
  unfold ck cells; rw [List.length_map, List.length_take]; omega
set_option maxRecDepth 100000 in
set_option maxHeartbeats 4000000 in
theorem ref_coarsen {v : Value} {L : List Iv} (s : Int) (hs : 0 < s) (hs2 : s ≤ 1125899906842624) (hbd : Sm L) (hl : L.length ≤ 1000) (w : World) (hv : Sl w v L) :
    Calls Try.prog 46 #[v, .int .i64 s] w fun e w' => (∃ r, e = .returned r ∧ Sl w' r (ofL (cells s L))) ∧ Below w.heap.size w w' := by
  obtain ⟨i0, hi0, hz0, hz1, hz2⟩ := info_parts info_iv
  have Hi0 := Lib.hid hi0
  have Hz0 := Lib.hid hz0
  have Hz1 := Lib.hid hz1
  have Hz2 := Lib.hid hz2
  obtain ⟨A, c, rfl, _, _, _, hR⟩ := hv
  have HR := Lib.hid hR
  have HBd := Lib.hid hbd
  have HAll := Lib.hid (ck_all s L)
  clear hR hbd hi0 hz0 hz1 hz2
  go_enter Try.func46, Try.ntmps46
  go_wp2_with fail
  have EF := Lib.hid (enters_of Try.func68 (by kernel_rfl) rfl)
  go_loopw [5, 6] (fun u iv wr => ∃ j : Nat, j ≤ L.length ∧ iv = .int .i64 (j : Int) ∧ Hid (wr.ownsRow w.heap.size 25 2 u j (ivCells (ck s L j))) ∧ Hid (Below w.heap.size w wr)) (fun _ iv _ => L.length - (intOf iv).toNat)
  case atStart => exact ⟨0, Nat.zero_le _, rfl, Lib.hid ⟨rfl, Or.inl ⟨rfl, rfl⟩⟩, Lib.hid (Below.refl _ _)⟩
  case round =>
    obtain ⟨j, hj, rfl, HO, HB⟩ := hrel
    by_cases hlt : j < L.length
    · obtain ⟨b, off, rfl, hb, h0, h1⟩ := iv_at (HR.out.below HB.out) j hlt
      have hs1 := ck_succ s L j hlt
      have hbx := HBd.out _ (List.getElem_mem hlt)
      obtain ⟨x, hx⟩ : ∃ x, x = L[j] := ⟨_, rfl⟩
      rw [← hx] at h0 h1 hs1 hbx
      clear hx
      obtain ⟨x1, x2⟩ := x
      dsimp only at h0 h1 hs1 hbx
      have d2 := ediv_bd hs (x2 - 1) 1600000000000000 (by omega) (by omega) (by omega)
      have C1 : Hid (∀ W, Calls Try.prog 68 #[.int .i64 x1, .int .i64 s] W fun e w' => e = .returned (.int .i64 (x1 / s)) ∧ w' = W) := Lib.hid (fun W => floor_any x1 s hs (by omega) (by omega) (by omega) W)
      have C2 : Hid (∀ W, Calls Try.prog 68 #[.int .i64 (x2 - 1), .int .i64 s] W fun e w' => e = .returned (.int .i64 ((x2 - 1) / s)) ∧ w' = W) := Lib.hid (fun W => floor_any (x2 - 1) s hs (by omega) (by omega) (by omega) W)
      obtain ⟨y1, hy1⟩ : ∃ y, x1 / s = y := ⟨_, rfl⟩
      obtain ⟨y2, hy2⟩ : ∃ y, (x2 - 1) / s = y := ⟨_, rfl⟩
      rw [hy1] at C1 hs1
      rw [hy2] at C2 d2 hs1
      have E := Lib.hid hs1
      obtain ⟨J, hJ⟩ : ∃ J, J = ck s L j := ⟨_, rfl⟩
      rw [← hJ] at HO E
      have hjI : (j : Int) < (L.length : Int) := by omega
      have hj0 : (0 : Int) ≤ (j : Int) := by omega
      have hw1 : IntKind.i64.wrap ((j : Int) + 1) = (j : Int) + 1 := by simp only [IntKind.wrap_i64]; omega
      have hw2 : IntKind.i64.wrap (x2 - 1) = x2 - 1 := by simp only [IntKind.wrap_i64]; omega
      have hw3 : IntKind.i64.wrap (y2 + 1) = y2 + 1 := by simp only [IntKind.wrap_i64]; omega
      have hbr : b < wr.heap.size := by have := HB.out.size; omega
      clear hJ hs1 hbx hy1 hy2
      go_wp2_with fail
      go_region_law (first
        | (refine step_call rfl 68 _ _ rfl EF.out #[.int .i64 x1, .int .i64 s] ?_ _ (C1.out _) ?_; focus (simp [Act.eval, Act.put]; done))
        | (refine step_call rfl 68 _ _ rfl EF.out #[.int .i64 (x2 - 1), .int .i64 s] ?_ _ (C2.out _) ?_; focus (simp [Act.eval, Act.put]; done))
        | (refine step_append_sized rfl (.tmp 13) (.tmp 31) 22 rfl w.heap.size 25 i0 _ 2 16 Try.underlying22 Hi0.out Hz0.out Hz1.out Hz2.out rfl (by decide) u5 j (ivCells J) (by simp [Act.eval]) (World.ownsRow.alloc HO.out _) (some ⟨wr.heap.size, 0, none⟩) 1 1 (by simp [Act.eval]) [.int .i64 y1, .int .i64 (y2 + 1)] rfl (fun h => by cases h) (cells_two (Deep.blk_alloc_new wr _)) (by simp [Value.oneCell']) (by omega) (by omega) (by have := HB.out.size; simp; omega) ?_; intro v3 w4 hown3 hg3; have HB3 := Lib.hid (below_grownk (B := w.heap.size) (a := w) (Below.drew (Below.alloc HB.out HB.out.size _)) (World.ownsRow.alloc HO.out _) hg3 (Nat.le_refl _) (Nat.le_refl _)); have HO3 := Lib.hid hown3; clear hown3 hg3))
      all_goals
        go_wp2_with fail
        go_roundw
        case rel => exact ⟨j + 1, by omega, by go_num, Lib.hid (by rw [E.out, iv_snoc]; exact HO3.out), HB3⟩
        case measure => simp [intOf] <;> omega
    · obtain rfl : j = L.length := by omega
      rw [HAll.out] at HO
      have hml : (cells s L).length = L.length := by unfold cells; simp
      obtain ⟨M, hM⟩ : ∃ M, M = cells s L := ⟨_, rfl⟩
      have HM := Lib.hid hM
      rw [← hM] at HO hml
      rw [← hml] at HO
      obtain ⟨B, d, rfl, _, _, _, hRB⟩ := sl_own HO.out
      have Hof := Lib.hid (ref_of B d M (by omega) wr hRB)
      clear hM hRB hml
      go_wp2_with fail
      refine Hof.out.mono ?_
      rintro e w2 ⟨⟨r, rfl, hown⟩, hb⟩
      have HO2 := Lib.hid hown
      have HB2 := Lib.hid (HB.out.trans (hb.mono HB.out.size))
      clear hown hb
      go_wp2_with fail
      go_ret
      rw [← HM.out]
      exact ⟨⟨_, rfl, sl_own HO2.out⟩, HB2.out⟩
end Go.Proofs.Ytkjpficpkpfkdaa
