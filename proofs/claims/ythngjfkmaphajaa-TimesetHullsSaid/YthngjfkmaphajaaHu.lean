/- Hull, Gaps, the reference's Gaps. -/
import Derived.Test.YthngjfkmaphajaaAl
namespace Go.Proofs.Ythngjfkmaphajaa
open Go.ChangeShapes Go.WideShapes Go.ChangeAt Go.RowKit Ts

theorem gapsL_snoc (M : List Iv) (y x : Iv) : gapsL (M ++ [y] ++ [x]) = gapsL (M ++ [y]) ++ [(y.2, x.1)] := by
  induction M with
  | nil => rfl
  | cons z M ih =>
    cases M with
    | nil => rfl
    | cons z' M =>
      show (z.2, z'.1) :: gapsL (z' :: M ++ [y] ++ [x]) = ((z.2, z'.1) :: gapsL (z' :: M ++ [y])) ++ _
      rw [ih]; rfl
theorem gapsL_take (L : List Iv) (j : Nat) (h : j + 1 < L.length) : gapsL (L.take (j + 1 + 1)) = gapsL (L.take (j + 1)) ++ [(L[j].2, L[j + 1].1)] := by
  rw [take_snoc L (j + 1) h, take_snoc L j (by omega), gapsL_snoc]
theorem gapsL_len (L : List Iv) : (gapsL L).length ≤ L.length := by
  induction L with
  | nil => exact Nat.le_refl _
  | cons x L ih =>
    cases L with
    | nil => simp [gapsL]
    | cons y L => show (gapsL (y :: L)).length + 1 ≤ _; simp at ih ⊢; omega
set_option maxRecDepth 100000 in
set_option maxHeartbeats 1000000 in
theorem ref_gaps {v : Value} {L : List Iv} (hl : L.length ≤ 1000) (w : World) (hv : Sl w v L) :
    Calls Try.prog 40 #[v] w fun e w' => (∃ r, e = .returned r ∧ Sl w' r (gapsL L)) ∧ Below w.heap.size w w' := by
  obtain ⟨i0, hi0, hz0, hz1, hz2⟩ := info_parts info_iv
  have Hi0 := Lib.hid hi0
  have Hz0 := Lib.hid hz0
  have Hz1 := Lib.hid hz1
  have Hz2 := Lib.hid hz2
  obtain ⟨A, c, rfl, _, _, _, hR⟩ := hv
  have HR := Lib.hid hR
  clear hi0 hz0 hz1 hz2 hR
  go_enter Try.func40, Try.ntmps40
  go_wp2_with fail
  go_loopw [3, 4] (fun u iv wr => ∃ j : Nat, (j + 1 ≤ L.length ∨ j = 0) ∧ iv = .int .i64 ((j : Int) + 1) ∧ Hid (wr.ownsRow w.heap.size 25 2 u (gapsL (L.take (j + 1))).length (ivCells (gapsL (L.take (j + 1))))) ∧ Hid (Below w.heap.size w wr)) (fun _ iv _ => L.length - (intOf iv).toNat)
  case atStart =>
    have e : gapsL (L.take (0 + 1)) = [] := by cases L <;> rfl
    refine ⟨0, .inr rfl, rfl, Lib.hid ?_, Lib.hid (Below.refl _ _)⟩
    rw [e]
    exact ⟨rfl, Or.inl ⟨rfl, rfl⟩⟩
  case round =>
    obtain ⟨j, hj, rfl, HO, HB⟩ := hrel
    by_cases hlt : j + 1 < L.length
    · have E := Lib.hid (gapsL_take L j hlt)
      have hgl := gapsL_len (L.take (j + 1))
      rw [List.length_take] at hgl
      obtain ⟨J, hJ⟩ : ∃ J, J = gapsL (L.take (j + 1)) := ⟨_, rfl⟩
      rw [← hJ] at HO E hgl
      obtain ⟨b, off, rfl, hb, _, h1⟩ := iv_at (HR.out.below HB.out) j (by omega)
      obtain ⟨b', off', e, _, h0, _⟩ := iv_at (HR.out.below HB.out) (j + 1) hlt
      simp only [Option.some.injEq, Addr.mk.injEq, and_true] at e
      obtain ⟨rfl, rfl⟩ := e
      obtain ⟨p, hp⟩ : ∃ p, p = L[j].2 := ⟨_, rfl⟩
      obtain ⟨q, hq⟩ : ∃ q, q = L[j + 1].1 := ⟨_, rfl⟩
      rw [← hp] at h1 E
      rw [← hq] at h0 E
      clear hp hq hJ
      have hbr : b < wr.heap.size := by have := HB.out.size; omega
      have hw1 : IntKind.i64.wrap ((j : Int) + 1 - 1) = (j : Int) := by simp only [IntKind.wrap_i64]; omega
      have hw0 : IntKind.i64.wrap (j : Int) = (j : Int) := by simp only [IntKind.wrap_i64]; omega
      have hj0 : (0 : Int) ≤ (j : Int) := by omega
      have hj1 : (0 : Int) ≤ (j : Int) + 1 := by omega
      have hjl : (j : Int) < (L.length : Int) := by omega
      have hjl2 : (j : Int) + 1 < (L.length : Int) := by omega
      have hj2 : ((j : Int) + 1).toNat = j + 1 := by omega
      go_wp2_with fail
      go_region_law (refine step_append_sized rfl (.tmp 11) (.tmp 24) 22 rfl w.heap.size 25 i0 _ 2 16 Try.underlying22 Hi0.out Hz0.out Hz1.out Hz2.out rfl (by decide) u3 J.length (ivCells J) (by simp [Act.eval]) (World.ownsRow.alloc HO.out _) (some ⟨wr.heap.size, 0, none⟩) 1 1 (by simp [Act.eval]) [.int .i64 p, .int .i64 q] rfl (fun h => by cases h) (cells_two (Deep.blk_alloc_new wr _)) (by simp [Value.oneCell']) (by omega) (by omega) (by have := HB.out.size; simp; omega) ?_; intro v3 w4 hown3 hg3; have HB3 := Lib.hid (below_grownk (B := w.heap.size) (a := w) (Below.drew (Below.alloc HB.out HB.out.size _)) (World.ownsRow.alloc HO.out _) hg3 (Nat.le_refl _) (Nat.le_refl _)); have HO3 := Lib.hid hown3; clear hown3 hg3)
      all_goals
        go_wp2_with fail
        go_roundw
        case rel => exact ⟨j + 1, .inl (by omega), by go_num, Lib.hid (by rw [E.out, iv_snoc, List.length_append]; exact HO3.out), HB3⟩
        case measure => simp [intOf] <;> omega
    · have hend : L.take (j + 1) = L := List.take_of_length_le (by omega)
      rw [hend] at HO
      have hjl2 : ¬ (j : Int) + 1 < (L.length : Int) := by omega
      go_wp2_with fail
      go_ret
      exact ⟨⟨_, rfl, sl_own HO.out⟩, HB.out⟩
/-- The hull of a list: the list of its one interval. -/
def hullL (T : List Iv) : Iv := match T with
  | [] => (0, 0)
  | x :: L => (x.1, ((x :: L).getLast (by simp)).2)
theorem in_hull (x : Iv) (L : List Iv) (h : Nrm (x :: L)) (n : Int) (hn : In n (x :: L)) : x.1 ≤ n ∧ n < ((x :: L).getLast (by simp)).2 := by
  induction L generalizing x n with
  | nil => exact In.one.1 hn
  | cons y L ih =>
    obtain ⟨nL, lx, fx⟩ := h.tail
    have e : (x :: y :: L).getLast (by simp) = (y :: L).getLast (by simp) := rfl
    rw [e]
    have hy := fx y (List.mem_cons_self ..)
    have hyl := nL.1 y (List.mem_cons_self ..)
    have hz := (ih y nL y.1 ⟨y, List.mem_cons_self .., Int.le_refl _, hyl⟩).2
    rcases In.cons.1 hn with h1 | h1
    · omega
    · have h2 := ih y nL n h1
      omega
theorem results_cell_tmp1 {fn : Func} {p u : Tmp} {ty : TypeId} (h : fn.results = #[.cell p ty, .tmp u]) (tmps : Array Value) (P : Program) (w : World) :
    (results fn tmps).run P w = ((asAddr (tmps.getD p undef)).run P w).andThen fun a w₁ => ((loadVar ty a).run P w₁).andThen fun v w₂ => .ok (.tuple #[v, tmps.getD u undef]) w₂ := by
  simp only [results, h]
  simp [Sem.run_bind, Result.andThen]
set_option maxRecDepth 100000 in
set_option maxHeartbeats 1000000 in
theorem hull_none {v : Value} (w : World) (hv : Sl w v []) :
    Calls Try.prog 38 #[v] w fun e w' => e = .returned (.tuple #[.agg #[.int .i64 0, .int .i64 0], .bool false]) ∧ Below w.heap.size w w' := by
  obtain ⟨A, c, rfl, _, _, _, hR⟩ := hv
  clear hR
  go_enter Try.func38, Try.ntmps38
  go_wp2_with fail
  (try simp only [Exit.inBlock, Exit.then])
  refine bodyPost_ret (v := .tuple #[.agg #[.int .i64 0, .int .i64 0], .bool false]) ?_ rfl ⟨rfl, ?_⟩
  · rw [results_cell_tmp1 rfl]; go_simp
  · (repeat' (first | exact Below.refl _ _ | refine Below.drew ?_ | refine Below.alloc ?_ (by simp <;> omega) _))
set_option maxRecDepth 100000 in
set_option maxHeartbeats 1000000 in
theorem hull_some {v : Value} (x : Iv) (L : List Iv) (hl : L.length ≤ 1000) (w : World) (hv : Sl w v (x :: L)) :
    Calls Try.prog 38 #[v] w fun e w' => e = .returned (.tuple #[.agg #[.int .i64 (hullL (x :: L)).1, .int .i64 (hullL (x :: L)).2], .bool true]) ∧ Below w.heap.size w w' := by
  obtain ⟨A, c, rfl, _, _, _, hR⟩ := hv
  obtain ⟨b, off, rfl, hb, h0, _⟩ := iv_at hR 0 (by simp)
  obtain ⟨b', off', e, _, _, h1⟩ := iv_at hR L.length (by simp)
  simp only [Option.some.injEq, Addr.mk.injEq, and_true] at e
  obtain ⟨rfl, rfl⟩ := e
  have e2 : (x :: L)[L.length]'(by simp) = (x :: L).getLast (by simp) := by rw [List.getLast_eq_getElem]; simp
  rw [e2] at h1
  have e3 : hullL (x :: L) = (x.1, ((x :: L).getLast (by simp)).2) := rfl
  obtain ⟨y, hy⟩ : ∃ y, y = ((x :: L).getLast (by simp)).2 := ⟨_, rfl⟩
  rw [← hy] at h1 e3
  rw [e3]
  obtain ⟨x1, x2⟩ := x
  simp at h0 h1
  have hw1 : IntKind.i64.wrap ((L.length : Int) + 1 - 1) = (L.length : Int) := by simp only [IntKind.wrap_i64]; omega
  have hw0 : IntKind.i64.wrap (L.length : Int) = (L.length : Int) := by simp only [IntKind.wrap_i64]; omega
  have hl0 : (0 : Int) ≤ (L.length : Int) := by omega
  have hl1 : (0 : Int) < (L.length : Int) + 1 := by omega
  have hl2 : (L.length : Int) < (L.length : Int) + 1 := by omega
  have hl3 : ((L.length : Int) + 1 == 0) = false := by simpa using (show ¬ (L.length : Int) + 1 = 0 by omega)
  dsimp only
  clear hR e2 e3 hy
  go_enter Try.func38, Try.ntmps38
  go_wp2_with fail
  go_region
  go_wp2_with fail
  (try simp only [Exit.inBlock, Exit.then])
  refine bodyPost_ret (v := .tuple #[.agg #[.int .i64 x1, .int .i64 y], .bool true]) ?_ rfl ⟨rfl, ?_⟩
  · rw [results_cell_tmp1 rfl]; go_simp
  · (repeat' (first | exact Below.refl _ _ | refine Below.drew ?_ | refine Below.alloc ?_ (by simp <;> omega) _))
/-- What the program makes of a set: nothing, or its hull less the set. -/
theorem gaps_none {v : Value} (w : World) (hv : Sl w v []) :
    Calls Try.prog 39 #[v] w fun e w' => (∃ r, e = .returned r ∧ Sl w' r []) ∧ Below w.heap.size w w' := by
  have Hh := Lib.hid (hull_none w hv)
  clear hv
  go_enter Try.func39, Try.ntmps39
  go_wp2_with fail
  refine Hh.out.mono ?_
  rintro e w1 ⟨rfl, hb⟩
  have HB := Lib.hid hb
  clear hb
  go_wp2_with fail
  go_ret
  exact ⟨⟨_, rfl, ⟨none, 0, rfl, Nat.le_refl _, by omega, (fun _ => ⟨rfl, rfl⟩), Rs.nil⟩⟩, HB.out.alloc HB.out.size _⟩
theorem hull_ok {x : Iv} {L : List Iv} {n : Nat} (h : Ok n (x :: L)) : Ok 1000 [hullL (x :: L)] := by
  have hx := in_hull x L h.nrm x.1 ⟨x, List.mem_cons_self .., Int.le_refl _, h.nrm.1 x (List.mem_cons_self ..)⟩
  have b1 := h.bd x (List.mem_cons_self ..)
  have b2 := h.bd _ (List.getLast_mem (l := x :: L) (by simp))
  have e : hullL (x :: L) = (x.1, ((x :: L).getLast (by simp)).2) := rfl
  refine ⟨⟨fun y hy => ?_, by simp⟩, by simp, fun y hy => ?_⟩
  · rw [List.mem_singleton.1 hy, e]; exact hx.2
  · rw [List.mem_singleton.1 hy, e]; exact ⟨b1.1, b2.2⟩
theorem gaps_some {v : Value} (x : Iv) (L : List Iv) (hok : Ok 1000 (x :: L)) (w : World) (hv : Sl w v (x :: L)) :
    Calls Try.prog 39 #[v] w fun e w' => (∃ r, e = .returned r ∧ Sl w' r (cmbL butF [hullL (x :: L)] (x :: L))) ∧ Below w.heap.size w w' := by
  have Hh := Lib.hid (hull_some x L (by have := hok.len; simp at this; omega) w hv)
  have HS := Lib.hid hv
  have hko := hull_ok hok
  obtain ⟨T, hT⟩ : ∃ T, T = x :: L := ⟨_, rfl⟩
  rw [← hT] at Hh HS hko hok ⊢
  obtain ⟨⟨y1, y2⟩, hy⟩ : ∃ y, y = hullL T := ⟨_, rfl⟩
  rw [← hy] at Hh hko ⊢
  dsimp only at Hh
  clear hv hT hy
  go_enter Try.func39, Try.ntmps39
  go_wp2_with fail
  refine Hh.out.mono ?_
  rintro e w1 ⟨rfl, hb⟩
  have hA1 : Below w1.heap.size w1 ((w1.alloc (.cells #[.int .i64 y1, .int .i64 y2] 25)).alloc (.cells (ivCells [(y1, y2)]).toArray 25)) := ((Below.refl _ _).alloc (Nat.le_refl _) _).alloc (by simp) _
  have Hm := Lib.hid (minus_sl hko hok _ (sl_blk (L := [(y1, y2)]) (by simp) (Deep.blk_alloc_new (w1.alloc (.cells #[.int .i64 y1, .int .i64 y2] 25)) (.cells (ivCells [(y1, y2)]).toArray 25))) ((HS.out.below hb).below hA1))
  have HB := Lib.hid (hb.trans (hA1.mono hb.size))
  clear hb hA1
  simp only [World.size_alloc] at Hm
  go_wp2_with fail
  refine Hm.out.mono ?_
  rintro e w2 ⟨⟨r, rfl, hr⟩, hb⟩
  have HB2 := Lib.hid (HB.out.trans (hb.mono (by have := HB.out.size; simp at this; omega)))
  have HR := Lib.hid hr
  clear hb hr
  go_wp2_with fail
  go_ret
  exact ⟨⟨_, rfl, HR.out⟩, HB2.out⟩
theorem gaps_eq {x : Iv} {L : List Iv} {n : Nat} (h : Ok n (x :: L)) : cmbL butF [hullL (x :: L)] (x :: L) = gapsL (x :: L) := by
  obtain ⟨g1, _, g3⟩ := gaps_spec L x h.nrm
  have hh := (hull_ok h).nrm
  refine nrm_ext (cmbL_spec butF rfl _ _ hh h.nrm).1 g1 (fun k => ?_)
  rw [g3 k, (cmbL_spec butF rfl _ _ hh h.nrm).2 k]
  have e1 : has k [hullL (x :: L)] = true ↔ x.1 ≤ k ∧ k < ((x :: L).getLast (by simp)).2 := by rw [has_in, In.one]; exact Iff.rfl
  constructor
  · intro h1
    have h2 := Bool.and_eq_true_iff.1 h1
    have h3 := e1.1 h2.1
    refine ⟨h3.1, h3.2, fun h4 => ?_⟩
    rw [(has_in k (x :: L)).2 h4] at h2
    exact absurd h2.2 (by simp)
  · rintro ⟨h1, h2, h3⟩
    refine Bool.and_eq_true_iff.2 ⟨e1.2 ⟨h1, h2⟩, ?_⟩
    have : has k (x :: L) = false := by rw [Bool.eq_false_iff]; intro h4; exact h3 ((has_in k (x :: L)).1 h4)
    rw [this]; rfl
theorem gaps_fill {x : Iv} {L : List Iv} {n : Nat} (h : Ok n (x :: L)) : cmbL orF (x :: L) (gapsL (x :: L)) = [hullL (x :: L)] := by
  obtain ⟨g1, _, g3⟩ := gaps_spec L x h.nrm
  have hh := (hull_ok h).nrm
  refine nrm_ext (cmbL_spec orF rfl _ _ h.nrm g1).1 hh (fun k => ?_)
  rw [(cmbL_spec orF rfl _ _ h.nrm g1).2 k, ← has_in]
  have e1 : has k [hullL (x :: L)] = true ↔ x.1 ≤ k ∧ k < ((x :: L).getLast (by simp)).2 := by rw [has_in, In.one]; exact Iff.rfl
  rw [e1]
  constructor
  · intro h1
    rcases Bool.or_eq_true_iff.1 h1 with h2 | h2
    · exact in_hull x L h.nrm k ((has_in k _).1 h2)
    · have := (g3 k).1 ((has_in k _).1 h2); exact ⟨this.1, this.2.1⟩
  · rintro ⟨h1, h2⟩
    refine Bool.or_eq_true_iff.2 ?_
    cases h3 : has k (x :: L) with
    | true => exact .inl rfl
    | false => exact .inr ((has_in k _).2 ((g3 k).2 ⟨h1, h2, fun h4 => by rw [(has_in k _).2 h4] at h3; cases h3⟩))
end Go.Proofs.Ythngjfkmaphajaa
