/- Add (written by wip/bin/gen_ga22.py, then unused.py). -/
import Derived.Test.YtnpjakgdfjaglaaGk
import Derived.Deep.RegionHeld3
namespace Go.Proofs.Ytnpjakgdfjaglaa
open Go.ChangeShapes Go.WideShapes Go.ChangeAt Go.RowKit Go.Joins

theorem Hm.len {w : World} {b : Nat} {L : List Ct} (h : Hm w b L) (ty : TypeId) : (Builtin.len_ #[71] ty #[.map (some b)]).run Try.prog w = .ok (.int .i64 (L.length : Int)) w := by
  obtain ⟨D, ho, ht, _⟩ := h
  have := ho.len Try.underlying71 ty
  rwa [ht.2.1] at this
theorem wpList_get_okv {w : World} {ops : Array Oper} {rest : List Oper} {o : Oper} {a : Act} {Q : Exit → Act → World → Prop} (hg : o.guard = none) (m x : Operand) (hop : o.op = Op.lookup 71 m x true) (b : Nat) (L : List Ct) (hm : a.eval m = .map (some b)) (h : Hm w b L) (k : ByteArray) (hk : k.size ≤ 1000000) (hx : a.eval x = .string k) (v : Int) (hv : gt L k = v) (r : Bool) (hr : decide (hs L k) = r)
    (hK : wpList Try.prog ops Q rest (a.put o.dst (.tuple #[.int .i64 v, .bool r])) w) : wpList Try.prog ops Q (o :: rest) a w := by
  subst hv; subst hr; exact wpList_get_ok hg m x hop b L hm h k hk hx hK
/-- A row's cells after a store of the whole. -/
theorem below_setRow {B : Nat} {a w : World} {g : Nat} {cs : Array Value} (h : Below B a w) (hg : B ≤ g) : Below B a (w.setRow g cs) :=
  ⟨h.os, h.tape, h.output, by simpa using h.size, fun i hi => (setRow_other w g i cs (by omega)).trans (h.block i hi)⟩
def Ks (L : List Ct) : Prop := L.length ≤ 1000000 ∧ ∀ p ∈ L, p.1.size ≤ 1000
theorem ks_adC {L : List Ct} (hS : Sd L) (hl : L.length ≤ 100000) (h : ∀ p ∈ L, p.1.size ≤ 1000) (k : ByteArray) (hk : k.size ≤ 1000) (n : Int) : Ks (adC L k n) :=
  ⟨Nat.le_trans (len_adC hS _ _) (by omega), fun p hp => by
    rcases (hs_pt _ _ _ _).1 (mem_keys hp) with e | e
    · rw [e]; exact hk
    · obtain ⟨q, hq, eq⟩ := List.mem_map.1 e
      rw [← eq]; exact h q hq⟩
theorem ks_loC {L : List Ct} (h : ∀ p ∈ L, p.1.size ≤ 1000) (d : Int) : ∀ p ∈ loC L d, p.1.size ≤ 1000 := fun p hp => h (p.1, p.2 + d) (loC_mem hp).2
theorem hs_loC {L : List Ct} {d : Int} {k : ByteArray} (h : hs (loC L d) k) : hs L k := by
  obtain ⟨q, hq, rfl⟩ := List.mem_map.1 h
  exact mem_keys (p := (q.1, q.2 + d)) (loC_mem hq).2
/-- Add's answer. -/
noncomputable def adR (s : Su) (k : ByteArray) (n : Int) : Su × Int :=
  if nmK k = false then (su0, 11) else if ¬(1 ≤ n ∧ n ≤ 1099511627776) then (su0, 2) else if 1125899906842624 - s.to < n then (su0, 20) else (adS s k n, 0)
/-- Numbers of a summary that is worked with. -/
def Nb (s : Su) : Prop := (-1152921504606846976 ≤ s.mo ∧ s.mo ≤ 1152921504606846976) ∧ (-1152921504606846976 ≤ s.to ∧ s.to ≤ 1152921504606846976) ∧ (0 ≤ s.lo ∧ s.lo ≤ 1152921504606846976)
set_option maxRecDepth 100000 in
set_option maxHeartbeats 4000000 in
theorem add_any (v : Value) (s : Su) (k : ByteArray) (n : Int) (hk : k.size ≤ 1000) (hl5 : s.cs.length ≤ 100000) (hF : Fit22 s.cs) (hS : Sd s.cs) (hN : Nb s) (w : World) (hv : SuV w v s) :
    Calls Try.prog 19 #[v, .string k, .int .i64 n] w fun e w' => (∃ u, e = .returned (.tuple #[u, .int .i64 (adR s k n).2]) ∧ SuV w' u (adR s k n).1) ∧ Below w.heap.size w w' := by
  obtain ⟨mo, to, lo, cs⟩ := s
  obtain ⟨u, rfl, A, c, rfl, hc1, hc2, hR⟩ := hv
  obtain ⟨⟨m1, m2⟩, ⟨t1, t2⟩, ⟨l1, l2⟩⟩ := hN
  dsimp only at hl5 hF hS m1 m2 t1 t2 l1 l2 hc1 hR ⊢
  have hln := hF.2.2.2
  have hsum := hF.2.1
  have HNm := Lib.hid (fun W => name_any k (by omega) W)
  have HBt := Lib.hid (fun W => between22_any n 1 1099511627776 W)
  have HCo := Lib.hid (fun W h => countsOf_any A c cs hF W h)
  have HLe := Lib.hid (fun W h => least_any A c cs n hln W h)
  have HLo := Lib.hid (fun y hy b W h => lower_any b cs y hF hy W h)
  have HA : Hid (adR ⟨mo, to, lo, cs⟩ k n = if nmK k = false then (su0, 11) else if ¬(1 ≤ n ∧ n ≤ 1099511627776) then (su0, 2) else if 1125899906842624 - to < n then (su0, 20) else (adS ⟨mo, to, lo, cs⟩ k n, 0)) := Lib.hid rfl
  have HF := Lib.hid hF
  have HS := Lib.hid hS
  have HC := Lib.hid (coC_sd hS)
  obtain ⟨q, hq⟩ : ∃ q, q = nmK k := ⟨_, rfl⟩
  rw [← hq] at HNm HA
  obtain ⟨X, hX⟩ : ∃ X, X = adR ⟨mo, to, lo, cs⟩ k n := ⟨_, rfl⟩
  rw [← hX] at HA ⊢
  rw [HC.out] at HCo
  have HLn : Hid ((cs.length : Int) = (cs.length : Int)) := Lib.hid rfl
  clear hq hX hF hS
  obtain ⟨len, hlen⟩ : ∃ len, len = cs.length := ⟨_, rfl⟩
  have HLen := Lib.hid hlen
  rw [← hlen] at HCo HLe hln hc1 HLn ⊢
  clear hlen
  obtain ⟨W0, hW0⟩ : ∃ W0 : World, W0 = (w.alloc (.cells #[.int .i64 mo, .int .i64 to, .int .i64 lo, .slice A len c] 24)).alloc (.cells #[.int .i64 0, .int .i64 0, .int .i64 0, .slice none 0 0] 24) := ⟨_, rfl⟩
  have hz0 : W0.heap.size = w.heap.size + 2 := by rw [hW0]; simp
  have HB0 : Hid (Below w.heap.size w W0) := Lib.hid (by rw [hW0]; exact ((Below.refl _ _).alloc (Nat.le_refl _) _).alloc (by simp) _)
  have HG0 : Hid (W0.heap[w.heap.size]? = some (.cells #[.int .i64 mo, .int .i64 to, .int .i64 lo, .slice A len c] 24 (0, 0))) := Lib.hid (by rw [hW0]; exact blk_under _ _ _)
  have HG1 : Hid (W0.heap[w.heap.size + 1]? = some (.cells #[.int .i64 0, .int .i64 0, .int .i64 0, .slice none 0 0] 24 (0, 0))) := Lib.hid (by rw [hW0]; exact blk_over _ _ _)
  have HSb : Hid ((Try.prog.info? 24).map (fun i => i.size) = some (#[Value.int .i64 0, .int .i64 0, .int .i64 0, .slice none 0 0] : Array Value).size) := Lib.hid (by kernel_rfl)
  have HAl : Hid ((#[Value.int .i64 0, .int .i64 0, .int .i64 0, .slice none 0 0] : Array Value).all (·.oneCell') = true) := Lib.hid (by simp [Value.oneCell'])
  have HR := Lib.hid hR
  have HCell : Hid (∀ W, Below (w.heap.size + 2) W0 W → W.cell? ⟨w.heap.size, 0, none⟩ = some (.int .i64 mo) ∧ W.cell? ⟨w.heap.size, 1, none⟩ = some (.int .i64 to) ∧ W.cell? ⟨w.heap.size, 2, none⟩ = some (.int .i64 lo) ∧ W.cell? ⟨w.heap.size, 3, none⟩ = some (.slice A len c)) := Lib.hid (fun W h => by
    have hg := (h.block w.heap.size (by omega)).trans HG0.out
    exact ⟨cell_of_row _ _ 0 _ _ _ hg, cell_of_row _ _ 1 _ _ _ hg, cell_of_row _ _ 2 _ _ _ hg, cell_of_row _ _ 3 _ _ _ hg⟩)
  have HOut : Hid (∀ W, Below (w.heap.size + 2) W0 W → W.heap[w.heap.size + 1]? = some (.cells #[.int .i64 0, .int .i64 0, .int .i64 0, .slice none 0 0] 24 (0, 0))) := Lib.hid (fun W h => (h.block (w.heap.size + 1) (by omega)).trans HG1.out)
  have HRd : Hid (∀ W, Below (w.heap.size + 2) W0 W → CR W A cs) := Lib.hid (fun W h => HR.out.below (HB0.out.trans (h.mono (by omega))))
  clear hR
  go_enter Try.func19, Try.ntmps19
  go_wp2_with fail
  rw [← hW0]
  refine (HNm.out _).mono ?_
  rintro e w1 ⟨rfl, hb1⟩
  have HB1 : Hid (Below (w.heap.size + 2) W0 w1) := Lib.hid (by rw [← hz0]; exact hb1)
  clear hb1 hW0
  have hz1 := HB1.out.size
  cases q with
  | false =>
    have HXe : X = (su0, 11) := by rw [HA.out]; exact if_pos rfl
    have ho := HOut.out _ HB1.out
    have hlo : w.heap.size + 1 < w1.heap.size := by omega
    go_wp2_with (refine wpList_store_row rfl _ _ _ rfl (w.heap.size + 1) #[.int .i64 0, .int .i64 0, .int .i64 0, .slice none 0 0] rfl rfl 24 _ ho HSb.out rfl HAl.out ?_)
    have hB9 : Below w.heap.size w (w1.setRow (w.heap.size + 1) #[.int .i64 0, .int .i64 0, .int .i64 0, .slice none 0 0]) := below_setRow (HB0.out.trans (HB1.out.mono (by omega))) (by omega)
    have ho2 := setRow_heap w1 (w.heap.size + 1) _ #[.int .i64 0, .int .i64 0, .int .i64 0, .slice none 0 0] _ _ ho
    refine bodyPost_ret (v := .tuple #[.agg #[.int .i64 0, .int .i64 0, .int .i64 0, .slice none 0 0], .int .i64 11]) ?_ rfl ⟨⟨_, by rw [HXe], ?_⟩, hB9⟩
    · have k0 := cell_of_row _ _ 0 _ _ _ ho2
      have k1 := cell_of_row _ _ 1 _ _ _ ho2
      have k2 := cell_of_row _ _ 2 _ _ _ ho2
      have k3 := cell_of_row _ _ 3 _ _ _ ho2
      simp at k0 k1 k2 k3
      rw [results_cell_tmp1 rfl]; go_simp <;> rfl
    · rw [HXe]; exact ⟨_, rfl, CRempty⟩
  | true =>
    go_wp2_with fail
    refine (HBt.out _).mono ?_
    rintro e w2 ⟨rfl, rfl⟩
    by_cases hw : 1 ≤ n ∧ n ≤ 1099511627776
    · have d1 : (decide (1 ≤ n) && decide (n ≤ 1099511627776)) = true := by simpa using hw
      obtain ⟨n1, n2⟩ := hw
      have hwt : IntKind.i64.wrap (1125899906842624 - to) = 1125899906842624 - to := by simp only [IntKind.wrap_i64]; omega
      obtain ⟨c0, c1, c2, c3⟩ := HCell.out _ HB1.out
      by_cases ho : 1125899906842624 - to < n
      · have d2 : decide (1125899906842624 - to < n) = true := by simpa using ho
        clear c0 c1 c2 c3
        have c1 := (HCell.out _ HB1.out).2.1
        have HXe : X = (su0, 20) := by rw [HA.out]; exact (if_neg (by decide)).trans ((if_neg (by omega)).trans (if_pos ho))
        have ho8 := HOut.out _ HB1.out
        have hlo : w.heap.size + 1 < w1.heap.size := by omega
        go_wp2_with (refine wpList_store_row rfl _ _ _ rfl (w.heap.size + 1) #[.int .i64 0, .int .i64 0, .int .i64 0, .slice none 0 0] rfl rfl 24 _ ho8 HSb.out rfl HAl.out ?_)
        have hB9 : Below w.heap.size w (w1.setRow (w.heap.size + 1) #[.int .i64 0, .int .i64 0, .int .i64 0, .slice none 0 0]) := below_setRow (HB0.out.trans (HB1.out.mono (by omega))) (by omega)
        have ho2 := setRow_heap w1 (w.heap.size + 1) _ #[.int .i64 0, .int .i64 0, .int .i64 0, .slice none 0 0] _ _ ho8
        refine bodyPost_ret (v := .tuple #[.agg #[.int .i64 0, .int .i64 0, .int .i64 0, .slice none 0 0], .int .i64 20]) ?_ rfl ⟨⟨_, by rw [HXe], ?_⟩, hB9⟩
        · have k0 := cell_of_row _ _ 0 _ _ _ ho2
          have k1 := cell_of_row _ _ 1 _ _ _ ho2
          have k2 := cell_of_row _ _ 2 _ _ _ ho2
          have k3 := cell_of_row _ _ 3 _ _ _ ho2
          simp at k0 k1 k2 k3
          rw [results_cell_tmp1 rfl]; go_simp <;> rfl
        · rw [HXe]; exact ⟨_, rfl, CRempty⟩
      · have d2 : decide (1125899906842624 - to < n) = false := by simpa using ho
        have HAX : Hid (X = (adS ⟨mo, to, lo, cs⟩ k n, 0)) := Lib.hid (by rw [HA.out, if_neg (by decide), if_neg (by omega), if_neg ho])
        go_wp2_with fail
        refine (HCo.out _ (HRd.out _ HB1.out)).mono ?_
        rintro e w2 ⟨rfl, hm2, hb2⟩
        have HB2 : Hid (Below (w.heap.size + 2) W0 w2) := Lib.hid (HB1.out.trans (hb2.mono (by have := HB1.out.size; omega)))
        obtain ⟨g, hg⟩ : ∃ g, g = w1.heap.size := ⟨_, rfl⟩
        rw [← hg] at hm2 ⊢
        have HM2 := Lib.hid hm2
        have hgl : w.heap.size + 2 ≤ g := by omega
        clear hb2 hm2 hg c0 c1 c2 c3
        have hlen2 := fun ty => HM2.out.len ty
        rw [← HLen.out] at hlen2
        obtain ⟨c0, c1, c2, c3⟩ := HCell.out _ HB2.out
        obtain ⟨x, hx⟩ : ∃ x, gt cs k = x := ⟨_, rfl⟩
        have HGx := Lib.hid hx
        have hgx := gt_sm HF.out.1 k
        rw [hx] at hgx
        obtain ⟨x0, x1⟩ := hgx
        clear hx
        have hwn : IntKind.i64.wrap n = n := by simp only [IntKind.wrap_i64]; omega
        have hwx : IntKind.i64.wrap (x + n) = x + n := by simp only [IntKind.wrap_i64]; omega
        have hcl : cs.length ≤ 1000000 := by rw [← HLen.out]; exact hln
        have HKs := Lib.hid (ks_adC HS.out hl5 HF.out.2.2.1 k hk n)
        by_cases hh : hs cs k
        · have HH : Hid (decide (hs cs k) = true) := Lib.hid (decide_eq_true hh)
          have HADS : Hid (adS ⟨mo, to, lo, cs⟩ k n = ⟨mo, to + n, lo, adC cs k n⟩) := Lib.hid (by unfold adS; rw [if_neg (fun h => h.1 hh)])
          clear hh
          have d3 : decide (0 < n) = true := by simp; omega
          go_wp2_with (first
            | (at_lookup; refine wpList_get_okv rfl _ _ rfl g cs rfl HM2.out k (by omega) rfl x HGx.out true HH.out ?_)
            | (at_lookup; refine wpList_getv rfl _ _ rfl g cs rfl HM2.out k (by omega) rfl x HGx.out ?_)
            | (at_mapUpdate; refine wpList_set rfl _ _ _ rfl g cs rfl HM2.out hcl k (by omega) rfl (x + n) (by omega) (by first | rfl | go_num) ?_; intro w3 hm3 hg3; have HMM : Hid (Hm w3 g (adC cs k n)) := Lib.hid (by rw [adC, HGx.out]; exact hm3); have HBT := Lib.hid (below_turn HB2.out hg3 hgl (by omega)); clear hm3 hg3))
          obtain ⟨L9, hL9⟩ : ∃ L9, L9 = adC cs k n := ⟨_, rfl⟩
          rw [← hL9] at HMM
          have HX9 : Hid (X = (⟨mo, to + n, lo, L9⟩, 0)) := Lib.hid (by rw [HAX.out, HADS.out, hL9])
          have HL9 : Hid (L9.length ≤ 1000000 ∧ ∀ p ∈ L9, p.1.size ≤ 1000) := Lib.hid (by rw [hL9]; exact HKs.out)
          clear hL9
          have HDw : Hid (∀ n, Below (w.heap.size + 2) W0 (w3.drewN n)) := Lib.hid (fun n => below_drewN HBT.out n)
          have HMd : Hid (∀ n, Hm (w3.drewN n) g L9) := Lib.hid (fun n => HMM.out)
          have hwA : IntKind.i64.wrap (to + n) = to + n := by simp only [IntKind.wrap_i64]; omega
          have hwB : IntKind.i64.wrap (lo) = lo := by simp only [IntKind.wrap_i64]; omega
          refine wp_region_held_drew (S := fun W => W.cell? ⟨w.heap.size, 0, none⟩ = some (.int .i64 mo) ∧ W.cell? ⟨w.heap.size, 1, none⟩ = some (.int .i64 to) ∧ W.cell? ⟨w.heap.size, 2, none⟩ = some (.int .i64 lo)) (by kernel_rfl) ?_ (fun hHeld => ?_)
          · (try dsimp only); exact ⟨(HCell.out _ (HDw.out _)).1, (HCell.out _ (HDw.out _)).2.1, (HCell.out _ (HDw.out _)).2.2.1⟩
          try simp only [Act.put]
          refine wpAnyH_take (i := 0) (v := ?_) rfl (by kernel_rfl) (by kernel_rfl) (by kernel_rfl) (fun _ _ _ h => h) (Or.inl ⟨by rfl, ?_⟩) (by assumption) ?_
          rotate_left 1
          · (intro w' hSw; (try dsimp only at hSw); go_simp; (try (with_reducible rfl)))
          try simp only [List.getElem_toArray, List.getElem_cons_zero, Act.put, List.setIfInBounds_toArray, List.set_cons_zero, List.set_cons_succ]
          refine wpAnyH_take (i := 1) (v := ?_) rfl (by kernel_rfl) (by kernel_rfl) (by kernel_rfl) (fun _ _ _ h => h) (Or.inl ⟨by rfl, ?_⟩) (by assumption) ?_
          rotate_left 1
          · (intro w' hSw; (try dsimp only at hSw); go_simp; (try (with_reducible rfl)))
          try simp only [List.getElem_toArray, List.getElem_cons_zero, List.getElem_cons_succ, Act.put, List.setIfInBounds_toArray, List.set_cons_zero, List.set_cons_succ]
          refine wpAnyH_take (i := 2) (v := ?_) rfl (by kernel_rfl) (by kernel_rfl) (by kernel_rfl) (fun _ _ _ h => h) (Or.inl ⟨by rfl, ?_⟩) (by assumption) ?_
          rotate_left 1
          · (intro w' hSw; (try dsimp only at hSw); go_simp; (try (with_reducible rfl)))
          try simp only [List.getElem_toArray, List.getElem_cons_zero, List.getElem_cons_succ, Act.put, List.setIfInBounds_toArray, List.set_cons_zero, List.set_cons_succ]
          refine wpAnyH_take (i := 3) (v := ?_) rfl (by kernel_rfl) (by kernel_rfl) (by kernel_rfl) (fun _ _ _ h => h) (Or.inl ⟨by rfl, ?_⟩) (by assumption) ?_
          rotate_left 1
          · (intro w' hSw; (try dsimp only at hSw); go_simp; (try (with_reducible rfl)))
          try simp only [List.getElem_toArray, List.getElem_cons_zero, List.getElem_cons_succ, Act.put, List.setIfInBounds_toArray, List.set_cons_zero, List.set_cons_succ]
          refine wpAnyH_take (i := 4) (v := ?_) rfl (by kernel_rfl) (by kernel_rfl) (by kernel_rfl) (fun _ _ _ h => h) (Or.inl ⟨by rfl, ?_⟩) (by assumption) ?_
          rotate_left 1
          · (intro w' hSw; (try dsimp only at hSw); go_simp; (try (with_reducible rfl)))
          try simp only [List.getElem_toArray, List.getElem_cons_zero, List.getElem_cons_succ, Act.put, List.setIfInBounds_toArray, List.set_cons_zero, List.set_cons_succ]
          refine wpAnyH_take (i := 5) (v := ?_) rfl (by kernel_rfl) (by kernel_rfl) (by kernel_rfl) (fun _ _ _ h => h) (Or.inl ⟨by rfl, ?_⟩) (by assumption) ?_
          rotate_left 1
          · (intro w' hSw; (try dsimp only at hSw); go_simp; (try (with_reducible rfl)))
          try simp only [List.getElem_toArray, List.getElem_cons_zero, List.getElem_cons_succ, Act.put, List.setIfInBounds_toArray, List.set_cons_zero, List.set_cons_succ]
          refine wpAnyH_take (i := 6) (v := ?_) rfl (by kernel_rfl) (by kernel_rfl) (by kernel_rfl) (fun _ _ _ h => h) (Or.inl ⟨by rfl, ?_⟩) (by assumption) ?_
          rotate_left 1
          · (intro w' hSw; (try dsimp only at hSw); go_simp; (try (with_reducible rfl)))
          try simp only [List.getElem_toArray, List.getElem_cons_zero, List.getElem_cons_succ, Act.put, List.setIfInBounds_toArray, List.set_cons_zero, List.set_cons_succ]
          refine wpAnyH_take (i := 7) (v := ?_) rfl (by kernel_rfl) (by kernel_rfl) (by kernel_rfl) (fun _ _ _ h => h) (Or.inl ⟨by rfl, ?_⟩) (by assumption) ?_
          rotate_left 1
          · (intro w' hSw; (try dsimp only at hSw); go_simp; (try (with_reducible rfl)))
          try simp only [List.getElem_toArray, List.getElem_cons_zero, List.getElem_cons_succ, Act.put, List.setIfInBounds_toArray, List.set_cons_zero, List.set_cons_succ]
          refine wpAnyH_take (i := 8) (v := ?_) rfl (by kernel_rfl) (by kernel_rfl) (by kernel_rfl) (fun _ _ _ h => h) (Or.inl ⟨by rfl, ?_⟩) (by assumption) ?_
          rotate_left 1
          · (intro w' hSw; (try dsimp only at hSw); go_simp; (try (with_reducible rfl)))
          try simp only [List.getElem_toArray, List.getElem_cons_zero, List.getElem_cons_succ, Act.put, List.setIfInBounds_toArray, List.set_cons_zero, List.set_cons_succ]
          refine wpAnyH_take (i := 9) (v := ?_) rfl (by kernel_rfl) (by kernel_rfl) (by kernel_rfl) (fun _ _ _ h => h) (Or.inl ⟨by rfl, ?_⟩) (by assumption) ?_
          rotate_left 1
          · (intro w' hSw; (try dsimp only at hSw); go_simp; (try (with_reducible rfl)))
          try simp only [List.getElem_toArray, List.getElem_cons_zero, List.getElem_cons_succ, Act.put, List.setIfInBounds_toArray, List.set_cons_zero, List.set_cons_succ]
          refine wpAnyH_take (i := 10) (v := ?_) rfl (by kernel_rfl) (by kernel_rfl) (by kernel_rfl) (fun _ _ _ h => h) (Or.inl ⟨by rfl, ?_⟩) (by assumption) ?_
          rotate_left 1
          · (intro w' hSw; (try dsimp only at hSw); go_simp; (try (with_reducible rfl)))
          try simp only [List.getElem_toArray, List.getElem_cons_zero, List.getElem_cons_succ, Act.put, List.setIfInBounds_toArray, List.set_cons_zero, List.set_cons_succ]
          refine wpAnyH_ready (rs := [11]) (by kernel_rfl) (by simp) ?_
          refine AllReadyH.cons rfl (fun K hK => ?_) AllReadyH.nil
          go_simp
          (go_at_call 42; (refine (counters_any _ L9 HL9.out.2 HL9.out.1 _ (HMd.out _)).mono ?_); rintro e w8 ⟨⟨vr, rfl, hrow⟩, hb8⟩; have HB8 : Hid (Below (w.heap.size + 2) W0 w8) := Lib.hid ((HDw.out _).trans (hb8.mono (by have := (HDw.out 0).size; simp at this ⊢; omega))); obtain ⟨A9, c9, rfl, hA1, hA2, hCR⟩ := SlV.own hrow; have HR8 := Lib.hid (And.intro hA1 (And.intro hA2 hCR)); obtain ⟨d0, d1, d2, d3⟩ := HCell.out _ HB8.out; clear hrow hb8 hA1 hA2 hCR)
          try go_wp2_with fail
          refine hK.out _ _ ?_ (fun hHeld => ?_)
          · (try dsimp only); exact ⟨d0, d1, d2⟩
          clear hK K
          try simp only [List.getElem_toArray, List.getElem_cons_zero, List.getElem_cons_succ, Act.put, List.setIfInBounds_toArray, List.set_cons_zero, List.set_cons_succ]
          refine wpAnyH_take (i := 12) (v := ?_) rfl (by kernel_rfl) (by kernel_rfl) (by kernel_rfl) (fun _ _ _ h => h) (Or.inl ⟨by rfl, ?_⟩) (by assumption) ?_
          rotate_left 1
          · (intro w' hSw; (try dsimp only at hSw); go_simp; (try (with_reducible rfl)))
          try simp only [List.getElem_toArray, List.getElem_cons_zero, List.getElem_cons_succ, Act.put, List.setIfInBounds_toArray, List.set_cons_zero, List.set_cons_succ]
          refine wpAnyH_ready (rs := [13]) (by kernel_rfl) (by simp) ?_
          refine AllReadyH.cons rfl (fun K hK => ?_) AllReadyH.nil
          rw [if_pos (by rfl)]
          refine wp_store_row 24 _ _ rfl (w.heap.size + 1) #[.int .i64 mo, .int .i64 (to + n), .int .i64 (lo), .slice A9 L9.length c9] rfl rfl 24 _ (HOut.out _ HB8.out) HSb.out rfl (by simp [Value.oneCell']) ?_
          refine hK.out _ _ ?_ (fun hHeld => ?_)
          · (try dsimp only); exact ⟨(cell_setRow_other _ _ _ _ (by show w.heap.size ≠ w.heap.size + 1; omega)).trans d0, (cell_setRow_other _ _ _ _ (by show w.heap.size ≠ w.heap.size + 1; omega)).trans d1, (cell_setRow_other _ _ _ _ (by show w.heap.size ≠ w.heap.size + 1; omega)).trans d2⟩
          clear hK K
          try simp only [List.getElem_toArray, List.getElem_cons_zero, List.getElem_cons_succ, Act.put]
          refine wpAnyH_take (i := 14) (v := ?_) rfl (by kernel_rfl) (by kernel_rfl) (by kernel_rfl) (fun _ _ _ h => h) (Or.inl ⟨by rfl, ?_⟩) (by assumption) ?_
          rotate_left 1
          · (intro w' hSw; (try dsimp only at hSw); go_simp; (try (with_reducible rfl)))
          try simp only [List.getElem_toArray, List.getElem_cons_zero, List.getElem_cons_succ, Act.put, List.setIfInBounds_toArray, List.set_cons_zero, List.set_cons_succ]
          refine wpAnyH_done (by kernel_rfl) ?_ _

          have ho := setRow_heap w8 (w.heap.size + 1) _ #[.int .i64 mo, .int .i64 (to + n), .int .i64 (lo), .slice A9 L9.length c9] _ _ (HOut.out _ HB8.out)
          have hB9 : Below w.heap.size w (w8.setRow (w.heap.size + 1) #[.int .i64 mo, .int .i64 (to + n), .int .i64 (lo), .slice A9 L9.length c9]) := below_setRow (HB0.out.trans (HB8.out.mono (by omega))) (by omega)
          have k0 := cell_of_row _ _ 0 _ _ _ ho
          have k1 := cell_of_row _ _ 1 _ _ _ ho
          have k2 := cell_of_row _ _ 2 _ _ _ ho
          have k3 := cell_of_row _ _ 3 _ _ _ ho
          simp at k0 k1 k2 k3
          have HR9 : Hid (CR (w8.setRow (w.heap.size + 1) #[.int .i64 mo, .int .i64 (to + n), .int .i64 (lo), .slice A9 L9.length c9]) A9 L9) := Lib.hid (HR8.out.2.2.keep (fun b cs2 h1 => setRow_other _ _ _ _ (fun e => by
            subst e
            rw [HOut.out _ HB8.out] at h1
            injection h1 with h1
            injection h1 with _ h1
            exact absurd h1 (by decide))))
          go_wp2_with fail
          refine bodyPost_ret (v := .tuple #[.agg #[.int .i64 mo, .int .i64 (to + n), .int .i64 (lo), .slice A9 L9.length c9], .int .i64 0]) ?_ rfl ⟨⟨_, by rw [HX9.out], ?_⟩, hB9⟩
          · rw [results_cell_tmp1 rfl]; go_simp <;> rfl
          · rw [HX9.out]; exact ⟨_, rfl, A9, c9, rfl, HR8.out.1, HR8.out.2.1, HR9.out⟩
        · have HH : Hid (decide (hs cs k) = false) := Lib.hid (decide_eq_false hh)
          by_cases hmo : mo ≤ (len : Int)
          · have d3 : decide (mo ≤ (len : Int)) = true := by simpa using hmo
            have hd0 := leC_nn HF.out.1 (n := n) (by omega)
            have hd1 := leC_le cs n
            have HADS0 : Hid (adS ⟨mo, to, lo, cs⟩ k n = ⟨mo, to + n, lo + leC cs n, if leC cs n < n then adC (loC cs (leC cs n)) k (n - leC cs n) else loC cs (leC cs n)⟩) := Lib.hid (by unfold adS; rw [if_pos ⟨hh, by rw [← HLen.out]; exact hmo⟩])
            have HNh : Hid (¬ hs (loC cs (leC cs n)) k) := Lib.hid (fun h => hh (hs_loC h))
            clear hh
            obtain ⟨d, hd⟩ : ∃ d, d = leC cs n := ⟨_, rfl⟩
            rw [← hd] at hd0 hd1 HADS0 HNh HLe
            clear hd
            go_wp2_with (first
              | (at_lookup; refine wpList_get_okv rfl _ _ rfl g cs rfl HM2.out k (by omega) rfl x HGx.out false HH.out ?_))
            refine (HLe.out _ (HRd.out _ HB2.out)).mono ?_
            rintro e w3 ⟨rfl, hb3⟩
            have HB3 : Hid (Below (w.heap.size + 2) W0 w3) := Lib.hid (HB2.out.trans (hb3.mono (by have := HB2.out.size; omega)))
            have HM3 := Lib.hid (HM2.out.below hb3)
            clear hb3 hlen2 c0 c1 c2 c3
            obtain ⟨c0, c1, c2, c3⟩ := HCell.out _ HB3.out
            go_wp2_with fail
            refine (HLo.out d ⟨hd0, by omega⟩ g _ HM3.out).mono ?_
            rintro e w4 ⟨rfl, hm4, hb4⟩
            have HB4 : Hid (Below (w.heap.size + 2) W0 w4) := Lib.hid (HB3.out.trans (hb4.mono hgl))
            have HM4 := Lib.hid hm4
            clear hb4 hm4 c0 c1 c2 c3
            obtain ⟨c0, c1, c2, c3⟩ := HCell.out _ HB4.out
            have HGy := Lib.hid (gt_none HNh.out)
            have hl4 : (loC cs d).length ≤ 100000 := Nat.le_trans (len_loC _ _) hl5
            have hwd : IntKind.i64.wrap (n - d) = n - d := by simp only [IntKind.wrap_i64]; omega
            have hld : lo + d ≤ 2305843009213693952 := by omega
            by_cases hdn : d < n
            · have d4 : decide (d < n) = true := by simpa using hdn
              have HADS : Hid (adS ⟨mo, to, lo, cs⟩ k n = ⟨mo, to + n, lo + d, adC (loC cs d) k (n - d)⟩) := Lib.hid (by rw [HADS0.out, if_pos hdn])
              obtain ⟨y, hy⟩ : ∃ y, gt (loC cs d) k = y := ⟨_, rfl⟩
              have HGz := Lib.hid hy
              have hy0 : y = 0 := by rw [← hy]; exact HGy.out
              clear hy
              have hwy : IntKind.i64.wrap (y + (n - d)) = y + (n - d) := by simp only [IntKind.wrap_i64]; omega
              have HY0 := Lib.hid hy0
              clear hy0
              have hyb : -9223372036854775808 ≤ y + (n - d) ∧ y + (n - d) ≤ 9223372036854775807 := by have := HY0.out; omega
              go_wp2_with (first
                | (at_lookup; refine wpList_getv rfl _ _ rfl g (loC cs d) rfl HM4.out k (by omega) rfl y HGz.out ?_)
                | (at_mapUpdate; refine wpList_set rfl _ _ _ rfl g (loC cs d) rfl HM4.out (by omega) k (by omega) rfl (y + (n - d)) hyb (by first | rfl | go_num) ?_; intro w5 hm5 hg5; have HMM : Hid (Hm w5 g (adC (loC cs d) k (n - d))) := Lib.hid (by rw [adC, HGz.out]; exact hm5); have HBT := Lib.hid (below_turn HB4.out hg5 hgl (by omega)); clear hm5 hg5))
              obtain ⟨L9, hL9⟩ : ∃ L9, L9 = adC (loC cs d) k (n - d) := ⟨_, rfl⟩
              rw [← hL9] at HMM
              have HX9 : Hid (X = (⟨mo, to + n, lo + d, L9⟩, 0)) := Lib.hid (by rw [HAX.out, HADS.out, hL9])
              have HL9 : Hid (L9.length ≤ 1000000 ∧ ∀ p ∈ L9, p.1.size ≤ 1000) := Lib.hid (by rw [hL9]; exact ks_adC (sd_loC HS.out d) hl4 (ks_loC HF.out.2.2.1 d) k hk (n - d))
              clear hL9
              have HDw : Hid (∀ n, Below (w.heap.size + 2) W0 (w5.drewN n)) := Lib.hid (fun n => below_drewN HBT.out n)
              have HMd : Hid (∀ n, Hm (w5.drewN n) g L9) := Lib.hid (fun n => HMM.out)
              have hwA : IntKind.i64.wrap (to + n) = to + n := by simp only [IntKind.wrap_i64]; omega
              have hwB : IntKind.i64.wrap (lo + d) = lo + d := by simp only [IntKind.wrap_i64]; omega
              refine wp_region_held_drew (S := fun W => W.cell? ⟨w.heap.size, 0, none⟩ = some (.int .i64 mo) ∧ W.cell? ⟨w.heap.size, 1, none⟩ = some (.int .i64 to) ∧ W.cell? ⟨w.heap.size, 2, none⟩ = some (.int .i64 lo)) (by kernel_rfl) ?_ (fun hHeld => ?_)
              · (try dsimp only); exact ⟨(HCell.out _ (HDw.out _)).1, (HCell.out _ (HDw.out _)).2.1, (HCell.out _ (HDw.out _)).2.2.1⟩
              try simp only [Act.put]
              refine wpAnyH_take (i := 0) (v := ?_) rfl (by kernel_rfl) (by kernel_rfl) (by kernel_rfl) (fun _ _ _ h => h) (Or.inl ⟨by rfl, ?_⟩) (by assumption) ?_
              rotate_left 1
              · (intro w' hSw; (try dsimp only at hSw); go_simp; (try (with_reducible rfl)))
              try simp only [List.getElem_toArray, List.getElem_cons_zero, Act.put, List.setIfInBounds_toArray, List.set_cons_zero, List.set_cons_succ]
              refine wpAnyH_take (i := 1) (v := ?_) rfl (by kernel_rfl) (by kernel_rfl) (by kernel_rfl) (fun _ _ _ h => h) (Or.inl ⟨by rfl, ?_⟩) (by assumption) ?_
              rotate_left 1
              · (intro w' hSw; (try dsimp only at hSw); go_simp; (try (with_reducible rfl)))
              try simp only [List.getElem_toArray, List.getElem_cons_zero, List.getElem_cons_succ, Act.put, List.setIfInBounds_toArray, List.set_cons_zero, List.set_cons_succ]
              refine wpAnyH_take (i := 2) (v := ?_) rfl (by kernel_rfl) (by kernel_rfl) (by kernel_rfl) (fun _ _ _ h => h) (Or.inl ⟨by rfl, ?_⟩) (by assumption) ?_
              rotate_left 1
              · (intro w' hSw; (try dsimp only at hSw); go_simp; (try (with_reducible rfl)))
              try simp only [List.getElem_toArray, List.getElem_cons_zero, List.getElem_cons_succ, Act.put, List.setIfInBounds_toArray, List.set_cons_zero, List.set_cons_succ]
              refine wpAnyH_take (i := 3) (v := ?_) rfl (by kernel_rfl) (by kernel_rfl) (by kernel_rfl) (fun _ _ _ h => h) (Or.inl ⟨by rfl, ?_⟩) (by assumption) ?_
              rotate_left 1
              · (intro w' hSw; (try dsimp only at hSw); go_simp; (try (with_reducible rfl)))
              try simp only [List.getElem_toArray, List.getElem_cons_zero, List.getElem_cons_succ, Act.put, List.setIfInBounds_toArray, List.set_cons_zero, List.set_cons_succ]
              refine wpAnyH_take (i := 4) (v := ?_) rfl (by kernel_rfl) (by kernel_rfl) (by kernel_rfl) (fun _ _ _ h => h) (Or.inl ⟨by rfl, ?_⟩) (by assumption) ?_
              rotate_left 1
              · (intro w' hSw; (try dsimp only at hSw); go_simp; (try (with_reducible rfl)))
              try simp only [List.getElem_toArray, List.getElem_cons_zero, List.getElem_cons_succ, Act.put, List.setIfInBounds_toArray, List.set_cons_zero, List.set_cons_succ]
              refine wpAnyH_take (i := 5) (v := ?_) rfl (by kernel_rfl) (by kernel_rfl) (by kernel_rfl) (fun _ _ _ h => h) (Or.inl ⟨by rfl, ?_⟩) (by assumption) ?_
              rotate_left 1
              · (intro w' hSw; (try dsimp only at hSw); go_simp; (try (with_reducible rfl)))
              try simp only [List.getElem_toArray, List.getElem_cons_zero, List.getElem_cons_succ, Act.put, List.setIfInBounds_toArray, List.set_cons_zero, List.set_cons_succ]
              refine wpAnyH_take (i := 6) (v := ?_) rfl (by kernel_rfl) (by kernel_rfl) (by kernel_rfl) (fun _ _ _ h => h) (Or.inl ⟨by rfl, ?_⟩) (by assumption) ?_
              rotate_left 1
              · (intro w' hSw; (try dsimp only at hSw); go_simp; (try (with_reducible rfl)))
              try simp only [List.getElem_toArray, List.getElem_cons_zero, List.getElem_cons_succ, Act.put, List.setIfInBounds_toArray, List.set_cons_zero, List.set_cons_succ]
              refine wpAnyH_take (i := 7) (v := ?_) rfl (by kernel_rfl) (by kernel_rfl) (by kernel_rfl) (fun _ _ _ h => h) (Or.inl ⟨by rfl, ?_⟩) (by assumption) ?_
              rotate_left 1
              · (intro w' hSw; (try dsimp only at hSw); go_simp; (try (with_reducible rfl)))
              try simp only [List.getElem_toArray, List.getElem_cons_zero, List.getElem_cons_succ, Act.put, List.setIfInBounds_toArray, List.set_cons_zero, List.set_cons_succ]
              refine wpAnyH_take (i := 8) (v := ?_) rfl (by kernel_rfl) (by kernel_rfl) (by kernel_rfl) (fun _ _ _ h => h) (Or.inl ⟨by rfl, ?_⟩) (by assumption) ?_
              rotate_left 1
              · (intro w' hSw; (try dsimp only at hSw); go_simp; (try (with_reducible rfl)))
              try simp only [List.getElem_toArray, List.getElem_cons_zero, List.getElem_cons_succ, Act.put, List.setIfInBounds_toArray, List.set_cons_zero, List.set_cons_succ]
              refine wpAnyH_take (i := 9) (v := ?_) rfl (by kernel_rfl) (by kernel_rfl) (by kernel_rfl) (fun _ _ _ h => h) (Or.inl ⟨by rfl, ?_⟩) (by assumption) ?_
              rotate_left 1
              · (intro w' hSw; (try dsimp only at hSw); go_simp; (try (with_reducible rfl)))
              try simp only [List.getElem_toArray, List.getElem_cons_zero, List.getElem_cons_succ, Act.put, List.setIfInBounds_toArray, List.set_cons_zero, List.set_cons_succ]
              refine wpAnyH_take (i := 10) (v := ?_) rfl (by kernel_rfl) (by kernel_rfl) (by kernel_rfl) (fun _ _ _ h => h) (Or.inl ⟨by rfl, ?_⟩) (by assumption) ?_
              rotate_left 1
              · (intro w' hSw; (try dsimp only at hSw); go_simp; (try (with_reducible rfl)))
              try simp only [List.getElem_toArray, List.getElem_cons_zero, List.getElem_cons_succ, Act.put, List.setIfInBounds_toArray, List.set_cons_zero, List.set_cons_succ]
              refine wpAnyH_ready (rs := [11]) (by kernel_rfl) (by simp) ?_
              refine AllReadyH.cons rfl (fun K hK => ?_) AllReadyH.nil
              go_simp
              (go_at_call 42; (refine (counters_any _ L9 HL9.out.2 HL9.out.1 _ (HMd.out _)).mono ?_); rintro e w8 ⟨⟨vr, rfl, hrow⟩, hb8⟩; have HB8 : Hid (Below (w.heap.size + 2) W0 w8) := Lib.hid ((HDw.out _).trans (hb8.mono (by have := (HDw.out 0).size; simp at this ⊢; omega))); obtain ⟨A9, c9, rfl, hA1, hA2, hCR⟩ := SlV.own hrow; have HR8 := Lib.hid (And.intro hA1 (And.intro hA2 hCR)); obtain ⟨d0, d1, d2, d3⟩ := HCell.out _ HB8.out; clear hrow hb8 hA1 hA2 hCR)
              try go_wp2_with fail
              refine hK.out _ _ ?_ (fun hHeld => ?_)
              · (try dsimp only); exact ⟨d0, d1, d2⟩
              clear hK K
              try simp only [List.getElem_toArray, List.getElem_cons_zero, List.getElem_cons_succ, Act.put, List.setIfInBounds_toArray, List.set_cons_zero, List.set_cons_succ]
              refine wpAnyH_take (i := 12) (v := ?_) rfl (by kernel_rfl) (by kernel_rfl) (by kernel_rfl) (fun _ _ _ h => h) (Or.inl ⟨by rfl, ?_⟩) (by assumption) ?_
              rotate_left 1
              · (intro w' hSw; (try dsimp only at hSw); go_simp; (try (with_reducible rfl)))
              try simp only [List.getElem_toArray, List.getElem_cons_zero, List.getElem_cons_succ, Act.put, List.setIfInBounds_toArray, List.set_cons_zero, List.set_cons_succ]
              refine wpAnyH_ready (rs := [13]) (by kernel_rfl) (by simp) ?_
              refine AllReadyH.cons rfl (fun K hK => ?_) AllReadyH.nil
              rw [if_pos (by rfl)]
              refine wp_store_row 24 _ _ rfl (w.heap.size + 1) #[.int .i64 mo, .int .i64 (to + n), .int .i64 (lo + d), .slice A9 L9.length c9] rfl rfl 24 _ (HOut.out _ HB8.out) HSb.out rfl (by simp [Value.oneCell']) ?_
              refine hK.out _ _ ?_ (fun hHeld => ?_)
              · (try dsimp only); exact ⟨(cell_setRow_other _ _ _ _ (by show w.heap.size ≠ w.heap.size + 1; omega)).trans d0, (cell_setRow_other _ _ _ _ (by show w.heap.size ≠ w.heap.size + 1; omega)).trans d1, (cell_setRow_other _ _ _ _ (by show w.heap.size ≠ w.heap.size + 1; omega)).trans d2⟩
              clear hK K
              try simp only [List.getElem_toArray, List.getElem_cons_zero, List.getElem_cons_succ, Act.put]
              refine wpAnyH_take (i := 14) (v := ?_) rfl (by kernel_rfl) (by kernel_rfl) (by kernel_rfl) (fun _ _ _ h => h) (Or.inl ⟨by rfl, ?_⟩) (by assumption) ?_
              rotate_left 1
              · (intro w' hSw; (try dsimp only at hSw); go_simp; (try (with_reducible rfl)))
              try simp only [List.getElem_toArray, List.getElem_cons_zero, List.getElem_cons_succ, Act.put, List.setIfInBounds_toArray, List.set_cons_zero, List.set_cons_succ]
              refine wpAnyH_done (by kernel_rfl) ?_ _

              have ho := setRow_heap w8 (w.heap.size + 1) _ #[.int .i64 mo, .int .i64 (to + n), .int .i64 (lo + d), .slice A9 L9.length c9] _ _ (HOut.out _ HB8.out)
              have hB9 : Below w.heap.size w (w8.setRow (w.heap.size + 1) #[.int .i64 mo, .int .i64 (to + n), .int .i64 (lo + d), .slice A9 L9.length c9]) := below_setRow (HB0.out.trans (HB8.out.mono (by omega))) (by omega)
              have k0 := cell_of_row _ _ 0 _ _ _ ho
              have k1 := cell_of_row _ _ 1 _ _ _ ho
              have k2 := cell_of_row _ _ 2 _ _ _ ho
              have k3 := cell_of_row _ _ 3 _ _ _ ho
              simp at k0 k1 k2 k3
              have HR9 : Hid (CR (w8.setRow (w.heap.size + 1) #[.int .i64 mo, .int .i64 (to + n), .int .i64 (lo + d), .slice A9 L9.length c9]) A9 L9) := Lib.hid (HR8.out.2.2.keep (fun b cs2 h1 => setRow_other _ _ _ _ (fun e => by
                subst e
                rw [HOut.out _ HB8.out] at h1
                injection h1 with h1
                injection h1 with _ h1
                exact absurd h1 (by decide))))
              go_wp2_with fail
              refine bodyPost_ret (v := .tuple #[.agg #[.int .i64 mo, .int .i64 (to + n), .int .i64 (lo + d), .slice A9 L9.length c9], .int .i64 0]) ?_ rfl ⟨⟨_, by rw [HX9.out], ?_⟩, hB9⟩
              · rw [results_cell_tmp1 rfl]; go_simp <;> rfl
              · rw [HX9.out]; exact ⟨_, rfl, A9, c9, rfl, HR8.out.1, HR8.out.2.1, HR9.out⟩
            · have d4 : decide (d < n) = false := by simpa using hdn
              have HADS : Hid (adS ⟨mo, to, lo, cs⟩ k n = ⟨mo, to + n, lo + d, loC cs d⟩) := Lib.hid (by rw [HADS0.out, if_neg hdn])
              have HMM := HM4
              have HBT := HB4
              go_wp2_with fail
              obtain ⟨L9, hL9⟩ : ∃ L9, L9 = loC cs d := ⟨_, rfl⟩
              rw [← hL9] at HMM
              have HX9 : Hid (X = (⟨mo, to + n, lo + d, L9⟩, 0)) := Lib.hid (by rw [HAX.out, HADS.out, hL9])
              have HL9 : Hid (L9.length ≤ 1000000 ∧ ∀ p ∈ L9, p.1.size ≤ 1000) := Lib.hid (by rw [hL9]; exact ⟨by omega, ks_loC HF.out.2.2.1 d⟩)
              clear hL9
              have HDw : Hid (∀ n, Below (w.heap.size + 2) W0 (w4.drewN n)) := Lib.hid (fun n => below_drewN HBT.out n)
              have HMd : Hid (∀ n, Hm (w4.drewN n) g L9) := Lib.hid (fun n => HMM.out)
              have hwA : IntKind.i64.wrap (to + n) = to + n := by simp only [IntKind.wrap_i64]; omega
              have hwB : IntKind.i64.wrap (lo + d) = lo + d := by simp only [IntKind.wrap_i64]; omega
              refine wp_region_held_drew (S := fun W => W.cell? ⟨w.heap.size, 0, none⟩ = some (.int .i64 mo) ∧ W.cell? ⟨w.heap.size, 1, none⟩ = some (.int .i64 to) ∧ W.cell? ⟨w.heap.size, 2, none⟩ = some (.int .i64 lo)) (by kernel_rfl) ?_ (fun hHeld => ?_)
              · (try dsimp only); exact ⟨(HCell.out _ (HDw.out _)).1, (HCell.out _ (HDw.out _)).2.1, (HCell.out _ (HDw.out _)).2.2.1⟩
              try simp only [List.getElem_toArray, List.getElem_cons_zero, List.getElem_cons_succ, Act.put, List.setIfInBounds_toArray, List.set_cons_zero, List.set_cons_succ]
              refine wpAnyH_take (i := 0) (v := ?_) rfl (by kernel_rfl) (by kernel_rfl) (by kernel_rfl) (fun _ _ _ h => h) (Or.inl ⟨by rfl, ?_⟩) (by assumption) ?_
              rotate_left 1
              · (intro w' hSw; (try dsimp only at hSw); go_simp; (try (with_reducible rfl)))
              try simp only [List.getElem_toArray, List.getElem_cons_zero, Act.put, List.setIfInBounds_toArray, List.set_cons_zero, List.set_cons_succ]
              refine wpAnyH_take (i := 1) (v := ?_) rfl (by kernel_rfl) (by kernel_rfl) (by kernel_rfl) (fun _ _ _ h => h) (Or.inl ⟨by rfl, ?_⟩) (by assumption) ?_
              rotate_left 1
              · (intro w' hSw; (try dsimp only at hSw); go_simp; (try (with_reducible rfl)))
              try simp only [List.getElem_toArray, List.getElem_cons_zero, List.getElem_cons_succ, Act.put, List.setIfInBounds_toArray, List.set_cons_zero, List.set_cons_succ]
              refine wpAnyH_take (i := 2) (v := ?_) rfl (by kernel_rfl) (by kernel_rfl) (by kernel_rfl) (fun _ _ _ h => h) (Or.inl ⟨by rfl, ?_⟩) (by assumption) ?_
              rotate_left 1
              · (intro w' hSw; (try dsimp only at hSw); go_simp; (try (with_reducible rfl)))
              try simp only [List.getElem_toArray, List.getElem_cons_zero, List.getElem_cons_succ, Act.put, List.setIfInBounds_toArray, List.set_cons_zero, List.set_cons_succ]
              refine wpAnyH_take (i := 3) (v := ?_) rfl (by kernel_rfl) (by kernel_rfl) (by kernel_rfl) (fun _ _ _ h => h) (Or.inl ⟨by rfl, ?_⟩) (by assumption) ?_
              rotate_left 1
              · (intro w' hSw; (try dsimp only at hSw); go_simp; (try (with_reducible rfl)))
              try simp only [List.getElem_toArray, List.getElem_cons_zero, List.getElem_cons_succ, Act.put, List.setIfInBounds_toArray, List.set_cons_zero, List.set_cons_succ]
              refine wpAnyH_take (i := 4) (v := ?_) rfl (by kernel_rfl) (by kernel_rfl) (by kernel_rfl) (fun _ _ _ h => h) (Or.inl ⟨by rfl, ?_⟩) (by assumption) ?_
              rotate_left 1
              · (intro w' hSw; (try dsimp only at hSw); go_simp; (try (with_reducible rfl)))
              try simp only [List.getElem_toArray, List.getElem_cons_zero, List.getElem_cons_succ, Act.put, List.setIfInBounds_toArray, List.set_cons_zero, List.set_cons_succ]
              refine wpAnyH_take (i := 5) (v := ?_) rfl (by kernel_rfl) (by kernel_rfl) (by kernel_rfl) (fun _ _ _ h => h) (Or.inl ⟨by rfl, ?_⟩) (by assumption) ?_
              rotate_left 1
              · (intro w' hSw; (try dsimp only at hSw); go_simp; (try (with_reducible rfl)))
              try simp only [List.getElem_toArray, List.getElem_cons_zero, List.getElem_cons_succ, Act.put, List.setIfInBounds_toArray, List.set_cons_zero, List.set_cons_succ]
              refine wpAnyH_take (i := 6) (v := ?_) rfl (by kernel_rfl) (by kernel_rfl) (by kernel_rfl) (fun _ _ _ h => h) (Or.inl ⟨by rfl, ?_⟩) (by assumption) ?_
              rotate_left 1
              · (intro w' hSw; (try dsimp only at hSw); go_simp; (try (with_reducible rfl)))
              try simp only [List.getElem_toArray, List.getElem_cons_zero, List.getElem_cons_succ, Act.put, List.setIfInBounds_toArray, List.set_cons_zero, List.set_cons_succ]
              refine wpAnyH_take (i := 7) (v := ?_) rfl (by kernel_rfl) (by kernel_rfl) (by kernel_rfl) (fun _ _ _ h => h) (Or.inl ⟨by rfl, ?_⟩) (by assumption) ?_
              rotate_left 1
              · (intro w' hSw; (try dsimp only at hSw); go_simp; (try (with_reducible rfl)))
              try simp only [List.getElem_toArray, List.getElem_cons_zero, List.getElem_cons_succ, Act.put, List.setIfInBounds_toArray, List.set_cons_zero, List.set_cons_succ]
              refine wpAnyH_take (i := 8) (v := ?_) rfl (by kernel_rfl) (by kernel_rfl) (by kernel_rfl) (fun _ _ _ h => h) (Or.inl ⟨by rfl, ?_⟩) (by assumption) ?_
              rotate_left 1
              · (intro w' hSw; (try dsimp only at hSw); go_simp; (try (with_reducible rfl)))
              try simp only [List.getElem_toArray, List.getElem_cons_zero, List.getElem_cons_succ, Act.put, List.setIfInBounds_toArray, List.set_cons_zero, List.set_cons_succ]
              refine wpAnyH_take (i := 9) (v := ?_) rfl (by kernel_rfl) (by kernel_rfl) (by kernel_rfl) (fun _ _ _ h => h) (Or.inl ⟨by rfl, ?_⟩) (by assumption) ?_
              rotate_left 1
              · (intro w' hSw; (try dsimp only at hSw); go_simp; (try (with_reducible rfl)))
              try simp only [List.getElem_toArray, List.getElem_cons_zero, List.getElem_cons_succ, Act.put, List.setIfInBounds_toArray, List.set_cons_zero, List.set_cons_succ]
              refine wpAnyH_take (i := 10) (v := ?_) rfl (by kernel_rfl) (by kernel_rfl) (by kernel_rfl) (fun _ _ _ h => h) (Or.inl ⟨by rfl, ?_⟩) (by assumption) ?_
              rotate_left 1
              · (intro w' hSw; (try dsimp only at hSw); go_simp; (try (with_reducible rfl)))
              try simp only [List.getElem_toArray, List.getElem_cons_zero, List.getElem_cons_succ, Act.put, List.setIfInBounds_toArray, List.set_cons_zero, List.set_cons_succ]
              refine wpAnyH_ready (rs := [11]) (by kernel_rfl) (by simp) ?_
              refine AllReadyH.cons rfl (fun K hK => ?_) AllReadyH.nil
              go_simp
              (go_at_call 42; (refine (counters_any _ L9 HL9.out.2 HL9.out.1 _ (HMd.out _)).mono ?_); rintro e w8 ⟨⟨vr, rfl, hrow⟩, hb8⟩; have HB8 : Hid (Below (w.heap.size + 2) W0 w8) := Lib.hid ((HDw.out _).trans (hb8.mono (by have := (HDw.out 0).size; simp at this ⊢; omega))); obtain ⟨A9, c9, rfl, hA1, hA2, hCR⟩ := SlV.own hrow; have HR8 := Lib.hid (And.intro hA1 (And.intro hA2 hCR)); obtain ⟨d0, d1, d2, d3⟩ := HCell.out _ HB8.out; clear hrow hb8 hA1 hA2 hCR)
              try go_wp2_with fail
              refine hK.out _ _ ?_ (fun hHeld => ?_)
              · (try dsimp only); exact ⟨d0, d1, d2⟩
              clear hK K
              try simp only [List.getElem_toArray, List.getElem_cons_zero, List.getElem_cons_succ, Act.put, List.setIfInBounds_toArray, List.set_cons_zero, List.set_cons_succ]
              refine wpAnyH_take (i := 12) (v := ?_) rfl (by kernel_rfl) (by kernel_rfl) (by kernel_rfl) (fun _ _ _ h => h) (Or.inl ⟨by rfl, ?_⟩) (by assumption) ?_
              rotate_left 1
              · (intro w' hSw; (try dsimp only at hSw); go_simp; (try (with_reducible rfl)))
              try simp only [List.getElem_toArray, List.getElem_cons_zero, List.getElem_cons_succ, Act.put, List.setIfInBounds_toArray, List.set_cons_zero, List.set_cons_succ]
              refine wpAnyH_ready (rs := [13]) (by kernel_rfl) (by simp) ?_
              refine AllReadyH.cons rfl (fun K hK => ?_) AllReadyH.nil
              rw [if_pos (by rfl)]
              refine wp_store_row 24 _ _ rfl (w.heap.size + 1) #[.int .i64 mo, .int .i64 (to + n), .int .i64 (lo + d), .slice A9 L9.length c9] rfl rfl 24 _ (HOut.out _ HB8.out) HSb.out rfl (by simp [Value.oneCell']) ?_
              refine hK.out _ _ ?_ (fun hHeld => ?_)
              · (try dsimp only); exact ⟨(cell_setRow_other _ _ _ _ (by show w.heap.size ≠ w.heap.size + 1; omega)).trans d0, (cell_setRow_other _ _ _ _ (by show w.heap.size ≠ w.heap.size + 1; omega)).trans d1, (cell_setRow_other _ _ _ _ (by show w.heap.size ≠ w.heap.size + 1; omega)).trans d2⟩
              clear hK K
              try simp only [List.getElem_toArray, List.getElem_cons_zero, List.getElem_cons_succ, Act.put]
              refine wpAnyH_take (i := 14) (v := ?_) rfl (by kernel_rfl) (by kernel_rfl) (by kernel_rfl) (fun _ _ _ h => h) (Or.inl ⟨by rfl, ?_⟩) (by assumption) ?_
              rotate_left 1
              · (intro w' hSw; (try dsimp only at hSw); go_simp; (try (with_reducible rfl)))
              try simp only [List.getElem_toArray, List.getElem_cons_zero, List.getElem_cons_succ, Act.put, List.setIfInBounds_toArray, List.set_cons_zero, List.set_cons_succ]
              refine wpAnyH_done (by kernel_rfl) ?_ _

              have ho := setRow_heap w8 (w.heap.size + 1) _ #[.int .i64 mo, .int .i64 (to + n), .int .i64 (lo + d), .slice A9 L9.length c9] _ _ (HOut.out _ HB8.out)
              have hB9 : Below w.heap.size w (w8.setRow (w.heap.size + 1) #[.int .i64 mo, .int .i64 (to + n), .int .i64 (lo + d), .slice A9 L9.length c9]) := below_setRow (HB0.out.trans (HB8.out.mono (by omega))) (by omega)
              have k0 := cell_of_row _ _ 0 _ _ _ ho
              have k1 := cell_of_row _ _ 1 _ _ _ ho
              have k2 := cell_of_row _ _ 2 _ _ _ ho
              have k3 := cell_of_row _ _ 3 _ _ _ ho
              simp at k0 k1 k2 k3
              have HR9 : Hid (CR (w8.setRow (w.heap.size + 1) #[.int .i64 mo, .int .i64 (to + n), .int .i64 (lo + d), .slice A9 L9.length c9]) A9 L9) := Lib.hid (HR8.out.2.2.keep (fun b cs2 h1 => setRow_other _ _ _ _ (fun e => by
                subst e
                rw [HOut.out _ HB8.out] at h1
                injection h1 with h1
                injection h1 with _ h1
                exact absurd h1 (by decide))))
              go_wp2_with fail
              refine bodyPost_ret (v := .tuple #[.agg #[.int .i64 mo, .int .i64 (to + n), .int .i64 (lo + d), .slice A9 L9.length c9], .int .i64 0]) ?_ rfl ⟨⟨_, by rw [HX9.out], ?_⟩, hB9⟩
              · rw [results_cell_tmp1 rfl]; go_simp <;> rfl
              · rw [HX9.out]; exact ⟨_, rfl, A9, c9, rfl, HR8.out.1, HR8.out.2.1, HR9.out⟩
          · have d3 : decide (mo ≤ (len : Int)) = false := by simpa using hmo
            have HADS : Hid (adS ⟨mo, to, lo, cs⟩ k n = ⟨mo, to + n, lo, adC cs k n⟩) := Lib.hid (by unfold adS; rw [if_neg (fun h => hmo (by rw [HLen.out]; exact h.2))])
            clear hh
            have d5 : decide (0 < n) = true := by simp; omega
            go_wp2_with (first
              | (at_lookup; refine wpList_get_okv rfl _ _ rfl g cs rfl HM2.out k (by omega) rfl x HGx.out false HH.out ?_)
              | (at_lookup; refine wpList_getv rfl _ _ rfl g cs rfl HM2.out k (by omega) rfl x HGx.out ?_)
              | (at_mapUpdate; refine wpList_set rfl _ _ _ rfl g cs rfl HM2.out hcl k (by omega) rfl (x + n) (by omega) (by first | rfl | go_num) ?_; intro w3 hm3 hg3; have HMM : Hid (Hm w3 g (adC cs k n)) := Lib.hid (by rw [adC, HGx.out]; exact hm3); have HBT := Lib.hid (below_turn HB2.out hg3 hgl (by omega)); clear hm3 hg3))
            obtain ⟨L9, hL9⟩ : ∃ L9, L9 = adC cs k n := ⟨_, rfl⟩
            rw [← hL9] at HMM
            have HX9 : Hid (X = (⟨mo, to + n, lo, L9⟩, 0)) := Lib.hid (by rw [HAX.out, HADS.out, hL9])
            have HL9 : Hid (L9.length ≤ 1000000 ∧ ∀ p ∈ L9, p.1.size ≤ 1000) := Lib.hid (by rw [hL9]; exact HKs.out)
            clear hL9
            have HDw : Hid (∀ n, Below (w.heap.size + 2) W0 (w3.drewN n)) := Lib.hid (fun n => below_drewN HBT.out n)
            have HMd : Hid (∀ n, Hm (w3.drewN n) g L9) := Lib.hid (fun n => HMM.out)
            have hwA : IntKind.i64.wrap (to + n) = to + n := by simp only [IntKind.wrap_i64]; omega
            have hwB : IntKind.i64.wrap (lo) = lo := by simp only [IntKind.wrap_i64]; omega
            refine wp_region_held_drew (S := fun W => W.cell? ⟨w.heap.size, 0, none⟩ = some (.int .i64 mo) ∧ W.cell? ⟨w.heap.size, 1, none⟩ = some (.int .i64 to) ∧ W.cell? ⟨w.heap.size, 2, none⟩ = some (.int .i64 lo)) (by kernel_rfl) ?_ (fun hHeld => ?_)
            · (try dsimp only); exact ⟨(HCell.out _ (HDw.out _)).1, (HCell.out _ (HDw.out _)).2.1, (HCell.out _ (HDw.out _)).2.2.1⟩
            try simp only [Act.put]
            refine wpAnyH_take (i := 0) (v := ?_) rfl (by kernel_rfl) (by kernel_rfl) (by kernel_rfl) (fun _ _ _ h => h) (Or.inl ⟨by rfl, ?_⟩) (by assumption) ?_
            rotate_left 1
            · (intro w' hSw; (try dsimp only at hSw); go_simp; (try (with_reducible rfl)))
            try simp only [List.getElem_toArray, List.getElem_cons_zero, Act.put, List.setIfInBounds_toArray, List.set_cons_zero, List.set_cons_succ]
            refine wpAnyH_take (i := 1) (v := ?_) rfl (by kernel_rfl) (by kernel_rfl) (by kernel_rfl) (fun _ _ _ h => h) (Or.inl ⟨by rfl, ?_⟩) (by assumption) ?_
            rotate_left 1
            · (intro w' hSw; (try dsimp only at hSw); go_simp; (try (with_reducible rfl)))
            try simp only [List.getElem_toArray, List.getElem_cons_zero, List.getElem_cons_succ, Act.put, List.setIfInBounds_toArray, List.set_cons_zero, List.set_cons_succ]
            refine wpAnyH_take (i := 2) (v := ?_) rfl (by kernel_rfl) (by kernel_rfl) (by kernel_rfl) (fun _ _ _ h => h) (Or.inl ⟨by rfl, ?_⟩) (by assumption) ?_
            rotate_left 1
            · (intro w' hSw; (try dsimp only at hSw); go_simp; (try (with_reducible rfl)))
            try simp only [List.getElem_toArray, List.getElem_cons_zero, List.getElem_cons_succ, Act.put, List.setIfInBounds_toArray, List.set_cons_zero, List.set_cons_succ]
            refine wpAnyH_take (i := 3) (v := ?_) rfl (by kernel_rfl) (by kernel_rfl) (by kernel_rfl) (fun _ _ _ h => h) (Or.inl ⟨by rfl, ?_⟩) (by assumption) ?_
            rotate_left 1
            · (intro w' hSw; (try dsimp only at hSw); go_simp; (try (with_reducible rfl)))
            try simp only [List.getElem_toArray, List.getElem_cons_zero, List.getElem_cons_succ, Act.put, List.setIfInBounds_toArray, List.set_cons_zero, List.set_cons_succ]
            refine wpAnyH_take (i := 4) (v := ?_) rfl (by kernel_rfl) (by kernel_rfl) (by kernel_rfl) (fun _ _ _ h => h) (Or.inl ⟨by rfl, ?_⟩) (by assumption) ?_
            rotate_left 1
            · (intro w' hSw; (try dsimp only at hSw); go_simp; (try (with_reducible rfl)))
            try simp only [List.getElem_toArray, List.getElem_cons_zero, List.getElem_cons_succ, Act.put, List.setIfInBounds_toArray, List.set_cons_zero, List.set_cons_succ]
            refine wpAnyH_take (i := 5) (v := ?_) rfl (by kernel_rfl) (by kernel_rfl) (by kernel_rfl) (fun _ _ _ h => h) (Or.inl ⟨by rfl, ?_⟩) (by assumption) ?_
            rotate_left 1
            · (intro w' hSw; (try dsimp only at hSw); go_simp; (try (with_reducible rfl)))
            try simp only [List.getElem_toArray, List.getElem_cons_zero, List.getElem_cons_succ, Act.put, List.setIfInBounds_toArray, List.set_cons_zero, List.set_cons_succ]
            refine wpAnyH_take (i := 6) (v := ?_) rfl (by kernel_rfl) (by kernel_rfl) (by kernel_rfl) (fun _ _ _ h => h) (Or.inl ⟨by rfl, ?_⟩) (by assumption) ?_
            rotate_left 1
            · (intro w' hSw; (try dsimp only at hSw); go_simp; (try (with_reducible rfl)))
            try simp only [List.getElem_toArray, List.getElem_cons_zero, List.getElem_cons_succ, Act.put, List.setIfInBounds_toArray, List.set_cons_zero, List.set_cons_succ]
            refine wpAnyH_take (i := 7) (v := ?_) rfl (by kernel_rfl) (by kernel_rfl) (by kernel_rfl) (fun _ _ _ h => h) (Or.inl ⟨by rfl, ?_⟩) (by assumption) ?_
            rotate_left 1
            · (intro w' hSw; (try dsimp only at hSw); go_simp; (try (with_reducible rfl)))
            try simp only [List.getElem_toArray, List.getElem_cons_zero, List.getElem_cons_succ, Act.put, List.setIfInBounds_toArray, List.set_cons_zero, List.set_cons_succ]
            refine wpAnyH_take (i := 8) (v := ?_) rfl (by kernel_rfl) (by kernel_rfl) (by kernel_rfl) (fun _ _ _ h => h) (Or.inl ⟨by rfl, ?_⟩) (by assumption) ?_
            rotate_left 1
            · (intro w' hSw; (try dsimp only at hSw); go_simp; (try (with_reducible rfl)))
            try simp only [List.getElem_toArray, List.getElem_cons_zero, List.getElem_cons_succ, Act.put, List.setIfInBounds_toArray, List.set_cons_zero, List.set_cons_succ]
            refine wpAnyH_take (i := 9) (v := ?_) rfl (by kernel_rfl) (by kernel_rfl) (by kernel_rfl) (fun _ _ _ h => h) (Or.inl ⟨by rfl, ?_⟩) (by assumption) ?_
            rotate_left 1
            · (intro w' hSw; (try dsimp only at hSw); go_simp; (try (with_reducible rfl)))
            try simp only [List.getElem_toArray, List.getElem_cons_zero, List.getElem_cons_succ, Act.put, List.setIfInBounds_toArray, List.set_cons_zero, List.set_cons_succ]
            refine wpAnyH_take (i := 10) (v := ?_) rfl (by kernel_rfl) (by kernel_rfl) (by kernel_rfl) (fun _ _ _ h => h) (Or.inl ⟨by rfl, ?_⟩) (by assumption) ?_
            rotate_left 1
            · (intro w' hSw; (try dsimp only at hSw); go_simp; (try (with_reducible rfl)))
            try simp only [List.getElem_toArray, List.getElem_cons_zero, List.getElem_cons_succ, Act.put, List.setIfInBounds_toArray, List.set_cons_zero, List.set_cons_succ]
            refine wpAnyH_ready (rs := [11]) (by kernel_rfl) (by simp) ?_
            refine AllReadyH.cons rfl (fun K hK => ?_) AllReadyH.nil
            go_simp
            (go_at_call 42; (refine (counters_any _ L9 HL9.out.2 HL9.out.1 _ (HMd.out _)).mono ?_); rintro e w8 ⟨⟨vr, rfl, hrow⟩, hb8⟩; have HB8 : Hid (Below (w.heap.size + 2) W0 w8) := Lib.hid ((HDw.out _).trans (hb8.mono (by have := (HDw.out 0).size; simp at this ⊢; omega))); obtain ⟨A9, c9, rfl, hA1, hA2, hCR⟩ := SlV.own hrow; have HR8 := Lib.hid (And.intro hA1 (And.intro hA2 hCR)); obtain ⟨d0, d1, d2, d3⟩ := HCell.out _ HB8.out; clear hrow hb8 hA1 hA2 hCR)
            try go_wp2_with fail
            refine hK.out _ _ ?_ (fun hHeld => ?_)
            · (try dsimp only); exact ⟨d0, d1, d2⟩
            clear hK K
            try simp only [List.getElem_toArray, List.getElem_cons_zero, List.getElem_cons_succ, Act.put, List.setIfInBounds_toArray, List.set_cons_zero, List.set_cons_succ]
            refine wpAnyH_take (i := 12) (v := ?_) rfl (by kernel_rfl) (by kernel_rfl) (by kernel_rfl) (fun _ _ _ h => h) (Or.inl ⟨by rfl, ?_⟩) (by assumption) ?_
            rotate_left 1
            · (intro w' hSw; (try dsimp only at hSw); go_simp; (try (with_reducible rfl)))
            try simp only [List.getElem_toArray, List.getElem_cons_zero, List.getElem_cons_succ, Act.put, List.setIfInBounds_toArray, List.set_cons_zero, List.set_cons_succ]
            refine wpAnyH_ready (rs := [13]) (by kernel_rfl) (by simp) ?_
            refine AllReadyH.cons rfl (fun K hK => ?_) AllReadyH.nil
            rw [if_pos (by rfl)]
            refine wp_store_row 24 _ _ rfl (w.heap.size + 1) #[.int .i64 mo, .int .i64 (to + n), .int .i64 (lo), .slice A9 L9.length c9] rfl rfl 24 _ (HOut.out _ HB8.out) HSb.out rfl (by simp [Value.oneCell']) ?_
            refine hK.out _ _ ?_ (fun hHeld => ?_)
            · (try dsimp only); exact ⟨(cell_setRow_other _ _ _ _ (by show w.heap.size ≠ w.heap.size + 1; omega)).trans d0, (cell_setRow_other _ _ _ _ (by show w.heap.size ≠ w.heap.size + 1; omega)).trans d1, (cell_setRow_other _ _ _ _ (by show w.heap.size ≠ w.heap.size + 1; omega)).trans d2⟩
            clear hK K
            try simp only [List.getElem_toArray, List.getElem_cons_zero, List.getElem_cons_succ, Act.put]
            refine wpAnyH_take (i := 14) (v := ?_) rfl (by kernel_rfl) (by kernel_rfl) (by kernel_rfl) (fun _ _ _ h => h) (Or.inl ⟨by rfl, ?_⟩) (by assumption) ?_
            rotate_left 1
            · (intro w' hSw; (try dsimp only at hSw); go_simp; (try (with_reducible rfl)))
            try simp only [List.getElem_toArray, List.getElem_cons_zero, List.getElem_cons_succ, Act.put, List.setIfInBounds_toArray, List.set_cons_zero, List.set_cons_succ]
            refine wpAnyH_done (by kernel_rfl) ?_ _

            have ho := setRow_heap w8 (w.heap.size + 1) _ #[.int .i64 mo, .int .i64 (to + n), .int .i64 (lo), .slice A9 L9.length c9] _ _ (HOut.out _ HB8.out)
            have hB9 : Below w.heap.size w (w8.setRow (w.heap.size + 1) #[.int .i64 mo, .int .i64 (to + n), .int .i64 (lo), .slice A9 L9.length c9]) := below_setRow (HB0.out.trans (HB8.out.mono (by omega))) (by omega)
            have k0 := cell_of_row _ _ 0 _ _ _ ho
            have k1 := cell_of_row _ _ 1 _ _ _ ho
            have k2 := cell_of_row _ _ 2 _ _ _ ho
            have k3 := cell_of_row _ _ 3 _ _ _ ho
            simp at k0 k1 k2 k3
            have HR9 : Hid (CR (w8.setRow (w.heap.size + 1) #[.int .i64 mo, .int .i64 (to + n), .int .i64 (lo), .slice A9 L9.length c9]) A9 L9) := Lib.hid (HR8.out.2.2.keep (fun b cs2 h1 => setRow_other _ _ _ _ (fun e => by
              subst e
              rw [HOut.out _ HB8.out] at h1
              injection h1 with h1
              injection h1 with _ h1
              exact absurd h1 (by decide))))
            go_wp2_with fail
            refine bodyPost_ret (v := .tuple #[.agg #[.int .i64 mo, .int .i64 (to + n), .int .i64 (lo), .slice A9 L9.length c9], .int .i64 0]) ?_ rfl ⟨⟨_, by rw [HX9.out], ?_⟩, hB9⟩
            · rw [results_cell_tmp1 rfl]; go_simp <;> rfl
            · rw [HX9.out]; exact ⟨_, rfl, A9, c9, rfl, HR8.out.1, HR8.out.2.1, HR9.out⟩
    · have d1 : (decide (1 ≤ n) && decide (n ≤ 1099511627776)) = false := by simpa using hw
      have HXe : X = (su0, 2) := by rw [HA.out]; exact (if_neg (by decide)).trans (if_pos hw)
      have ho := HOut.out _ HB1.out
      have hlo : w.heap.size + 1 < w1.heap.size := by omega
      go_wp2_with (refine wpList_store_row rfl _ _ _ rfl (w.heap.size + 1) #[.int .i64 0, .int .i64 0, .int .i64 0, .slice none 0 0] rfl rfl 24 _ ho HSb.out rfl HAl.out ?_)
      have hB9 : Below w.heap.size w (w1.setRow (w.heap.size + 1) #[.int .i64 0, .int .i64 0, .int .i64 0, .slice none 0 0]) := below_setRow (HB0.out.trans (HB1.out.mono (by omega))) (by omega)
      have ho2 := setRow_heap w1 (w.heap.size + 1) _ #[.int .i64 0, .int .i64 0, .int .i64 0, .slice none 0 0] _ _ ho
      refine bodyPost_ret (v := .tuple #[.agg #[.int .i64 0, .int .i64 0, .int .i64 0, .slice none 0 0], .int .i64 2]) ?_ rfl ⟨⟨_, by rw [HXe], ?_⟩, hB9⟩
      · have k0 := cell_of_row _ _ 0 _ _ _ ho2
        have k1 := cell_of_row _ _ 1 _ _ _ ho2
        have k2 := cell_of_row _ _ 2 _ _ _ ho2
        have k3 := cell_of_row _ _ 3 _ _ _ ho2
        simp at k0 k1 k2 k3
        rw [results_cell_tmp1 rfl]; go_simp <;> rfl
      · rw [HXe]; exact ⟨_, rfl, CRempty⟩
end Go.Proofs.Ytnpjakgdfjaglaa
