/- The program's iterator over the pieces of two sets. -/
import Derived.RangeFuncNested
import Derived.RangeFuncBound
import Derived.RangeFuncCalls
import Derived.RangeFuncLeaves
import Derived.RangeFuncBox
import Derived.Shelf.Abstract
import Derived.Shelf.RegionOpen
import Derived.WalkKit
import Derived.OwnWalkIn
import Derived.TacticsInMore
import Derived.LoopNIn
import Derived.LoopIn
import Derived.Maps.AppendAt
import Derived.Lib.QuietBelow
import Derived.Test.YtkjpficpkpfkdaaPq
namespace Go.Proofs.Ytkjpficpkpfkdaa
open Go.ChangeShapes Go.WideShapes Go.ChangeAt Go.RowKit Ts Go.Shelf

attribute [local go_sem] Oper.semAt_some

/-- What a round keeps: what lay below n₀, and the two boxes that the iterator has captured. -/
structure KpP (n₀ Ba Bb : Nat) (W W' : World) : Prop where
  below : Below n₀ W W'
  ba : Ba < W.heap.size → W'.heap[Ba]? = W.heap[Ba]?
  bb : Bb < W.heap.size → W'.heap[Bb]? = W.heap[Bb]?
theorem KpP.refl (n₀ Ba Bb : Nat) (W : World) : KpP n₀ Ba Bb W W := ⟨Below.refl _ _, fun _ => rfl, fun _ => rfl⟩
theorem KpP.trans {n₀ Ba Bb : Nat} {A B C : World} (h : KpP n₀ Ba Bb A B) (k : KpP n₀ Ba Bb B C) : KpP n₀ Ba Bb A C :=
  ⟨h.below.trans k.below, fun hl => (k.ba (Nat.lt_of_lt_of_le hl h.below.size)).trans (h.ba hl), fun hl => (k.bb (Nat.lt_of_lt_of_le hl h.below.size)).trans (h.bb hl)⟩
theorem KpP.of_below {n₀ Ba Bb : Nat} {W W' : World} (h : Below W.heap.size W W') (hn : n₀ ≤ W.heap.size) : KpP n₀ Ba Bb W W' := ⟨h.mono hn, fun hl => h.block Ba hl, fun hl => h.block Bb hl⟩
theorem KpP.putObj {n₀ Ba Bb : Nat} {w : World} (hn : n₀ ≤ w.heap.size) (ha : Ba < w.heap.size) (hb : Bb < w.heap.size) (W : World) (l : Nat) (o o' : Obj) (hl : w.heap.size ≤ l) (h : W.heap[l]? = some o) (h1 : o.isCells = false) (h2 : o.isWalk = false) : KpP n₀ Ba Bb W (W.putObj l o') :=
  ⟨belowK_b hn W l o o' hl h h1 h2, fun _ => (belowK_b (w := w) (Nat.le_refl _) W l o o' hl h h1 h2).block Ba ha, fun _ => (belowK_b (w := w) (Nat.le_refl _) W l o o' hl h h1 h2).block Bb hb⟩
def pcV (x : Pc) : Array Value := #[.agg #[.int .i64 x.1.1, .int .i64 x.1.2, .bool x.2.1, .bool x.2.2]]
set_option maxRecDepth 100000 in
set_option maxHeartbeats 4000000 in
theorem pieces1_in (n : Nat) (hn : 2 ≤ n) (l Ba Bb n₀ : Nat) (A : Option Addr) (c : Nat) (a : List Iv) (ha : a.length ≤ 90000) (B : Option Addr) (d : Nat) (b : List Iv) (hb : b.length ≤ 90000)
    (va : ∀ v ∈ fl a, v < 9223372036854775807) (vb : ∀ v ∈ fl b, v < 9223372036854775807) (X : List Pc) (hX : X = pcs ((fl a).length + (fl b).length) false false 0 (fl a) (fl b)) (J Jx : List Pc → World → Prop)
    (hY : ∀ pre x W, J pre W → pre.length < X.length → YieldAt Fence.wide (n - 1) Try.prog l (pcV x) W fun e W' =>
      (e = .returned (.bool true) ∧ J (pre ++ [x]) W' ∧ KpP n₀ Ba Bb W W') ∨ (e = .returned (.bool false) ∧ Jx (pre ++ [x]) W'))
    (W : World) (hJa : AbidesFrom W.heap.size J) (hBa : Ba < W.heap.size ∧ W.cell? ⟨Ba, 0, none⟩ = some (.slice A a.length c)) (hBb : Bb < W.heap.size ∧ W.cell? ⟨Bb, 0, none⟩ = some (.slice B b.length d)) (hRa : Rs W n₀ A (ivCells a)) (hRb : Rs W n₀ B (ivCells b)) (h0 : J [] W) (hn₀ : n₀ ≤ W.heap.size) :
    CallsIn Fence.wide n Try.prog 73 #[.func (.yield l) #[] #[], .pointer (some ⟨Ba, 0, none⟩), .pointer (some ⟨Bb, 0, none⟩)] W fun e W' => (∃ v, e = .returned v) ∧
      ((∃ ys, ys = X ∧ J ys W') ∨ (∃ pre, pre <+: X ∧ Jx pre W')) := by
  have HRa := Lib.hid hRa
  have HRb := Lib.hid hRb
  have HX := Lib.hid hX
  have Hva := Lib.hid va
  have Hvb := Lib.hid vb
  have HYY := Lib.hid hY
  have HJa := Lib.hid hJa
  obtain ⟨hBa0, hBa1⟩ := hBa
  obtain ⟨hBb0, hBb1⟩ := hBb
  have HBa := Lib.hid hBa1
  have HBb := Lib.hid hBb1
  clear hRa hRb hX va vb hBa1 hBb1 hY hJa
  refine callsIn_of_wp Try.func73 rfl trivial ?_ rfl
  simp only [Try.ntmps73, List.size_toArray, List.length_cons, List.length_nil, Nat.reduceAdd, Nat.reduceSub, Array.replicate_succ, Array.replicate_zero, List.push_toArray, List.append_toArray, List.nil_append, List.cons_append]
  gi_wp2
  gi_loopw [4, 5, 6] (fun u v o wr => ∃ (i j k : Nat) (from_ : Int) (pre : List Pc), u = .int .i64 (i : Int) ∧ v = .int .i64 (j : Int) ∧ o = .int .i64 from_ ∧ i ≤ 2 * a.length ∧ j ≤ 2 * b.length ∧ 2 * a.length - i + (2 * b.length - j) ≤ k ∧ Hid (X = pre ++ pcs k (decide (i % 2 = 1)) (decide (j % 2 = 1)) from_ ((fl a).drop i) ((fl b).drop j)) ∧ Hid (J pre wr) ∧ Hid (KpP n₀ Ba Bb W wr))
    (fun u v _ _ => 2 * a.length - (intOf u).toNat + (2 * b.length - (intOf v).toNat))
  case atStart => exact ⟨0, 0, (fl a).length + (fl b).length, 0, [], rfl, rfl, rfl, Nat.zero_le _, Nat.zero_le _, by rw [fl_len, fl_len]; omega, HX, Lib.hid h0, Lib.hid (KpP.refl _ _ _ _)⟩
  case round =>
    obtain ⟨i, j, k, fr, pre, rfl, rfl, rfl, hi, hj, hk, HE, HJ, HB⟩ := hrel
    have cA : wr.cell? ⟨Ba, 0, none⟩ = some (.slice A a.length c) := (World.cell?_of_block (a := ⟨Ba, 0, none⟩) (HB.out.ba hBa0)).trans HBa.out
    have cB : wr.cell? ⟨Bb, 0, none⟩ = some (.slice B b.length d) := (World.cell?_of_block (a := ⟨Bb, 0, none⟩) (HB.out.bb hBb0)).trans HBb.out
    have hw1 : IntKind.i64.wrap (2 * (a.length : Int)) = 2 * (a.length : Int) := by simp only [IntKind.wrap_i64]; omega
    have hw2 : IntKind.i64.wrap (2 * (b.length : Int)) = 2 * (b.length : Int) := by simp only [IntKind.wrap_i64]; omega
    by_cases hgo : i < 2 * a.length ∨ j < 2 * b.length
    · obtain ⟨k', rfl⟩ : ∃ k', k = k' + 1 := ⟨k - 1, by omega⟩
      obtain ⟨hnb, htm⟩ := nb_bnd a b i j hgo Hva.out Hvb.out
      have HQa := Lib.hid ((HRa.out.below HB.out.below).more (show n₀ ≤ wr.heap.size by have := HB.out.below.size; omega))
      have HQb := Lib.hid ((HRb.out.below HB.out.below).more (show n₀ ≤ wr.heap.size by have := HB.out.below.size; omega))
      have e1 := HE.out
      have hia := bnd_hit a i
      have hib := bnd_hit b j
      obtain ⟨t, ht⟩ : ∃ t, t = min (bnd a i) (bnd b j) := ⟨_, rfl⟩
      rw [← ht] at hnb htm
      rw [pcs_step a b i j k' fr t hgo hnb] at e1
      simp only [hia t htm, hib t htm] at e1
      obtain ⟨na, hna⟩ : ∃ x, x = bnd a i := ⟨_, rfl⟩
      obtain ⟨nb', hnb'⟩ : ∃ x, x = bnd b j := ⟨_, rfl⟩
      have HNa := Lib.hid hna
      have HNb := Lib.hid hnb'
      rw [← hna, ← hnb'] at e1 ht
      obtain ⟨p, hp⟩ : ∃ p, p = decide (i % 2 = 1) := ⟨_, rfl⟩
      obtain ⟨q, hq⟩ : ∃ q, q = decide (j % 2 = 1) := ⟨_, rfl⟩
      have hpi : ((i : Int) % 2 == 1) = p := by
        rw [hp]
        rcases Nat.mod_two_eq_zero_or_one i with h | h
        · rw [decide_eq_false (by omega)]; simp; omega
        · rw [decide_eq_true h]; simp; omega
      have hqi : ((j : Int) % 2 == 1) = q := by
        rw [hq]
        rcases Nat.mod_two_eq_zero_or_one j with h | h
        · rw [decide_eq_false (by omega)]; simp; omega
        · rw [decide_eq_true h]; simp; omega
      rw [← hp, ← hq] at e1
      have E1 := Lib.hid e1
      have HT := Lib.hid ht
      clear e1 hia hib hna hnb' hp hq hnb ht HE
      have hmx : Try.prog.follows .mixedOrders = true := by kernel_rfl
      have h1n : 1 ≤ n := by omega
      have hna : bnd a i = na := HNa.out.symm
      have hnb2 : bnd b j = nb' := HNb.out.symm
      have hmin : min na nb' = t := HT.out.symm
      have hcA : ∀ d' os, (Go.Sort.grow (redrawn wr d') os).cell? ⟨Ba, 0, none⟩ = some (.slice A a.length c) := fun d' os => cell_regrown cA d' os
      have hcB : ∀ d' os, (Go.Sort.grow (redrawn wr d') os).cell? ⟨Bb, 0, none⟩ = some (.slice B b.length d) := fun d' os => cell_regrown cB d' os
      have CA : Hid (∀ d' os, Calls Try.prog 74 #[.slice A a.length c, .int .i64 (i : Int)] (Go.Sort.grow (redrawn wr d') os) fun e w'' => e = .returned (.int .i64 na) ∧ ∃ p : Regrown, w'' = Go.Sort.grow (redrawn wr p.d) p.os) := Lib.hid (fun d' os =>
        Calls.regrown_of ((bound_any A c a (by omega) i (by omega) _ ((HQa.out.below (below_regrown wr d' os)).more (below_regrown wr d' os).size)).mono (by rintro e w'' ⟨rfl, rfl⟩; exact ⟨by rw [hna], Below.refl _ _⟩)))
      have CB : Hid (∀ d' os, Calls Try.prog 74 #[.slice B b.length d, .int .i64 (j : Int)] (Go.Sort.grow (redrawn wr d') os) fun e w'' => e = .returned (.int .i64 nb') ∧ ∃ p : Regrown, w'' = Go.Sort.grow (redrawn wr p.d) p.os) := Lib.hid (fun d' os =>
        Calls.regrown_of ((bound_any B d b (by omega) j (by omega) _ ((HQb.out.below (below_regrown wr d' os)).more (below_regrown wr d' os).size)).mono (by rintro e w'' ⟨rfl, rfl⟩; exact ⟨by rw [hnb2], Below.refl _ _⟩)))
      by_cases hia : (i : Int) < 2 * (a.length : Int)
      · skip
        gi_wp2
        refine wpIn_wide.2 ?_
        refine wp_region_quiet_below (by kernel_rfl) (by kernel_rfl) ?_
        repeat (go_big_quiet_step ((first | with_reducible exact CA.out _ _ | with_reducible exact CB.out _ _)))
        refine wpQuiet_nil ?_
        intro _ hw'
        obtain ⟨⟨dq, osq⟩, hw''⟩ := hw'
        subst hw''
        have hb2 := below_regrown wr dq osq
        obtain ⟨W2, hW2⟩ : ∃ x, x = Go.Sort.grow (redrawn wr dq) osq := ⟨_, rfl⟩
        rw [← hW2] at hb2 ⊢
        have HJ2 := Lib.hid (HJa.out pre wr W2 none HJ.out ⟨hb2.os, hb2.tape, hb2.output, hb2.size, fun k hk _ => hb2.block k hk⟩ (fun r e => by cases e))
        have HB2 := Lib.hid (HB.out.trans (KpP.of_below hb2 (show n₀ ≤ wr.heap.size by have := HB.out.below.size; omega)))
        clear hb2 hW2 hcA hcB cA cB CA CB
        cases p <;> cases q
        · by_cases h1 : na = t
          · by_cases h2 : nb' = t
            · skip
              have e2 := E1.out
              rw [if_pos h1, if_pos h2] at e2
              have E2 := Lib.hid e2
              clear e2 E1
              have hil : i < 2 * a.length := by
                rcases Nat.lt_or_ge i (2 * a.length) with h | h
                · exact h
                · have e3 := HNa.out; rw [bnd_far a i h] at e3; omega
              have hjl : j < 2 * b.length := by
                rcases Nat.lt_or_ge j (2 * b.length) with h | h
                · exact h
                · have e3 := HNb.out; rw [bnd_far b j h] at e3; omega
              have hn1 : (na == t) = true := by simp [h1]
              have hn2 : (nb' == t) = true := by simp [h2]
              have hwi : IntKind.i64.wrap ((i : Int) + 1) = (i : Int) + 1 := by simp only [IntKind.wrap_i64]; omega
              have hwj : IntKind.i64.wrap ((j : Int) + 1) = (j : Int) + 1 := by simp only [IntKind.wrap_i64]; omega
              clear h1 h2
              have hbl : Below W2.heap.size W2 (W2.alloc (.cells #[.int .i64 fr, .int .i64 t, .bool false, .bool false] 74)) := (Below.refl _ _).alloc (Nat.le_refl _) _
              have HJ1 := Lib.hid (HJa.out pre W2 _ none HJ2.out ⟨hbl.os, hbl.tape, hbl.output, hbl.size, fun k hk _ => hbl.block k hk⟩ (fun r e => by cases e))
              have HB1 := Lib.hid (HB2.out.trans (KpP.of_below hbl (show n₀ ≤ W2.heap.size by have := HB2.out.below.size; omega)))
              clear hbl
              gi_wp2
              refine ⟨fun _ h => (by cases h), ?_⟩
              gi_wp2
              go_roundw
              case rel => exact ⟨i + 1, j + 1, k', t, pre, by go_num, by go_num, rfl, by omega, by omega, by omega, Lib.hid (by have e4 := E2.out; simpa using e4), HJ1, HB1⟩
              case measure => simp [intOf] <;> omega
            · skip
              have e2 := E1.out
              rw [if_pos h1, if_neg h2] at e2
              have E2 := Lib.hid e2
              clear e2 E1
              have hil : i < 2 * a.length := by
                rcases Nat.lt_or_ge i (2 * a.length) with h | h
                · exact h
                · have e3 := HNa.out; rw [bnd_far a i h] at e3; omega
              have hn1 : (na == t) = true := by simp [h1]
              have hn2 : (nb' == t) = false := by simp [h2]
              have hwi : IntKind.i64.wrap ((i : Int) + 1) = (i : Int) + 1 := by simp only [IntKind.wrap_i64]; omega
              clear h1 h2
              have hbl : Below W2.heap.size W2 (W2.alloc (.cells #[.int .i64 fr, .int .i64 t, .bool false, .bool false] 74)) := (Below.refl _ _).alloc (Nat.le_refl _) _
              have HJ1 := Lib.hid (HJa.out pre W2 _ none HJ2.out ⟨hbl.os, hbl.tape, hbl.output, hbl.size, fun k hk _ => hbl.block k hk⟩ (fun r e => by cases e))
              have HB1 := Lib.hid (HB2.out.trans (KpP.of_below hbl (show n₀ ≤ W2.heap.size by have := HB2.out.below.size; omega)))
              clear hbl
              gi_wp2
              refine ⟨fun _ h => (by cases h), ?_⟩
              gi_wp2
              go_roundw
              case rel => exact ⟨i + 1, j, k', t, pre, by go_num, by go_num, rfl, by omega, by omega, by omega, Lib.hid (by have e4 := E2.out; simpa using e4), HJ1, HB1⟩
              case measure => simp [intOf] <;> omega
          · by_cases h2 : nb' = t
            · skip
              have e2 := E1.out
              rw [if_neg h1, if_pos h2] at e2
              have E2 := Lib.hid e2
              clear e2 E1
              have hjl : j < 2 * b.length := by
                rcases Nat.lt_or_ge j (2 * b.length) with h | h
                · exact h
                · have e3 := HNb.out; rw [bnd_far b j h] at e3; omega
              have hn1 : (na == t) = false := by simp [h1]
              have hn2 : (nb' == t) = true := by simp [h2]
              have hwj : IntKind.i64.wrap ((j : Int) + 1) = (j : Int) + 1 := by simp only [IntKind.wrap_i64]; omega
              clear h1 h2
              have hbl : Below W2.heap.size W2 (W2.alloc (.cells #[.int .i64 fr, .int .i64 t, .bool false, .bool false] 74)) := (Below.refl _ _).alloc (Nat.le_refl _) _
              have HJ1 := Lib.hid (HJa.out pre W2 _ none HJ2.out ⟨hbl.os, hbl.tape, hbl.output, hbl.size, fun k hk _ => hbl.block k hk⟩ (fun r e => by cases e))
              have HB1 := Lib.hid (HB2.out.trans (KpP.of_below hbl (show n₀ ≤ W2.heap.size by have := HB2.out.below.size; omega)))
              clear hbl
              gi_wp2
              refine ⟨fun _ h => (by cases h), ?_⟩
              gi_wp2
              go_roundw
              case rel => exact ⟨i, j + 1, k', t, pre, by go_num, by go_num, rfl, by omega, by omega, by omega, Lib.hid (by have e4 := E2.out; simpa using e4), HJ1, HB1⟩
              case measure => simp [intOf] <;> omega
            · exfalso; omega
        · by_cases h1 : na = t
          · by_cases h2 : nb' = t
            · skip
              have e2 := E1.out
              rw [if_pos h1, if_pos h2] at e2
              have E2 := Lib.hid e2
              clear e2 E1
              have hil : i < 2 * a.length := by
                rcases Nat.lt_or_ge i (2 * a.length) with h | h
                · exact h
                · have e3 := HNa.out; rw [bnd_far a i h] at e3; omega
              have hjl : j < 2 * b.length := by
                rcases Nat.lt_or_ge j (2 * b.length) with h | h
                · exact h
                · have e3 := HNb.out; rw [bnd_far b j h] at e3; omega
              have hn1 : (na == t) = true := by simp [h1]
              have hn2 : (nb' == t) = true := by simp [h2]
              have hwi : IntKind.i64.wrap ((i : Int) + 1) = (i : Int) + 1 := by simp only [IntKind.wrap_i64]; omega
              have hwj : IntKind.i64.wrap ((j : Int) + 1) = (j : Int) + 1 := by simp only [IntKind.wrap_i64]; omega
              clear h1 h2
              have hbl : Below W2.heap.size W2 (W2.alloc (.cells #[.int .i64 fr, .int .i64 t, .bool false, .bool true] 74)) := (Below.refl _ _).alloc (Nat.le_refl _) _
              have HJ1 := Lib.hid (HJa.out pre W2 _ none HJ2.out ⟨hbl.os, hbl.tape, hbl.output, hbl.size, fun k hk _ => hbl.block k hk⟩ (fun r e => by cases e))
              have HB1 := Lib.hid (HB2.out.trans (KpP.of_below hbl (show n₀ ≤ W2.heap.size by have := HB2.out.below.size; omega)))
              clear hbl
              have hlen : pre.length < X.length := by rw [E2.out]; simp <;> omega
              obtain ⟨fn, tmps, assign, body, hy, hR⟩ := HYY.out pre ((fr, t), false, true) _ HJ1.out hlen
              dsimp only [pcV] at hy
              have HR := Lib.hid hR
              clear hR hlen
              gi_wp2
              refine HR.out.mono ?_
              rintro e W3 (⟨rfl, hJ3, hk3⟩ | ⟨rfl, hJx3⟩)
              · have HJ3 := Lib.hid hJ3
                have HB3 := Lib.hid (HB1.out.trans hk3)
                clear hJ3 hk3
                gi_wp2
                go_roundw
                case rel => exact ⟨i + 1, j + 1, k', t, pre ++ [((fr, t), false, true)], by go_num, by go_num, rfl, by omega, by omega, by omega, Lib.hid (by have e4 := E2.out; simpa using e4), HJ3, HB3⟩
                case measure => simp [intOf] <;> omega
              · gi_wp2
                refine bodyPost_ret (results_none rfl _ _ _) rfl ?_
                exact ⟨⟨_, rfl⟩, .inr ⟨pre ++ [((fr, t), false, true)], ⟨pcs k' _ _ _ _ _, by have e4 := E2.out; simpa using e4.symm⟩, hJx3⟩⟩
            · skip
              have e2 := E1.out
              rw [if_pos h1, if_neg h2] at e2
              have E2 := Lib.hid e2
              clear e2 E1
              have hil : i < 2 * a.length := by
                rcases Nat.lt_or_ge i (2 * a.length) with h | h
                · exact h
                · have e3 := HNa.out; rw [bnd_far a i h] at e3; omega
              have hn1 : (na == t) = true := by simp [h1]
              have hn2 : (nb' == t) = false := by simp [h2]
              have hwi : IntKind.i64.wrap ((i : Int) + 1) = (i : Int) + 1 := by simp only [IntKind.wrap_i64]; omega
              clear h1 h2
              have hbl : Below W2.heap.size W2 (W2.alloc (.cells #[.int .i64 fr, .int .i64 t, .bool false, .bool true] 74)) := (Below.refl _ _).alloc (Nat.le_refl _) _
              have HJ1 := Lib.hid (HJa.out pre W2 _ none HJ2.out ⟨hbl.os, hbl.tape, hbl.output, hbl.size, fun k hk _ => hbl.block k hk⟩ (fun r e => by cases e))
              have HB1 := Lib.hid (HB2.out.trans (KpP.of_below hbl (show n₀ ≤ W2.heap.size by have := HB2.out.below.size; omega)))
              clear hbl
              have hlen : pre.length < X.length := by rw [E2.out]; simp <;> omega
              obtain ⟨fn, tmps, assign, body, hy, hR⟩ := HYY.out pre ((fr, t), false, true) _ HJ1.out hlen
              dsimp only [pcV] at hy
              have HR := Lib.hid hR
              clear hR hlen
              gi_wp2
              refine HR.out.mono ?_
              rintro e W3 (⟨rfl, hJ3, hk3⟩ | ⟨rfl, hJx3⟩)
              · have HJ3 := Lib.hid hJ3
                have HB3 := Lib.hid (HB1.out.trans hk3)
                clear hJ3 hk3
                gi_wp2
                go_roundw
                case rel => exact ⟨i + 1, j, k', t, pre ++ [((fr, t), false, true)], by go_num, by go_num, rfl, by omega, by omega, by omega, Lib.hid (by have e4 := E2.out; simpa using e4), HJ3, HB3⟩
                case measure => simp [intOf] <;> omega
              · gi_wp2
                refine bodyPost_ret (results_none rfl _ _ _) rfl ?_
                exact ⟨⟨_, rfl⟩, .inr ⟨pre ++ [((fr, t), false, true)], ⟨pcs k' _ _ _ _ _, by have e4 := E2.out; simpa using e4.symm⟩, hJx3⟩⟩
          · by_cases h2 : nb' = t
            · skip
              have e2 := E1.out
              rw [if_neg h1, if_pos h2] at e2
              have E2 := Lib.hid e2
              clear e2 E1
              have hjl : j < 2 * b.length := by
                rcases Nat.lt_or_ge j (2 * b.length) with h | h
                · exact h
                · have e3 := HNb.out; rw [bnd_far b j h] at e3; omega
              have hn1 : (na == t) = false := by simp [h1]
              have hn2 : (nb' == t) = true := by simp [h2]
              have hwj : IntKind.i64.wrap ((j : Int) + 1) = (j : Int) + 1 := by simp only [IntKind.wrap_i64]; omega
              clear h1 h2
              have hbl : Below W2.heap.size W2 (W2.alloc (.cells #[.int .i64 fr, .int .i64 t, .bool false, .bool true] 74)) := (Below.refl _ _).alloc (Nat.le_refl _) _
              have HJ1 := Lib.hid (HJa.out pre W2 _ none HJ2.out ⟨hbl.os, hbl.tape, hbl.output, hbl.size, fun k hk _ => hbl.block k hk⟩ (fun r e => by cases e))
              have HB1 := Lib.hid (HB2.out.trans (KpP.of_below hbl (show n₀ ≤ W2.heap.size by have := HB2.out.below.size; omega)))
              clear hbl
              have hlen : pre.length < X.length := by rw [E2.out]; simp <;> omega
              obtain ⟨fn, tmps, assign, body, hy, hR⟩ := HYY.out pre ((fr, t), false, true) _ HJ1.out hlen
              dsimp only [pcV] at hy
              have HR := Lib.hid hR
              clear hR hlen
              gi_wp2
              refine HR.out.mono ?_
              rintro e W3 (⟨rfl, hJ3, hk3⟩ | ⟨rfl, hJx3⟩)
              · have HJ3 := Lib.hid hJ3
                have HB3 := Lib.hid (HB1.out.trans hk3)
                clear hJ3 hk3
                gi_wp2
                go_roundw
                case rel => exact ⟨i, j + 1, k', t, pre ++ [((fr, t), false, true)], by go_num, by go_num, rfl, by omega, by omega, by omega, Lib.hid (by have e4 := E2.out; simpa using e4), HJ3, HB3⟩
                case measure => simp [intOf] <;> omega
              · gi_wp2
                refine bodyPost_ret (results_none rfl _ _ _) rfl ?_
                exact ⟨⟨_, rfl⟩, .inr ⟨pre ++ [((fr, t), false, true)], ⟨pcs k' _ _ _ _ _, by have e4 := E2.out; simpa using e4.symm⟩, hJx3⟩⟩
            · exfalso; omega
        · by_cases h1 : na = t
          · by_cases h2 : nb' = t
            · skip
              have e2 := E1.out
              rw [if_pos h1, if_pos h2] at e2
              have E2 := Lib.hid e2
              clear e2 E1
              have hil : i < 2 * a.length := by
                rcases Nat.lt_or_ge i (2 * a.length) with h | h
                · exact h
                · have e3 := HNa.out; rw [bnd_far a i h] at e3; omega
              have hjl : j < 2 * b.length := by
                rcases Nat.lt_or_ge j (2 * b.length) with h | h
                · exact h
                · have e3 := HNb.out; rw [bnd_far b j h] at e3; omega
              have hn1 : (na == t) = true := by simp [h1]
              have hn2 : (nb' == t) = true := by simp [h2]
              have hwi : IntKind.i64.wrap ((i : Int) + 1) = (i : Int) + 1 := by simp only [IntKind.wrap_i64]; omega
              have hwj : IntKind.i64.wrap ((j : Int) + 1) = (j : Int) + 1 := by simp only [IntKind.wrap_i64]; omega
              clear h1 h2
              have hbl : Below W2.heap.size W2 (W2.alloc (.cells #[.int .i64 fr, .int .i64 t, .bool true, .bool false] 74)) := (Below.refl _ _).alloc (Nat.le_refl _) _
              have HJ1 := Lib.hid (HJa.out pre W2 _ none HJ2.out ⟨hbl.os, hbl.tape, hbl.output, hbl.size, fun k hk _ => hbl.block k hk⟩ (fun r e => by cases e))
              have HB1 := Lib.hid (HB2.out.trans (KpP.of_below hbl (show n₀ ≤ W2.heap.size by have := HB2.out.below.size; omega)))
              clear hbl
              have hlen : pre.length < X.length := by rw [E2.out]; simp <;> omega
              obtain ⟨fn, tmps, assign, body, hy, hR⟩ := HYY.out pre ((fr, t), true, false) _ HJ1.out hlen
              dsimp only [pcV] at hy
              have HR := Lib.hid hR
              clear hR hlen
              gi_wp2
              refine HR.out.mono ?_
              rintro e W3 (⟨rfl, hJ3, hk3⟩ | ⟨rfl, hJx3⟩)
              · have HJ3 := Lib.hid hJ3
                have HB3 := Lib.hid (HB1.out.trans hk3)
                clear hJ3 hk3
                gi_wp2
                go_roundw
                case rel => exact ⟨i + 1, j + 1, k', t, pre ++ [((fr, t), true, false)], by go_num, by go_num, rfl, by omega, by omega, by omega, Lib.hid (by have e4 := E2.out; simpa using e4), HJ3, HB3⟩
                case measure => simp [intOf] <;> omega
              · gi_wp2
                refine bodyPost_ret (results_none rfl _ _ _) rfl ?_
                exact ⟨⟨_, rfl⟩, .inr ⟨pre ++ [((fr, t), true, false)], ⟨pcs k' _ _ _ _ _, by have e4 := E2.out; simpa using e4.symm⟩, hJx3⟩⟩
            · skip
              have e2 := E1.out
              rw [if_pos h1, if_neg h2] at e2
              have E2 := Lib.hid e2
              clear e2 E1
              have hil : i < 2 * a.length := by
                rcases Nat.lt_or_ge i (2 * a.length) with h | h
                · exact h
                · have e3 := HNa.out; rw [bnd_far a i h] at e3; omega
              have hn1 : (na == t) = true := by simp [h1]
              have hn2 : (nb' == t) = false := by simp [h2]
              have hwi : IntKind.i64.wrap ((i : Int) + 1) = (i : Int) + 1 := by simp only [IntKind.wrap_i64]; omega
              clear h1 h2
              have hbl : Below W2.heap.size W2 (W2.alloc (.cells #[.int .i64 fr, .int .i64 t, .bool true, .bool false] 74)) := (Below.refl _ _).alloc (Nat.le_refl _) _
              have HJ1 := Lib.hid (HJa.out pre W2 _ none HJ2.out ⟨hbl.os, hbl.tape, hbl.output, hbl.size, fun k hk _ => hbl.block k hk⟩ (fun r e => by cases e))
              have HB1 := Lib.hid (HB2.out.trans (KpP.of_below hbl (show n₀ ≤ W2.heap.size by have := HB2.out.below.size; omega)))
              clear hbl
              have hlen : pre.length < X.length := by rw [E2.out]; simp <;> omega
              obtain ⟨fn, tmps, assign, body, hy, hR⟩ := HYY.out pre ((fr, t), true, false) _ HJ1.out hlen
              dsimp only [pcV] at hy
              have HR := Lib.hid hR
              clear hR hlen
              gi_wp2
              refine HR.out.mono ?_
              rintro e W3 (⟨rfl, hJ3, hk3⟩ | ⟨rfl, hJx3⟩)
              · have HJ3 := Lib.hid hJ3
                have HB3 := Lib.hid (HB1.out.trans hk3)
                clear hJ3 hk3
                gi_wp2
                go_roundw
                case rel => exact ⟨i + 1, j, k', t, pre ++ [((fr, t), true, false)], by go_num, by go_num, rfl, by omega, by omega, by omega, Lib.hid (by have e4 := E2.out; simpa using e4), HJ3, HB3⟩
                case measure => simp [intOf] <;> omega
              · gi_wp2
                refine bodyPost_ret (results_none rfl _ _ _) rfl ?_
                exact ⟨⟨_, rfl⟩, .inr ⟨pre ++ [((fr, t), true, false)], ⟨pcs k' _ _ _ _ _, by have e4 := E2.out; simpa using e4.symm⟩, hJx3⟩⟩
          · by_cases h2 : nb' = t
            · skip
              have e2 := E1.out
              rw [if_neg h1, if_pos h2] at e2
              have E2 := Lib.hid e2
              clear e2 E1
              have hjl : j < 2 * b.length := by
                rcases Nat.lt_or_ge j (2 * b.length) with h | h
                · exact h
                · have e3 := HNb.out; rw [bnd_far b j h] at e3; omega
              have hn1 : (na == t) = false := by simp [h1]
              have hn2 : (nb' == t) = true := by simp [h2]
              have hwj : IntKind.i64.wrap ((j : Int) + 1) = (j : Int) + 1 := by simp only [IntKind.wrap_i64]; omega
              clear h1 h2
              have hbl : Below W2.heap.size W2 (W2.alloc (.cells #[.int .i64 fr, .int .i64 t, .bool true, .bool false] 74)) := (Below.refl _ _).alloc (Nat.le_refl _) _
              have HJ1 := Lib.hid (HJa.out pre W2 _ none HJ2.out ⟨hbl.os, hbl.tape, hbl.output, hbl.size, fun k hk _ => hbl.block k hk⟩ (fun r e => by cases e))
              have HB1 := Lib.hid (HB2.out.trans (KpP.of_below hbl (show n₀ ≤ W2.heap.size by have := HB2.out.below.size; omega)))
              clear hbl
              have hlen : pre.length < X.length := by rw [E2.out]; simp <;> omega
              obtain ⟨fn, tmps, assign, body, hy, hR⟩ := HYY.out pre ((fr, t), true, false) _ HJ1.out hlen
              dsimp only [pcV] at hy
              have HR := Lib.hid hR
              clear hR hlen
              gi_wp2
              refine HR.out.mono ?_
              rintro e W3 (⟨rfl, hJ3, hk3⟩ | ⟨rfl, hJx3⟩)
              · have HJ3 := Lib.hid hJ3
                have HB3 := Lib.hid (HB1.out.trans hk3)
                clear hJ3 hk3
                gi_wp2
                go_roundw
                case rel => exact ⟨i, j + 1, k', t, pre ++ [((fr, t), true, false)], by go_num, by go_num, rfl, by omega, by omega, by omega, Lib.hid (by have e4 := E2.out; simpa using e4), HJ3, HB3⟩
                case measure => simp [intOf] <;> omega
              · gi_wp2
                refine bodyPost_ret (results_none rfl _ _ _) rfl ?_
                exact ⟨⟨_, rfl⟩, .inr ⟨pre ++ [((fr, t), true, false)], ⟨pcs k' _ _ _ _ _, by have e4 := E2.out; simpa using e4.symm⟩, hJx3⟩⟩
            · exfalso; omega
        · by_cases h1 : na = t
          · by_cases h2 : nb' = t
            · skip
              have e2 := E1.out
              rw [if_pos h1, if_pos h2] at e2
              have E2 := Lib.hid e2
              clear e2 E1
              have hil : i < 2 * a.length := by
                rcases Nat.lt_or_ge i (2 * a.length) with h | h
                · exact h
                · have e3 := HNa.out; rw [bnd_far a i h] at e3; omega
              have hjl : j < 2 * b.length := by
                rcases Nat.lt_or_ge j (2 * b.length) with h | h
                · exact h
                · have e3 := HNb.out; rw [bnd_far b j h] at e3; omega
              have hn1 : (na == t) = true := by simp [h1]
              have hn2 : (nb' == t) = true := by simp [h2]
              have hwi : IntKind.i64.wrap ((i : Int) + 1) = (i : Int) + 1 := by simp only [IntKind.wrap_i64]; omega
              have hwj : IntKind.i64.wrap ((j : Int) + 1) = (j : Int) + 1 := by simp only [IntKind.wrap_i64]; omega
              clear h1 h2
              have hbl : Below W2.heap.size W2 (W2.alloc (.cells #[.int .i64 fr, .int .i64 t, .bool true, .bool true] 74)) := (Below.refl _ _).alloc (Nat.le_refl _) _
              have HJ1 := Lib.hid (HJa.out pre W2 _ none HJ2.out ⟨hbl.os, hbl.tape, hbl.output, hbl.size, fun k hk _ => hbl.block k hk⟩ (fun r e => by cases e))
              have HB1 := Lib.hid (HB2.out.trans (KpP.of_below hbl (show n₀ ≤ W2.heap.size by have := HB2.out.below.size; omega)))
              clear hbl
              have hlen : pre.length < X.length := by rw [E2.out]; simp <;> omega
              obtain ⟨fn, tmps, assign, body, hy, hR⟩ := HYY.out pre ((fr, t), true, true) _ HJ1.out hlen
              dsimp only [pcV] at hy
              have HR := Lib.hid hR
              clear hR hlen
              gi_wp2
              refine HR.out.mono ?_
              rintro e W3 (⟨rfl, hJ3, hk3⟩ | ⟨rfl, hJx3⟩)
              · have HJ3 := Lib.hid hJ3
                have HB3 := Lib.hid (HB1.out.trans hk3)
                clear hJ3 hk3
                gi_wp2
                go_roundw
                case rel => exact ⟨i + 1, j + 1, k', t, pre ++ [((fr, t), true, true)], by go_num, by go_num, rfl, by omega, by omega, by omega, Lib.hid (by have e4 := E2.out; simpa using e4), HJ3, HB3⟩
                case measure => simp [intOf] <;> omega
              · gi_wp2
                refine bodyPost_ret (results_none rfl _ _ _) rfl ?_
                exact ⟨⟨_, rfl⟩, .inr ⟨pre ++ [((fr, t), true, true)], ⟨pcs k' _ _ _ _ _, by have e4 := E2.out; simpa using e4.symm⟩, hJx3⟩⟩
            · skip
              have e2 := E1.out
              rw [if_pos h1, if_neg h2] at e2
              have E2 := Lib.hid e2
              clear e2 E1
              have hil : i < 2 * a.length := by
                rcases Nat.lt_or_ge i (2 * a.length) with h | h
                · exact h
                · have e3 := HNa.out; rw [bnd_far a i h] at e3; omega
              have hn1 : (na == t) = true := by simp [h1]
              have hn2 : (nb' == t) = false := by simp [h2]
              have hwi : IntKind.i64.wrap ((i : Int) + 1) = (i : Int) + 1 := by simp only [IntKind.wrap_i64]; omega
              clear h1 h2
              have hbl : Below W2.heap.size W2 (W2.alloc (.cells #[.int .i64 fr, .int .i64 t, .bool true, .bool true] 74)) := (Below.refl _ _).alloc (Nat.le_refl _) _
              have HJ1 := Lib.hid (HJa.out pre W2 _ none HJ2.out ⟨hbl.os, hbl.tape, hbl.output, hbl.size, fun k hk _ => hbl.block k hk⟩ (fun r e => by cases e))
              have HB1 := Lib.hid (HB2.out.trans (KpP.of_below hbl (show n₀ ≤ W2.heap.size by have := HB2.out.below.size; omega)))
              clear hbl
              have hlen : pre.length < X.length := by rw [E2.out]; simp <;> omega
              obtain ⟨fn, tmps, assign, body, hy, hR⟩ := HYY.out pre ((fr, t), true, true) _ HJ1.out hlen
              dsimp only [pcV] at hy
              have HR := Lib.hid hR
              clear hR hlen
              gi_wp2
              refine HR.out.mono ?_
              rintro e W3 (⟨rfl, hJ3, hk3⟩ | ⟨rfl, hJx3⟩)
              · have HJ3 := Lib.hid hJ3
                have HB3 := Lib.hid (HB1.out.trans hk3)
                clear hJ3 hk3
                gi_wp2
                go_roundw
                case rel => exact ⟨i + 1, j, k', t, pre ++ [((fr, t), true, true)], by go_num, by go_num, rfl, by omega, by omega, by omega, Lib.hid (by have e4 := E2.out; simpa using e4), HJ3, HB3⟩
                case measure => simp [intOf] <;> omega
              · gi_wp2
                refine bodyPost_ret (results_none rfl _ _ _) rfl ?_
                exact ⟨⟨_, rfl⟩, .inr ⟨pre ++ [((fr, t), true, true)], ⟨pcs k' _ _ _ _ _, by have e4 := E2.out; simpa using e4.symm⟩, hJx3⟩⟩
          · by_cases h2 : nb' = t
            · skip
              have e2 := E1.out
              rw [if_neg h1, if_pos h2] at e2
              have E2 := Lib.hid e2
              clear e2 E1
              have hjl : j < 2 * b.length := by
                rcases Nat.lt_or_ge j (2 * b.length) with h | h
                · exact h
                · have e3 := HNb.out; rw [bnd_far b j h] at e3; omega
              have hn1 : (na == t) = false := by simp [h1]
              have hn2 : (nb' == t) = true := by simp [h2]
              have hwj : IntKind.i64.wrap ((j : Int) + 1) = (j : Int) + 1 := by simp only [IntKind.wrap_i64]; omega
              clear h1 h2
              have hbl : Below W2.heap.size W2 (W2.alloc (.cells #[.int .i64 fr, .int .i64 t, .bool true, .bool true] 74)) := (Below.refl _ _).alloc (Nat.le_refl _) _
              have HJ1 := Lib.hid (HJa.out pre W2 _ none HJ2.out ⟨hbl.os, hbl.tape, hbl.output, hbl.size, fun k hk _ => hbl.block k hk⟩ (fun r e => by cases e))
              have HB1 := Lib.hid (HB2.out.trans (KpP.of_below hbl (show n₀ ≤ W2.heap.size by have := HB2.out.below.size; omega)))
              clear hbl
              have hlen : pre.length < X.length := by rw [E2.out]; simp <;> omega
              obtain ⟨fn, tmps, assign, body, hy, hR⟩ := HYY.out pre ((fr, t), true, true) _ HJ1.out hlen
              dsimp only [pcV] at hy
              have HR := Lib.hid hR
              clear hR hlen
              gi_wp2
              refine HR.out.mono ?_
              rintro e W3 (⟨rfl, hJ3, hk3⟩ | ⟨rfl, hJx3⟩)
              · have HJ3 := Lib.hid hJ3
                have HB3 := Lib.hid (HB1.out.trans hk3)
                clear hJ3 hk3
                gi_wp2
                go_roundw
                case rel => exact ⟨i, j + 1, k', t, pre ++ [((fr, t), true, true)], by go_num, by go_num, rfl, by omega, by omega, by omega, Lib.hid (by have e4 := E2.out; simpa using e4), HJ3, HB3⟩
                case measure => simp [intOf] <;> omega
              · gi_wp2
                refine bodyPost_ret (results_none rfl _ _ _) rfl ?_
                exact ⟨⟨_, rfl⟩, .inr ⟨pre ++ [((fr, t), true, true)], ⟨pcs k' _ _ _ _ _, by have e4 := E2.out; simpa using e4.symm⟩, hJx3⟩⟩
            · exfalso; omega
      · have hjb : (j : Int) < 2 * (b.length : Int) := by omega
        gi_wp2
        refine wpIn_wide.2 ?_
        refine wp_region_quiet_below (by kernel_rfl) (by kernel_rfl) ?_
        repeat (go_big_quiet_step ((first | with_reducible exact CA.out _ _ | with_reducible exact CB.out _ _)))
        refine wpQuiet_nil ?_
        intro _ hw'
        obtain ⟨⟨dq, osq⟩, hw''⟩ := hw'
        subst hw''
        have hb2 := below_regrown wr dq osq
        obtain ⟨W2, hW2⟩ : ∃ x, x = Go.Sort.grow (redrawn wr dq) osq := ⟨_, rfl⟩
        rw [← hW2] at hb2 ⊢
        have HJ2 := Lib.hid (HJa.out pre wr W2 none HJ.out ⟨hb2.os, hb2.tape, hb2.output, hb2.size, fun k hk _ => hb2.block k hk⟩ (fun r e => by cases e))
        have HB2 := Lib.hid (HB.out.trans (KpP.of_below hb2 (show n₀ ≤ wr.heap.size by have := HB.out.below.size; omega)))
        clear hb2 hW2 hcA hcB cA cB CA CB
        have h1 : ¬ na = t := by
          have e3 := HNa.out
          rw [bnd_far a i (by omega)] at e3
          omega
        have h2 : nb' = t := by omega
        have hi2 : i = 2 * a.length := by omega
        obtain rfl : p = false := by
          rw [← hpi, hi2]; simp <;> omega
        clear hi2
        cases q
        · skip
          have e2 := E1.out
          rw [if_neg h1, if_pos h2] at e2
          have E2 := Lib.hid e2
          clear e2 E1
          have hjl : j < 2 * b.length := by
            rcases Nat.lt_or_ge j (2 * b.length) with h | h
            · exact h
            · have e3 := HNb.out; rw [bnd_far b j h] at e3; omega
          have hn1 : (na == t) = false := by simp [h1]
          have hn2 : (nb' == t) = true := by simp [h2]
          have hwj : IntKind.i64.wrap ((j : Int) + 1) = (j : Int) + 1 := by simp only [IntKind.wrap_i64]; omega
          clear h1 h2
          have hbl : Below W2.heap.size W2 (W2.alloc (.cells #[.int .i64 fr, .int .i64 t, .bool false, .bool false] 74)) := (Below.refl _ _).alloc (Nat.le_refl _) _
          have HJ1 := Lib.hid (HJa.out pre W2 _ none HJ2.out ⟨hbl.os, hbl.tape, hbl.output, hbl.size, fun k hk _ => hbl.block k hk⟩ (fun r e => by cases e))
          have HB1 := Lib.hid (HB2.out.trans (KpP.of_below hbl (show n₀ ≤ W2.heap.size by have := HB2.out.below.size; omega)))
          clear hbl
          gi_wp2
          refine ⟨fun _ h => (by cases h), ?_⟩
          gi_wp2
          go_roundw
          case rel => exact ⟨i, j + 1, k', t, pre, by go_num, by go_num, rfl, by omega, by omega, by omega, Lib.hid (by have e4 := E2.out; simpa using e4), HJ1, HB1⟩
          case measure => simp [intOf] <;> omega
        · skip
          have e2 := E1.out
          rw [if_neg h1, if_pos h2] at e2
          have E2 := Lib.hid e2
          clear e2 E1
          have hjl : j < 2 * b.length := by
            rcases Nat.lt_or_ge j (2 * b.length) with h | h
            · exact h
            · have e3 := HNb.out; rw [bnd_far b j h] at e3; omega
          have hn1 : (na == t) = false := by simp [h1]
          have hn2 : (nb' == t) = true := by simp [h2]
          have hwj : IntKind.i64.wrap ((j : Int) + 1) = (j : Int) + 1 := by simp only [IntKind.wrap_i64]; omega
          clear h1 h2
          have hbl : Below W2.heap.size W2 (W2.alloc (.cells #[.int .i64 fr, .int .i64 t, .bool false, .bool true] 74)) := (Below.refl _ _).alloc (Nat.le_refl _) _
          have HJ1 := Lib.hid (HJa.out pre W2 _ none HJ2.out ⟨hbl.os, hbl.tape, hbl.output, hbl.size, fun k hk _ => hbl.block k hk⟩ (fun r e => by cases e))
          have HB1 := Lib.hid (HB2.out.trans (KpP.of_below hbl (show n₀ ≤ W2.heap.size by have := HB2.out.below.size; omega)))
          clear hbl
          have hlen : pre.length < X.length := by rw [E2.out]; simp <;> omega
          obtain ⟨fn, tmps, assign, body, hy, hR⟩ := HYY.out pre ((fr, t), false, true) _ HJ1.out hlen
          dsimp only [pcV] at hy
          have HR := Lib.hid hR
          clear hR hlen
          gi_wp2
          refine HR.out.mono ?_
          rintro e W3 (⟨rfl, hJ3, hk3⟩ | ⟨rfl, hJx3⟩)
          · have HJ3 := Lib.hid hJ3
            have HB3 := Lib.hid (HB1.out.trans hk3)
            clear hJ3 hk3
            gi_wp2
            go_roundw
            case rel => exact ⟨i, j + 1, k', t, pre ++ [((fr, t), false, true)], by go_num, by go_num, rfl, by omega, by omega, by omega, Lib.hid (by have e4 := E2.out; simpa using e4), HJ3, HB3⟩
            case measure => simp [intOf] <;> omega
          · gi_wp2
            refine bodyPost_ret (results_none rfl _ _ _) rfl ?_
            exact ⟨⟨_, rfl⟩, .inr ⟨pre ++ [((fr, t), false, true)], ⟨pcs k' _ _ _ _ _, by have e4 := E2.out; simpa using e4.symm⟩, hJx3⟩⟩
    · have hia : ¬ (i : Int) < 2 * (a.length : Int) := by omega
      have hjb : ¬ (j : Int) < 2 * (b.length : Int) := by omega
      have hend : Hid (X = pre) := Lib.hid (by
        rw [HE.out, List.drop_eq_nil_of_le (by rw [fl_len]; omega), List.drop_eq_nil_of_le (by rw [fl_len]; omega)]
        cases k with
        | zero => simp [pcs]
        | succ k => simp [pcs])
      gi_wp2
      go_end0
      exact ⟨⟨_, rfl⟩, .inl (by rw [hend.out]; exact HJ.out)⟩
end Go.Proofs.Ytkjpficpkpfkdaa
