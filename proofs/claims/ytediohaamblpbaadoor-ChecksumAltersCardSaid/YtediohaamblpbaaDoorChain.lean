/- Chain and Verify. -/
import Derived.Test.YtediohaamblpbaaDoorFew
namespace Go.Proofs.YtediohaamblpbaaDoor
open Go.ChangeShapes Go.WideShapes Go.ChangeAt Go.RowKit Go.Joins Ck

/-- The link behind k records. -/
def pre (ss : Nat → List UInt8) : Nat → BitVec 32
  | 0 => 0#32
  | k + 1 => linkS (pre ss k) (ss k)
theorem own_below {w w' : World} {base e n : Nat} {v : Value} {xs : List Value} (h : w.ownsRow base e 1 v n xs) (hb : Below w.heap.size w w') : w'.ownsRow base e 1 v n xs :=
  World.ownsRow.kept (row := none) h ⟨hb.os, hb.tape, hb.output, hb.size, fun k hk _ => hb.block k hk⟩ (Classical.em _)
section
variable {P : Program} {w : World}
/-- append of one element, which lies in a block of one cell, to a row of the call's own. -/
theorem wpList_append_one {ops : Array Oper} {rest : List Oper} {o : Oper} {a : Act} {Q : Exit → Act → World → Prop} (hg : o.guard = none) (s x : Operand) (t : TypeId)
    (ho : o.op = .call { callee := .builtin .append, args := #[s, x], argTypes := #[t, t] })
    (base : Nat) (e : TypeId) (i : TypeInfo) (z : Value) (bytes : Nat) (ht : P.underlying t = some (.slice e)) (hi : P.info? e = some i) (hz : i.zero = some z)
    (hsize : i.size = 1) (hby : i.bytes = bytes) (hzs : z.cells.size = 1)
    (v : Value) (n : Nat) (xs : List Value) (hs : a.eval s = v) (hown : w.ownsRow base e 1 v n xs)
    (g c : Nat) (u : Value) (hx : a.eval x = .slice (some ⟨g, 0, none⟩) 1 c) (hu : w.cell? ⟨g, 0, none⟩ = some u) (h1 : u.oneCell' = true)
    (hn : n ≤ 1000000) (hb : bytes ≤ 1000000) (hbase : base ≤ w.heap.size)
    (h : ∀ v' w', w'.ownsRow base e 1 v' (n + 1) (xs ++ [u]) → w.grownBy w' v.ownBlock → wpList P ops Q rest (a.put o.dst v') w') : wpList P ops Q (o :: rest) a w := by
  refine wpList_append_own w hg s x t ho base e i z 1 bytes ht hi hz hsize hby hzs (by omega) v n xs hs hown ⟨g, 0, none⟩ 1 c [u] hx (by simp) (fun j y hy => ?_) (fun y hy => ?_) (by unfold maxLen; omega) ?_ hbase (fun v' w' h2 h3 _ => h v' w' h2 h3)
  · cases j with
    | zero => simp at hy; subst hy; exact hu
    | succ j => simp at hy
  · simp at hy; subst hy; exact h1
  · have := Nat.mul_le_mul (show n + 1 ≤ 1000001 by omega) hb
    omega
end
theorem u32_info : (Tryd.prog.info? 32).map (fun i => (i.zero, i.size, i.bytes)) = some (some (.int .u32 0), 1, 4) := by kernel_rfl
set_option maxHeartbeats 1000000 in
theorem chain_any (A : Option Addr) (n c : Nat) (hn : n ≤ 1000) (ss : Nat → ByteArray) (hss : ∀ k, (ss k).size ≤ 1000000) (w : World) (hR : Rd w w.heap.size A n (fun k => .string (ss k))) (hT : Tab w) :
    Calls Tryd.prog 28 #[.slice A n c] w fun e w' => (∃ v, w'.ownsRow w.heap.size 32 1 v n ((List.range n).map fun k => .int .u32 (pre (fun j => (ss j).data.toList) (k + 1)).toNat) ∧ e = .returned v) ∧ Below w.heap.size w w' := by
  obtain ⟨i0, hi0, hz0, hz1, hz2⟩ := info_parts u32_info
  have HR := Lib.hid hR
  have HT := Lib.hid hT
  have Hi0 := Lib.hid hi0
  have Hz0 := Lib.hid hz0
  have Hz1 := Lib.hid hz1
  have Hz2 := Lib.hid hz2
  have Hss := Lib.hid hss
  clear hR hi0 hz0 hz1 hz2 hss hT
  go_enter Tryd.func28, Tryd.ntmps28
  go_wp2_with fail
  go_loopw [3, 4, 9] (fun v l i wr => ∃ k : Nat, k ≤ n ∧ i = .int .i64 k ∧ l = .int .u32 (pre (fun j => (ss j).data.toList) k).toNat ∧ Hid (wr.ownsRow w.heap.size 32 1 v k ((List.range k).map fun k => .int .u32 (pre (fun j => (ss j).data.toList) (k + 1)).toNat)) ∧ Hid (Below w.heap.size w wr)) (fun _ _ i _ => n - (intOf i).toNat)
  case atStart => exact ⟨0, Nat.zero_le _, rfl, rfl, Lib.hid ⟨by simp, .inl ⟨rfl, rfl⟩⟩, Lib.hid (Below.refl _ _)⟩
  case round =>
    obtain ⟨k, hk, rfl, rfl, hown, hB⟩ := hrel
    by_cases hlt : k < n
    · obtain ⟨b, off, rfl, hb, hc⟩ := HR.out k hlt
      have hc2 := (hB.out.cell (p := ⟨b, off + k, none⟩) hb).trans hc
      clear hc
      have hsn : (List.range k).map (fun k => Value.int .u32 (pre (fun j => (ss j).data.toList) (k + 1)).toNat) ++ [Value.int .u32 (pre (fun j => (ss j).data.toList) (k + 1)).toNat] = (List.range (k + 1)).map (fun k => Value.int .u32 (pre (fun j => (ss j).data.toList) (k + 1)).toNat) := range_snoc (fun k => Value.int .u32 (pre (fun j => (ss j).data.toList) (k + 1)).toNat) k
      have hp : linkS (pre (fun j => (ss j).data.toList) k) (ss k).data.toList = pre (fun j => (ss j).data.toList) (k + 1) := rfl
      generalize pre (fun j => (ss j).data.toList) (k + 1) = P at *
      have Hsn := Lib.hid hsn
      have Hp := Lib.hid hp
      clear hsn hp
      go_wp2_with fail
      refine (link_any (pre (fun j => (ss j).data.toList) k) _ rfl (ss k) (Hss.out k) _ (HT.out.below hB.out)).mono ?_
      rintro e w1 ⟨rfl, hb1⟩
      rw [Hp.out]
      have HO1 := Lib.hid (own_below hown.out hb1)
      have HB1 := Lib.hid (Below.trans hB.out (hb1.mono hB.out.size))
      clear hb1 hc2
      go_wp2_with (at_builtin; refine wpList_append_one rfl (.tmp 16) (.tmp 18) 53 rfl w.heap.size 32 i0 _ 4 Tryd.underlying53 Hi0.out Hz0.out Hz1.out Hz2.out rfl u3 k _ rfl (HO1.out.alloc _) w1.heap.size 1 (.int .u32 P.toNat) rfl (by simp [go_sem]) rfl (by omega) (by omega) (by have := HB1.out.size; simp; omega) ?_; intro v2 w2 hown2 hg2)
      have HO := Lib.hid hown2
      have HB := Lib.hid (below_grownBy (B := w.heap.size) (a := w) (HB1.out.alloc HB1.out.size (.cells #[.int .u32 P.toNat] 32)) (HO1.out.alloc _) hg2 (Nat.le_refl _) (Nat.le_refl _))
      clear hown2 hg2
      go_wp2_with fail
      go_roundw
      case rel => exact ⟨k + 1, by omega, by go_num, Hp.out ▸ rfl, Lib.hid (by rw [← Hsn.out]; exact HO.out), HB⟩
      case measure => simp [intOf]; omega
    · obtain rfl : k = n := by omega
      go_wp2_with fail
      go_ret
      exact ⟨⟨_, hown.out, rfl⟩, hB.out⟩

/-- What stands before link k, and what it means that link k is right. -/
def pv (xs : Nat → BitVec 32) : Nat → BitVec 32
  | 0 => 0#32
  | k + 1 => xs k
def good (ss : Nat → List UInt8) (xs : Nat → BitVec 32) (m j : Nat) : Prop := j < m ∧ xs j = linkS (pv xs j) (ss j)
/-- What Verify returns: the first index that is wrong, or the number of records. -/
def Ver (ss : Nat → List UInt8) (xs : Nat → BitVec 32) (n m r : Nat) (b : Bool) : Prop :=
  (r < n ∧ b = false ∧ (∀ j, j < r → good ss xs m j) ∧ ¬ good ss xs m r) ∨ (r = n ∧ (∀ j, j < n → good ss xs m j) ∧ b = decide (n = m))
set_option maxHeartbeats 1000000 in
theorem verify_any (A : Option Addr) (n c : Nat) (hn : n ≤ 1000) (ss : Nat → ByteArray) (hss : ∀ k, (ss k).size ≤ 1000000) (A2 : Option Addr) (m c2 : Nat) (hm : m ≤ 9223372036854775807) (xs : Nat → BitVec 32) (w : World) (hR : Rd w w.heap.size A n (fun k => .string (ss k))) (hR2 : Rd w w.heap.size A2 m (fun k => .int .u32 (xs k).toNat)) (hT : Tab w) :
    Calls Tryd.prog 31 #[.slice A n c, .slice A2 m c2] w fun e w' => (∃ (r : Nat) (b : Bool), Ver (fun j => (ss j).data.toList) xs n m r b ∧ e = .returned (.tuple #[.int .i64 r, .bool b])) ∧ Below w.heap.size w w' := by
  have HR := Lib.hid hR
  have HR2 := Lib.hid hR2
  have HT := Lib.hid hT
  have Hss := Lib.hid hss
  clear hR hR2 hss hT
  go_enter Tryd.func31, Tryd.ntmps31
  go_wp2_with fail
  go_loopw [6, 11] (fun l i wr => ∃ k : Nat, k ≤ n ∧ i = .int .i64 k ∧ l = .int .u32 (pv xs k).toNat ∧ Hid (∀ j, j < k → good (fun j => (ss j).data.toList) xs m j) ∧ Hid (Below w.heap.size w wr)) (fun _ i _ => n - (intOf i).toNat)
  case atStart => exact ⟨0, Nat.zero_le _, rfl, rfl, Lib.hid (fun j hj => absurd hj (by omega)), Lib.hid (Below.refl _ _)⟩
  case round =>
    obtain ⟨k, hk, rfl, rfl, hgood, hB⟩ := hrel
    have hkm : k ≤ m := by
      rcases Nat.eq_zero_or_pos k with h0 | h0
      · omega
      · have := (hgood.out (k - 1) (by omega)).1
        omega
    by_cases hlt : k < n
    · obtain ⟨b, off, rfl, hb, hc⟩ := HR.out k hlt
      have hcA := (hB.out.cell (p := ⟨b, off + k, none⟩) hb).trans hc
      clear hc
      by_cases hkm2 : k < m
      · obtain ⟨b2, off2, rfl, hb2, hc2⟩ := HR2.out k hkm2
        have hcB := (hB.out.cell (p := ⟨b2, off2 + k, none⟩) hb2).trans hc2
        have hne : ((k : Int) == (m : Int)) = false := by rw [beq_eq_false_iff_ne]; omega
        have hcG : ∀ d os, (Go.Sort.grow (redrawn wr d) os).cell? ⟨b2, off2 + k, none⟩ = some (.int .u32 (xs k).toNat) := fun d os => cell_regrown hcB d os
        have cL : ∀ d os, Calls Tryd.prog 29 #[.int .u32 (pv xs k).toNat, .string (ss k)] (Go.Sort.grow (redrawn wr d) os) fun e w'' => e = .returned (.int .u32 (linkS (pv xs k) (ss k).data.toList).toNat) ∧ ∃ p : Regrown, w'' = Go.Sort.grow (redrawn wr p.d) p.os :=
          fun d os => Calls.regrown_of (link_any (pv xs k) _ rfl (ss k) (Hss.out k) _ ((HT.out.below hB.out).below (below_regrown wr d os)))
        have CL := Lib.hid cL
        clear cL hc2
        by_cases hg : xs k = linkS (pv xs k) (ss k).data.toList
        · have ht : (((xs k).toNat : Int) != ((linkS (pv xs k) (ss k).data.toList).toNat : Int)) = false := by rw [bne_eq_false_iff_eq, ← hg]
          have Hg := Lib.hid hg
          clear hg
          go_wp2_with fail
          refine wp_region_quiet_below (by kernel_rfl) (by kernel_rfl) ?_
          repeat (go_big_quiet_step ((exact CL.out _ _)))
          refine wpQuiet_nil ?_
          intro _ hw'
          obtain ⟨⟨dq, osq⟩, hw''⟩ := hw'
          subst hw''
          have HB := Lib.hid (Below.trans hB.out ((below_regrown wr dq osq).mono hB.out.size))
          have hcC := hcG dq osq
          clear hcG ht
          go_wp2_with fail
          go_roundw
          case rel => exact ⟨k + 1, by omega, by go_num, rfl, Lib.hid (fun j hj => by
            rcases Nat.lt_or_eq_of_le (Nat.le_of_lt_succ hj) with h | h
            · exact hgood.out j h
            · subst h; exact ⟨hkm2, Hg.out⟩), HB⟩
          case measure => simp [intOf]; omega
        · have ht : (((xs k).toNat : Int) != ((linkS (pv xs k) (ss k).data.toList).toNat : Int)) = true := by
            rw [bne_iff_ne]
            intro e
            exact hg (BitVec.eq_of_toNat_eq (by omega))
          have Hg := Lib.hid hg
          clear hg
          go_wp2_with fail
          refine wp_region_quiet_below (by kernel_rfl) (by kernel_rfl) ?_
          repeat (go_big_quiet_step ((exact CL.out _ _)))
          refine wpQuiet_nil ?_
          intro _ hw'
          obtain ⟨⟨dq, osq⟩, hw''⟩ := hw'
          subst hw''
          have HB := Lib.hid (Below.trans hB.out ((below_regrown wr dq osq).mono hB.out.size))
          clear hcG ht
          go_wp2_with fail
          go_ret2
          exact ⟨⟨k, false, .inl ⟨hlt, rfl, hgood.out, fun h => Hg.out h.2⟩, rfl⟩, HB.out⟩
      · have hne : ((k : Int) == (m : Int)) = true := by rw [beq_iff_eq]; omega
        go_wp2_with fail
        go_quiet (fail)
        go_wp2_with fail
        go_ret2
        exact ⟨⟨k, false, .inl ⟨hlt, rfl, hgood.out, fun h => hkm2 h.1⟩, rfl⟩, below_drewN hB.out _⟩
    · obtain rfl : k = n := by omega
      obtain ⟨D, hD⟩ : ∃ D, decide (k = m) = D := ⟨_, rfl⟩
      have hk2 : ((k : Int) == (m : Int)) = D := by
        rw [← hD]
        by_cases h : k = m
        · subst h; simp
        · rw [beq_eq_false_iff_ne.2 (by omega)]; simp [h]
      have HD := Lib.hid hD
      clear hD
      go_wp2_with fail
      go_ret2
      exact ⟨⟨k, D, .inr ⟨rfl, hgood.out, HD.out.symm⟩, rfl⟩, hB.out⟩
end Go.Proofs.YtediohaamblpbaaDoor
