/- Slices that are read: a slice of strings, a slice of words. The law's few; Chain. -/
import Derived.Test.YtediohaamblpbaaDoorLink
import Derived.Deep.RegionLaw
import Derived.BigQuiet
import Derived.Lib.QuietBelow
namespace Go.Proofs.YtediohaamblpbaaDoor
open Go.ChangeShapes Go.WideShapes Go.ChangeAt Go.RowKit Go.Joins Ck

/-- The slice at A reads as f, for n elements of one cell each, in blocks below B. -/
def Rd (w : World) (B : Nat) (A : Option Addr) (n : Nat) (f : Nat → Value) : Prop :=
  ∀ k, k < n → ∃ b off, A = some ⟨b, off, none⟩ ∧ b < B ∧ w.cell? ⟨b, off + k, none⟩ = some (f k)
theorem Rd.below {w w' : World} {B B' : Nat} {A : Option Addr} {n : Nat} {f : Nat → Value} (h : Rd w B A n f) (hb : Below B' w w') (hB : B ≤ B') : Rd w' B A n f := fun k hk => by
  obtain ⟨b, off, e, hlt, hc⟩ := h k hk
  exact ⟨b, off, e, hlt, (hb.cell (p := ⟨b, off + k, none⟩) (by show b < B'; omega)).trans hc⟩
theorem Rd.more {w : World} {B B' : Nat} {A : Option Addr} {n : Nat} {f : Nat → Value} (h : Rd w B A n f) (hB : B ≤ B') : Rd w B' A n f := fun k hk => by
  obtain ⟨b, off, e, hlt, hc⟩ := h k hk
  exact ⟨b, off, e, by omega, hc⟩
theorem Rd.own {w : World} {base e n : Nat} {A : Option Addr} {c : Nat} {f : Nat → Value} (h : w.ownsRow base e 1 (.slice A n c) n ((List.range n).map f)) : Rd w w.heap.size A n f := fun k hk => by
  rcases h.2 with ⟨_, h0⟩ | ⟨g, cap, cur, hv, hbase, hg, hn, hcap, hsz, htake⟩
  · omega
  · injection hv with h1 h2 h3
    subst h1
    have hlt : g < w.heap.size := (Array.getElem?_eq_some_iff.1 hg).1
    refine ⟨g, 0, rfl, hlt, ?_⟩
    rw [cell_of_row w g _ cur _ _ hg]
    have := congrArg (fun l : List Value => l[k]?) htake
    simp only [Nat.mul_one] at this
    rw [List.getElem?_take_of_lt hk] at this
    rw [Nat.zero_add, ← Array.getElem?_toList, this]
    simp [hk]
theorem own_slice {w : World} {base e n : Nat} {v : Value} {xs : List Value} (h : w.ownsRow base e 1 v n xs) : ∃ A c, v = .slice A n c := by
  rcases h.2 with ⟨rfl, rfl⟩ | ⟨g, cap, cur, hv, _⟩
  · exact ⟨_, _, rfl⟩
  · exact ⟨_, _, hv⟩

def cut (n : Nat) (s : ByteArray) : ByteArray := if n < s.size then s.extract 0 n else s
theorem cut_size (n : Nat) (s : ByteArray) : (cut n s).size ≤ n := by
  unfold cut; split
  · simp; omega
  · omega
theorem str_info : (Tryd.prog.info? 9).map (fun i => (i.zero, i.size, i.bytes)) = some (some (.string ByteArray.empty), 1, 16) := by kernel_rfl
theorem range_snoc (f : Nat → Value) (k : Nat) : (List.range k).map f ++ [f k] = (List.range (k + 1)).map f := by
  rw [List.range_succ]; simp

section
variable {P : Program} {w : World}
/-- append of one element, which lies in a block of one cell, to a row of the call's own: as one step of a region that draws. -/
theorem step_append_one {ops : Array Oper} {o : Oper} {a : Act} {K : Act → World → Prop} {Q : Exit → Act → World → Prop} {E : Prop} (hg : o.guard = none) (s x : Operand) (t : TypeId)
    (ho : o.op = .call { callee := .builtin .append, args := #[s, x], argTypes := #[t, t] })
    (base : Nat) (e : TypeId) (i : TypeInfo) (z : Value) (bytes : Nat) (ht : P.underlying t = some (.slice e)) (hi : P.info? e = some i) (hz : i.zero = some z)
    (hsize : i.size = 1) (hby : i.bytes = bytes) (hzs : z.cells.size = 1)
    (v : Value) (n : Nat) (xs : List Value) (hs : a.eval s = v) (hown : w.ownsRow base e 1 v n xs)
    (g c : Nat) (u : Value) (hx : a.eval x = .slice (some ⟨g, 0, none⟩) 1 c) (hu : w.cell? ⟨g, 0, none⟩ = some u) (h1 : u.oneCell' = true)
    (hn : n ≤ 1000000) (hb : bytes ≤ 1000000) (hbase : base ≤ w.heap.size)
    (h : ∀ v' w', w'.ownsRow base e 1 v' (n + 1) (xs ++ [u]) → w.grownBy w' v.ownBlock → K (a.put o.dst v') w') :
    if Region.wanted o (yielded ops a.tmps) = true then Oper.wp P o a w K Q else E := by
  have hw : Region.wanted o (yielded ops a.tmps) = true := by simp [Region.wanted, hg]
  rw [if_pos hw]
  refine wp_append_own w s x t ho base e i z 1 bytes ht hi hz hsize hby hzs (by omega) v n xs hs hown ⟨g, 0, none⟩ 1 c [u] hx (by simp) (fun j y hy => ?_) (fun y hy => ?_) (by unfold maxLen; omega) ?_ hbase (fun v' w' h2 h3 _ => h v' w' h2 h3)
  · cases j with
    | zero => simp at hy; subst hy; exact hu
    | succ j => simp at hy
  · simp at hy; subst hy; exact h1
  · have := Nat.mul_le_mul (show n + 1 ≤ 1000001 by omega) hb
    omega
end
theorem below_grownBy {a w w' : World} {B base : Nat} {e n : Nat} {v : Value} {xs : List Value} (h : Below B a w) (hown : w.ownsRow base e 1 v n xs) (hg : w.grownBy w' v.ownBlock) (hB : B ≤ base) (hs : B ≤ a.heap.size) : Below B a w' := by
  refine ⟨hg.os.trans h.os, hg.tape.trans h.tape, hg.output.trans h.output, Nat.le_trans h.size hg.size, fun k hk => (hg.block k (by have := h.size; omega) (fun e => ?_)).trans (h.block k hk)⟩
  rcases hown.2 with ⟨rfl, _⟩ | ⟨g, cap, cur, rfl, hbase, _⟩
  · simp [Value.ownBlock] at e
  · simp [Value.ownBlock] at e; omega

set_option maxHeartbeats 1000000 in
theorem few_any (A : Option Addr) (n c : Nat) (ss : Nat → ByteArray) (hss : ∀ k, (ss k).size ≤ 9223372036854775807) (hn : n ≤ 9223372036854775807) (w : World) (hR : Rd w w.heap.size A n (fun k => .string (ss k))) :
    Calls Tryd.prog 27 #[.slice A n c] w fun e w' => (∃ v, w'.ownsRow w.heap.size 9 1 v (min n 8) ((List.range (min n 8)).map fun k => .string (cut 40 (ss k))) ∧ e = .returned v) ∧ Below w.heap.size w w' := by
  obtain ⟨i0, hi0, hz0, hz1, hz2⟩ := info_parts str_info
  have HR := Lib.hid hR
  have Hi0 := Lib.hid hi0
  have Hz0 := Lib.hid hz0
  have Hz1 := Lib.hid hz1
  have Hz2 := Lib.hid hz2
  have Hss := Lib.hid hss
  clear hR hi0 hz0 hz1 hz2 hss
  obtain ⟨M, hM⟩ : ∃ M, min n 8 = M := ⟨_, rfl⟩
  have hM1 : M ≤ n := by omega
  have hM2 : M ≤ 8 := by omega
  have hM3 : n ≤ M ∨ 8 ≤ M := by omega
  rw [hM]
  clear hM
  go_enter Tryd.func27, Tryd.ntmps27
  go_wp2_with fail
  go_loopw [3, 4] (fun v i wr => ∃ k : Nat, k ≤ M ∧ i = .int .i64 k ∧ Hid (wr.ownsRow w.heap.size 9 1 v k ((List.range k).map fun k => .string (cut 40 (ss k)))) ∧ Hid (Below w.heap.size w wr)) (fun _ i _ => 8 - (intOf i).toNat)
  case atStart => exact ⟨0, Nat.zero_le _, rfl, Lib.hid ⟨by simp, .inl ⟨rfl, rfl⟩⟩, Lib.hid (Below.refl _ _)⟩
  case round =>
    obtain ⟨k, hk, rfl, hown, hB⟩ := hrel
    by_cases hlt : k < M
    · obtain ⟨b, off, rfl, hb, hc⟩ := HR.out k (by omega)
      have hc2 := (hB.out.cell (p := ⟨b, off + k, none⟩) hb).trans hc
      have hs := Hss.out k
      clear hc
      have hkn : (k : Int) < n := by omega
      have hk8 : (k : Int) < 8 := by omega
      have hsn : (List.range k).map (fun k => Value.string (cut 40 (ss k))) ++ [Value.string (cut 40 (ss k))] = (List.range (k + 1)).map (fun k => Value.string (cut 40 (ss k))) := range_snoc (fun k => .string (cut 40 (ss k))) k
      have hz : (cut 40 (ss k)).size ≤ 40 := cut_size _ _
      obtain ⟨S, hS⟩ : ∃ S, cut 40 (ss k) = S := ⟨_, rfl⟩
      rw [hS] at hsn hz
      have Hsn := Lib.hid hsn
      clear hsn
      have hcut : (40 < (ss k).size ∧ (ss k).extract 0 40 = S) ∨ ((ss k).size ≤ 40 ∧ ss k = S) := by
        unfold cut at hS
        by_cases h : 40 < (ss k).size
        · rw [if_pos h] at hS; exact .inl ⟨h, hS⟩
        · rw [if_neg h] at hS; exact .inr ⟨by omega, hS⟩
      clear hS
      have hdec : ((40 : Int) < ((ss k).size : Int) ∧ (40 : Int) ≤ ((ss k).size : Int) ∧ (ss k).extract 0 40 = S ∧ (0 : Int) ≤ 40) ∨ (((40 : Int) < (S.size : Int)) = False ∧ (0 : Int) ≤ (S.size : Int) ∧ ss k = S ∧ S.extract 0 S.size = S) := by
        rcases hcut with ⟨h1, h2⟩ | ⟨h1, h2⟩
        · exact .inl ⟨by omega, by omega, h2, by omega⟩
        · refine .inr ⟨eq_false (by omega), by omega, h2, ?_⟩
          simp
      clear hcut
      have hc5 : ((S.size : Nat) : Int).toNat = S.size := Int.toNat_natCast _
      rcases hdec with ⟨hc1, hc3, hS2, hc4⟩ | ⟨hc1, hc3, hS2, hc4⟩
      all_goals
        go_wp2_with fail
        go_region_law (((refine step_append_one rfl (.tmp 15) (.tmp 27) 52 rfl w.heap.size 9 i0 _ 16 Tryd.underlying52 Hi0.out Hz0.out Hz1.out Hz2.out rfl u3 k _ (by simp [Act.eval, Act.put]) (by first | exact (hown.out.drew.alloc _) | exact (hown.out.alloc _).drew) wr.heap.size 1 (.string S) (by simp [Act.eval, Act.put]) (by simp [go_sem]) rfl (by omega) (by omega) (by have := hB.out.size; simp; omega) ?_); intro v1 w1 hown1 hg1))
        all_goals
          have HO := Lib.hid hown1
          have HB := Lib.hid (below_grownBy (B := w.heap.size) (a := w) (w := (wr.drew.alloc (.cells #[.string S] 9))) ((Below.drew hB.out).alloc hB.out.size _) (hown.out.drew.alloc _) hg1 (Nat.le_refl _) (Nat.le_refl _))
          clear hown1 hg1
          go_wp2_with fail
          go_roundw
          case rel => exact ⟨k + 1, by omega, by go_num, Lib.hid (by rw [← Hsn.out]; exact HO.out), HB⟩
          case measure => simp [intOf]; omega
    · obtain rfl : k = M := by omega
      rcases hM3 with h3 | h3
      · have h4 : ¬ (k : Int) < n := by omega
        go_wp2_with fail
        go_ret
        exact ⟨⟨_, hown.out, rfl⟩, hB.out⟩
      · have h4 : ¬ (k : Int) < 8 := by omega
        by_cases h5 : (k : Int) < n
        · go_wp2_with fail
          go_ret
          exact ⟨⟨_, hown.out, rfl⟩, hB.out⟩
        · go_wp2_with fail
          go_ret
          exact ⟨⟨_, hown.out, rfl⟩, hB.out⟩
end Go.Proofs.YtediohaamblpbaaDoor
