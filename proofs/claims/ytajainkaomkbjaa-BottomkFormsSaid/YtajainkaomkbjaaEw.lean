/- The Writer: what layer 1's texts say of it, as far as this seat has it (made by wip/bin/pick.py) -/
import Derived.Test.YtajainkaomkbjaaRows
import Derived.Test.YtajainkaomkbjaaShelf
import Derived.BigQuiet
import Derived.ChangeAlike
import Derived.Deep.Heap
import Derived.Deep.QuietTactic
import Derived.Handy
import Derived.IntWalk
import Derived.KernelRfl
import Derived.Laws.BitsAllLaws
import Derived.Laws.CopyOwn
import Derived.Laws.IdiomStrings
import Derived.Lib.AppendStr
import Derived.Lib.BitFns
import Derived.Lib.BufferWrite
import Derived.Lib.Hide
import Derived.Lib.ItoaNum
import Derived.OpenShut
import Derived.Outline
import Derived.OwnWalk
import Derived.ProofKit
import Derived.RegionTactic
import Derived.WalkKit
namespace Go.Proofs.Ytajainkaomkbjaa.E.En
/-- How many bytes a magnitude takes. -/
def sz (m : Nat) : Nat := (Lib.bitLen m + 7) / 8
def mask (n : Int) : UInt8 := if n < 0 then 255 else 0
def first (n : Int) : UInt8 := UInt8.ofNat (if n < 0 then 128 - sz n.natAbs else 128 + sz n.natAbs)
/-- Byte number j of the magnitude, from the lowest one on, as it is written. -/
def dig (n : Int) (j : Nat) : UInt8 := UInt8.ofNat (n.natAbs / 2 ^ (8 * j) % 256) ^^^ mask n
/-- The bytes of the magnitude behind which t are still to come. -/
def digs (n : Int) (t : Nat) : List UInt8 := (List.range (sz n.natAbs - t)).map fun i => dig n (sz n.natAbs - 1 - i)
def num (n : Int) : List UInt8 := first n :: digs n 0
theorem bitLen_le (m : Nat) (h : m < 18446744073709551616) : Lib.bitLen m ≤ 64 := by
  rcases Nat.eq_zero_or_pos m with rfl | h0
  · unfold Lib.bitLen; rw [Lib.bitLenAux_zero]; omega
  · obtain ⟨h1, h2, h3⟩ := Lib.bitLenAux_bounds 64 m h (by omega)
    rcases Nat.lt_or_ge 64 (Lib.bitLen m) with h4 | h4
    · exfalso
      have : 2 ^ 64 ≤ 2 ^ (Lib.bitLen m - 1) := Nat.pow_le_pow_right (by omega) (by omega)
      have h2' : 2 ^ (Lib.bitLen m - 1) ≤ m := h2
      omega
    · exact h4
theorem sz_le (m : Nat) (h : m < 18446744073709551616) : sz m ≤ 8 := by
  have := bitLen_le m h
  unfold sz; omega
theorem digs_all (n : Int) : digs n (sz n.natAbs) = [] := by unfold digs; rw [Nat.sub_self]; rfl
theorem digs_step (n : Int) (j : Nat) (h : j < sz n.natAbs) : digs n (j + 1) ++ [dig n j] = digs n j := by
  unfold digs
  have e : sz n.natAbs - j = (sz n.natAbs - (j + 1)) + 1 := by omega
  rw [e, List.range_succ, List.map_append]
  simp only [List.map_cons, List.map_nil]
  congr 3
  omega
theorem digs_len (n : Int) (t : Nat) : (digs n t).length = sz n.natAbs - t := by simp [digs]
theorem num_len (n : Int) : (num n).length = 1 + sz n.natAbs := by simp [num, digs_len]; omega
end Go.Proofs.Ytajainkaomkbjaa.E.En
namespace Go.Proofs.Ytajainkaomkbjaa.E
open Go.ChangeShapes Go.WideShapes Go.ChangeAt Go.RowKit En
def u8v (b : UInt8) : Value := .int .u8 (b.toNat : Int)
theorem u8_info : (Try.prog.info? 5).map (fun i => (i.zero, i.size, i.bytes)) = some (some (.int .u8 0), 1, 1) := by kernel_rfl
section
variable {P : Program} {w : World}
/-- append of one element, which lies in a block of one cell, to a row of the call's own. -/
theorem wpList_append_one {ops : Array Oper} {rest : List Oper} {o : Oper} {a : Act} {Q : Exit → Act → World → Prop} (hg : o.guard = none) (s x : Operand) (t : TypeId)
    (ho : o.op = .call { callee := .builtin .append, args := #[s, x], argTypes := #[t, t] })
    (base : Nat) (e : TypeId) (i : TypeInfo) (z : Value) (bytes : Nat) (ht : P.underlying t = some (.slice e)) (hi : P.info? e = some i) (hz : i.zero = some z)
    (hsize : i.size = 1) (hby : i.bytes = bytes) (hzs : z.cells.size = 1)
    (v : Value) (n : Nat) (xs : List Value) (hs : a.eval s = v) (hown : w.ownsRow base e 1 v n xs)
    (g c : Nat) (u : Value) (hx : a.eval x = .slice (some ⟨g, 0, none⟩) 1 c) (hu : w.cell? ⟨g, 0, none⟩ = some u) (h1 : u.oneCell' = true)
    (hn : n ≤ 1000000) (hb : bytes ≤ 1000000) (hbase : base ≤ w.heap.size)
    (h : ∀ v' w', w'.ownsRow base e 1 v' (n + 1) (xs ++ [u]) → w.grownBy w' v.ownBlock → wpList P ops Q rest (a.put o.dst v') w') : wpList P ops Q (o :: rest) a w := by
  refine wpList_append_own w hg s x t ho base e i z 1 bytes ht hi hz hsize hby hzs (by omega) v n xs hs hown ⟨g, 0, none⟩ 1 c [u] hx (by simp) (fun j y hy => ?_) (fun y hy => ?_) (by unfold maxLen; omega) ?_ hbase (fun v' w' h2 h3 _ => h v' w' h2 h3)
  · cases j with
    | zero => simp at hy; subst hy; exact hu
    | succ j => simp at hy
  · simp at hy; subst hy; exact h1
  · have := Nat.mul_le_mul (show n + 1 ≤ 1000001 by omega) hb
    omega
end
theorem below_own {a w w' : World} {base e n : Nat} {v : Value} {xs : List Value} (h : Below base a w) (hown : w.ownsRow base e 1 v n xs) (hg : w.grownBy w' v.ownBlock) (hs : base ≤ a.heap.size) : Below base a w' := by
  refine ⟨hg.os.trans h.os, hg.tape.trans h.tape, hg.output.trans h.output, Nat.le_trans h.size hg.size, fun k hk => (hg.block k (by have := h.size; omega) (fun e => ?_)).trans (h.block k hk)⟩
  rcases hown.2 with ⟨rfl, _⟩ | ⟨g, cap, cur, rfl, hbase, _⟩
  · simp [Value.ownBlock] at e
  · simp [Value.ownBlock] at e; omega
theorem len64_any (m : Nat) (h : m < 18446744073709551616) (w : World) :
    Calls Try.prog 95 #[.int .u64 (m : Int)] w fun e w' => e = .returned (.int .i64 (Lib.bitLen m : Nat)) ∧ w = w' :=
  (Try.bits_Len64 (m : Int) w (by omega) (by omega)).mono fun _ _ ⟨he, hw⟩ => ⟨by rw [he, Int.toNat_natCast], hw.symm⟩
theorem first_pos (n : Int) (h : ¬ n < 0) (h8 : sz n.natAbs ≤ 8) : ((first n).toNat : Int) = 128 + (sz n.natAbs : Int) := by
  unfold first
  rw [if_neg h, UInt8.toNat_ofNat']; omega
theorem first_neg (n : Int) (h : n < 0) (h8 : sz n.natAbs ≤ 8) : ((first n).toNat : Int) = 128 - (sz n.natAbs : Int) := by
  unfold first
  rw [if_pos h, UInt8.toNat_ofNat']; omega
theorem digit (m j : Nat) : ((m : Int) / 2 ^ (8 * j) % 256) = ((UInt8.ofNat (m / 2 ^ (8 * j) % 256)).toNat : Int) := by
  rw [UInt8.toNat_ofNat']
  have : ((m : Int) / 2 ^ (8 * j)) = ((m / 2 ^ (8 * j) : Nat) : Int) := by simp
  rw [this]; omega
theorem dig_pos (n : Int) (h : ¬ n < 0) (j : Nat) : bits .xor .u8 ((n.natAbs : Int) / 2 ^ (8 * j) % 256) 0 = ((dig n j).toNat : Int) := by
  rw [digit]
  have := u8_xor_nat (UInt8.ofNat (n.natAbs / 2 ^ (8 * j) % 256)).toNat 0 (UInt8.toNat_lt _) (by omega)
  rw [show (0 : Int) = ((0 : Nat) : Int) from rfl, this]
  unfold dig mask
  rw [if_neg h, UInt8.toNat_xor]; rfl
theorem dig_neg (n : Int) (h : n < 0) (j : Nat) : bits .xor .u8 ((n.natAbs : Int) / 2 ^ (8 * j) % 256) 255 = ((dig n j).toNat : Int) := by
  rw [digit]
  have := u8_xor_nat (UInt8.ofNat (n.natAbs / 2 ^ (8 * j) % 256)).toNat 255 (UInt8.toNat_lt _) (by omega)
  rw [show (255 : Int) = ((255 : Nat) : Int) from rfl, this]
  unfold dig mask
  rw [if_pos h, UInt8.toNat_xor]; rfl
/-- Below, and no block is touched that holds no bytes. -/
def Bk (base : Nat) (w w' : World) : Prop :=
  Below base w w' ∧ ∀ (i : Nat) (cs : Array Value) (t : TypeId), t ≠ 5 → w.heap[i]? = some (Obj.cells cs t (0, 0)) → w'.heap[i]? = some (Obj.cells cs t (0, 0))
theorem Bk.refl (base : Nat) (w : World) : Bk base w w := ⟨Below.refl _ _, fun _ _ _ _ h => h⟩
theorem Bk.trans {base : Nat} {a b c : World} (h : Bk base a b) (k : Bk base b c) : Bk base a c := ⟨h.1.trans k.1, fun i cs t ht hi => k.2 i cs t ht (h.2 i cs t ht hi)⟩
theorem Bk.alloc {base : Nat} {a w : World} (h : Bk base a w) (hb : base ≤ w.heap.size) (o : Obj) : Bk base a (w.alloc o) :=
  ⟨h.1.alloc hb o, fun i cs t ht hi => by
    have h1 := h.2 i cs t ht hi
    have hlt : i < w.heap.size := (Array.getElem?_eq_some_iff.1 h1).1
    show (w.heap.push o)[i]? = _
    rw [Array.getElem?_push, if_neg (by omega)]; exact h1⟩
theorem Bk.drew {base : Nat} {a w : World} (h : Bk base a w) : Bk base a w.drew := ⟨Below.drew h.1, h.2⟩
theorem bk_own {a w w' : World} {base n : Nat} {v : Value} {xs : List Value} (h : Bk base a w) (hown : w.ownsRow base 5 1 v n xs) (hg : w.grownBy w' v.ownBlock) (hs : base ≤ a.heap.size) : Bk base a w' :=
  ⟨below_own h.1 hown hg hs, fun i cs t ht hi => by
    have h1 := h.2 i cs t ht hi
    have hlt : i < w.heap.size := (Array.getElem?_eq_some_iff.1 h1).1
    refine (hg.block i hlt (fun e => ?_)).trans h1
    rcases hown.2 with ⟨rfl, _⟩ | ⟨g, cap, cur, rfl, hbase, hh, _⟩
    · simp [Value.ownBlock] at e
    · simp [Value.ownBlock] at e
      rw [← e, h1] at hh
      simp at hh
      exact ht hh.2⟩
set_option maxRecDepth 100000 in
set_option maxHeartbeats 2000000 in
theorem append_number (base : Nat) (v : Value) (len : Nat) (xs : List UInt8) (hlen : len ≤ 900000) (n : Int) (h1 : -9223372036854775808 ≤ n) (h2 : n ≤ 9223372036854775807) (w : World) (hbase : base ≤ w.heap.size) (hown : w.ownsRow base 5 1 v len (xs.map u8v)) :
    Calls Try.prog 74 #[v, .int .i64 n] w fun e w' => (∃ v', w'.ownsRow base 5 1 v' (len + (num n).length) ((xs ++ num n).map u8v) ∧ e = .returned v') ∧ Bk base w w' := by
  obtain ⟨i0, hi0, hz0, hz1, hz2⟩ := info_parts u8_info
  have Hi0 := Lib.hid hi0
  have Hz0 := Lib.hid hz0
  have Hz1 := Lib.hid hz1
  have Hz2 := Lib.hid hz2
  have Hown := Lib.hid hown
  clear hi0 hz0 hz1 hz2 hown
  by_cases hn : n < 0
  · skip
    have hm : IntKind.u64.wrap (-IntKind.u64.wrap n) = ((n.natAbs : Nat) : Int) := by simp only [IntKind.wrap_u64]; omega
    have hnb : ((n.natAbs : Nat) : Int) ≤ 9223372036854775808 := by omega
    have hnb2 : n.natAbs < 18446744073709551616 := by omega
    have h8 := sz_le n.natAbs hnb2
    have hl8 := bitLen_le n.natAbs hnb2
    have hsz : ((Lib.bitLen n.natAbs : Int) + 7) / 8 = (sz n.natAbs : Int) := by unfold sz; omega
    have hfirst := first_neg n hn h8
    have hdig := fun j => dig_neg n hn j
    have hall := digs_all n
    have hstep := fun j => digs_step n j
    have hnl := num_len n
    obtain ⟨k, hk⟩ : ∃ k, sz n.natAbs = k := ⟨_, rfl⟩
    rw [hk] at hsz h8 hfirst hall hnl
    simp only [hk] at hstep
    have Hfirst : Hid (u8v (first n) = .int .u8 (128 - (k : Int))) := Lib.hid (by unfold u8v; rw [hfirst])
    have Hdig := Lib.hid hdig
    have Hall := Lib.hid hall
    have Hstep := Lib.hid hstep
    have Hnl := Lib.hid hnl
    have hk8 : (k : Int) ≤ 8 := by omega
    clear hk hfirst hdig hall hstep hnl hl8
    go_enter Try.func74, Try.ntmps74
    go_wp2_with fail
    refine (len64_any n.natAbs hnb2 _).mono ?_
    rintro e w' ⟨rfl, rfl⟩
    go_wp2_with (at_builtin; refine wpList_append_one rfl (.tmp 26) (.tmp 29) 24 rfl base 5 i0 _ 1 Try.underlying24 Hi0.out Hz0.out Hz1.out Hz2.out rfl v len _ rfl (Hown.out.alloc _) w.heap.size 1 (.int .u8 (128 - (k : Int))) rfl (by simp [go_sem]) rfl (by omega) (by omega) (by simp; omega) ?_; intro v2 w2 hown2 hg2; have HB2 := Lib.hid (bk_own (a := w) ((Bk.refl base w).alloc hbase (.cells #[.int .u8 (128 - (k : Int))] 5)) (Hown.out.alloc _) hg2 hbase); have HO2 := Lib.hid hown2; clear hown2 hg2)
    go_loopw [0, 9] (fun u i wr => ∃ t : Nat, t ≤ k ∧ i = .int .i64 (8 * (t : Int) - 8) ∧ Hid (wr.ownsRow base 5 1 u (len + 1 + (k - t)) ((xs ++ first n :: digs n t).map u8v)) ∧ Hid (Bk base w wr)) (fun _ i _ => (intOf i + 8).toNat)
    case atStart =>
      refine ⟨k, Nat.le_refl _, by go_num, Lib.hid ?_, HB2⟩
      rw [Hall.out, Nat.sub_self, List.map_append, List.map_cons, List.map_nil, Hfirst.out]
      exact HO2.out
    case round =>
      obtain ⟨t, ht, rfl, hown, hB⟩ := hrel
      rcases Nat.eq_zero_or_pos t with h0 | h0
      · subst h0
        go_wp2_with fail
        go_ret
        refine ⟨⟨_, ?_, rfl⟩, hB.out⟩
        have h := hown.out
        rw [Nat.sub_zero] at h
        rw [Hnl.out, ← Nat.add_assoc]
        exact h
      · obtain ⟨j, rfl⟩ : ∃ j, t = j + 1 := ⟨t - 1, by omega⟩
        have e8 : 8 * (((j + 1 : Nat)) : Int) - 8 = 8 * (j : Int) := by omega
        rw [e8]
        have hd := Hdig.out j
        have Hst := Lib.hid (Hstep.out j (by omega))
        have hbs := hB.out.1.size
        go_wp2_with (at_builtin; refine wpList_append_one rfl (.tmp 38) (.tmp 45) 24 rfl base 5 i0 _ 1 Try.underlying24 Hi0.out Hz0.out Hz1.out Hz2.out rfl u0 (len + 1 + (k - (j + 1))) _ rfl (hown.out.alloc _) wr.heap.size 1 (u8v (dig n j)) rfl (by simp [go_sem]; rfl) rfl (by omega) (by omega) (by simp; omega) ?_; intro v3 w3 hown3 hg3; have HB3 := Lib.hid (bk_own (a := w) (hB.out.alloc (by omega) (.cells #[u8v (dig n j)] 5)) (hown.out.alloc _) hg3 hbase); have HO3 := Lib.hid hown3; clear hown3 hg3)
        go_roundw
        case rel =>
          refine ⟨j, by omega, by go_num, Lib.hid ?_, HB3⟩
          have h := HO3.out
          rw [← List.map_singleton (f := u8v), ← List.map_append, List.append_assoc, List.cons_append, Hst.out] at h
          rw [show len + 1 + (k - j) = len + 1 + (k - (j + 1)) + 1 from by omega]
          exact h
        case measure => simp [intOf]; omega
  · skip
    have hm : IntKind.u64.wrap n = ((n.natAbs : Nat) : Int) := by rw [IntKind.wrap_u64]; omega
    have hnb : ((n.natAbs : Nat) : Int) ≤ 9223372036854775807 := by omega
    have hnb2 : n.natAbs < 18446744073709551616 := by omega
    have h8 := sz_le n.natAbs hnb2
    have hl8 := bitLen_le n.natAbs hnb2
    have hsz : ((Lib.bitLen n.natAbs : Int) + 7) / 8 = (sz n.natAbs : Int) := by unfold sz; omega
    have hfirst := first_pos n hn h8
    have hdig := fun j => dig_pos n hn j
    have hall := digs_all n
    have hstep := fun j => digs_step n j
    have hnl := num_len n
    obtain ⟨k, hk⟩ : ∃ k, sz n.natAbs = k := ⟨_, rfl⟩
    rw [hk] at hsz h8 hfirst hall hnl
    simp only [hk] at hstep
    have Hfirst : Hid (u8v (first n) = .int .u8 (128 + (k : Int))) := Lib.hid (by unfold u8v; rw [hfirst])
    have Hdig := Lib.hid hdig
    have Hall := Lib.hid hall
    have Hstep := Lib.hid hstep
    have Hnl := Lib.hid hnl
    have hk8 : (k : Int) ≤ 8 := by omega
    clear hk hfirst hdig hall hstep hnl hl8
    go_enter Try.func74, Try.ntmps74
    go_wp2_with fail
    refine (len64_any n.natAbs hnb2 _).mono ?_
    rintro e w' ⟨rfl, rfl⟩
    go_wp2_with (at_builtin; refine wpList_append_one rfl (.tmp 26) (.tmp 29) 24 rfl base 5 i0 _ 1 Try.underlying24 Hi0.out Hz0.out Hz1.out Hz2.out rfl v len _ rfl (Hown.out.alloc _) w.heap.size 1 (.int .u8 (128 + (k : Int))) rfl (by simp [go_sem]) rfl (by omega) (by omega) (by simp; omega) ?_; intro v2 w2 hown2 hg2; have HB2 := Lib.hid (bk_own (a := w) ((Bk.refl base w).alloc hbase (.cells #[.int .u8 (128 + (k : Int))] 5)) (Hown.out.alloc _) hg2 hbase); have HO2 := Lib.hid hown2; clear hown2 hg2)
    go_loopw [0, 9] (fun u i wr => ∃ t : Nat, t ≤ k ∧ i = .int .i64 (8 * (t : Int) - 8) ∧ Hid (wr.ownsRow base 5 1 u (len + 1 + (k - t)) ((xs ++ first n :: digs n t).map u8v)) ∧ Hid (Bk base w wr)) (fun _ i _ => (intOf i + 8).toNat)
    case atStart =>
      refine ⟨k, Nat.le_refl _, by go_num, Lib.hid ?_, HB2⟩
      rw [Hall.out, Nat.sub_self, List.map_append, List.map_cons, List.map_nil, Hfirst.out]
      exact HO2.out
    case round =>
      obtain ⟨t, ht, rfl, hown, hB⟩ := hrel
      rcases Nat.eq_zero_or_pos t with h0 | h0
      · subst h0
        go_wp2_with fail
        go_ret
        refine ⟨⟨_, ?_, rfl⟩, hB.out⟩
        have h := hown.out
        rw [Nat.sub_zero] at h
        rw [Hnl.out, ← Nat.add_assoc]
        exact h
      · obtain ⟨j, rfl⟩ : ∃ j, t = j + 1 := ⟨t - 1, by omega⟩
        have e8 : 8 * (((j + 1 : Nat)) : Int) - 8 = 8 * (j : Int) := by omega
        rw [e8]
        have hd := Hdig.out j
        have Hst := Lib.hid (Hstep.out j (by omega))
        have hbs := hB.out.1.size
        go_wp2_with (at_builtin; refine wpList_append_one rfl (.tmp 38) (.tmp 45) 24 rfl base 5 i0 _ 1 Try.underlying24 Hi0.out Hz0.out Hz1.out Hz2.out rfl u0 (len + 1 + (k - (j + 1))) _ rfl (hown.out.alloc _) wr.heap.size 1 (u8v (dig n j)) rfl (by simp [go_sem]; rfl) rfl (by omega) (by omega) (by simp; omega) ?_; intro v3 w3 hown3 hg3; have HB3 := Lib.hid (bk_own (a := w) (hB.out.alloc (by omega) (.cells #[u8v (dig n j)] 5)) (hown.out.alloc _) hg3 hbase); have HO3 := Lib.hid hown3; clear hown3 hg3)
        go_roundw
        case rel =>
          refine ⟨j, by omega, by go_num, Lib.hid ?_, HB3⟩
          have h := HO3.out
          rw [← List.map_singleton (f := u8v), ← List.map_append, List.append_assoc, List.cons_append, Hst.out] at h
          rw [show len + 1 + (k - j) = len + 1 + (k - (j + 1)) + 1 from by omega]
          exact h
        case measure => simp [intOf]; omega
end Go.Proofs.Ytajainkaomkbjaa.E
namespace Go.Proofs.Ytajainkaomkbjaa.E
open Go.ChangeShapes Go.WideShapes Go.ChangeAt Go.RowKit En
/-- The parts behind a pointer, the last one first. -/
def Parts (w : World) : Value → List (List UInt8) → Prop
  | v, [] => v = .pointer none
  | v, f :: fs => ∃ p before, v = .pointer (some ⟨p, 0, none⟩) ∧ w.heap[p]? = some (.cells #[before, .string ⟨f.toArray⟩] 101 (0, 0)) ∧ Parts w before fs
def total (fs : List (List UInt8)) : Nat := (fs.map List.length).foldr (· + ·) 0
theorem total_cons (f : List UInt8) (fs : List (List UInt8)) : total (f :: fs) = f.length + total fs := rfl
/-- All bytes, in the order in which they were appended. -/
def whole (fs : List (List UInt8)) : List UInt8 := fs.reverse.flatten
theorem whole_cons (f : List UInt8) (fs : List (List UInt8)) : whole (f :: fs) = whole fs ++ f := by simp [whole]
theorem whole_len (fs : List (List UInt8)) : (whole fs).length = total fs := by
  induction fs with
  | nil => rfl
  | cons f fs ih => rw [whole_cons, List.length_append, ih, total_cons]; omega
theorem Parts.same {w w' : World} {v : Value} {fs : List (List UInt8)} (h : Parts w v fs) (e : ∀ (p : Nat) (cs : Array Value), w.heap[p]? = some (Obj.cells cs 101 (0, 0)) → w'.heap[p]? = w.heap[p]?) : Parts w' v fs := by
  induction fs generalizing v with
  | nil => exact h
  | cons f fs ih =>
    obtain ⟨p, before, hv, hp, hr⟩ := h
    exact ⟨p, before, hv, (e p _ hp).trans hp, ih hr⟩
/-- The Writer in block g. -/
def WS (w : World) (g : Nat) (fs : List (List UInt8)) : Prop :=
  ∃ last, w.heap[g]? = some (.cells #[last, .int .i64 (total fs : Int)] 72 (0, 0)) ∧ Parts w last fs
theorem WS.below {w w' : World} {g : Nat} {fs : List (List UInt8)} (h : WS w g fs) (hb : Below w.heap.size w w') : WS w' g fs := by
  obtain ⟨l, hg, hp⟩ := h
  exact ⟨l, (hb.block g (Array.getElem?_eq_some_iff.1 hg).1).trans hg, hp.same fun p cs hc => hb.block p (Array.getElem?_eq_some_iff.1 hc).1⟩
theorem own_form {w : World} {base e n : Nat} {v : Value} {xs : List Value} (h : w.ownsRow base e 1 v n xs) (hn : 0 < n) : ∃ g c cur, v = .slice (some ⟨g, 0, none⟩) n c ∧ base ≤ g ∧ w.heap[g]? = some (.cells cur e (0, 0)) ∧ n ≤ cur.size ∧ ∀ j, j < n → cur[j]? = xs[j]? := by
  rcases h.2 with ⟨_, h0⟩ | ⟨g, cap, cur, hv, hbase, hg, hnc, hcap, hsz, htake⟩
  · omega
  · refine ⟨g, cap, cur, hv, hbase, hg, by omega, fun j hj => ?_⟩
    have := congrArg (fun l : List Value => l[j]?) htake
    simp only [Nat.mul_one] at this
    rw [List.getElem?_take_of_lt hj] at this
    rw [← Array.getElem?_toList, this]
theorem add_flat (b off k : Nat) : (⟨b, off, none⟩ : Addr).add k = ⟨b, off + k, none⟩ := by unfold Addr.add; split <;> simp_all
theorem blk_set {w : World} {g off : Nat} {cs : Array Value} {t : TypeId} (v : Value) (h : w.heap[g]? = some (.cells cs t (0, 0))) : (w.setCell ⟨g, off, none⟩ v).heap[g]? = some (.cells (cs.setIfInBounds off v) t (0, 0)) := by
  simp only [World.setCell, Array.getElem?_modify, h]
  simp
/-- What add leaves. -/
def put (w : World) (g : Nat) (q : Option Addr) (s : ByteArray) (n : Int) : World :=
  (((w.setCell ⟨g, 0, none⟩ (.pointer (some ⟨w.heap.size, 0, none⟩))).setCell ⟨g, 1, none⟩ (.int .i64 n)).alloc (.cells #[.pointer q, .string s] 101)).drew
theorem put_ok {w : World} {g : Nat} {fs : List (List UInt8)} {f : List UInt8} {q : Option Addr} (hg : w.heap[g]? = some (.cells #[.pointer q, .int .i64 (total fs : Int)] 72 (0, 0))) (hp : Parts w (.pointer q) fs) :
    WS (put w g q ⟨f.toArray⟩ ((total fs : Int) + (f.length : Int))) g (f :: fs) ∧ w.grownBy (put w g q ⟨f.toArray⟩ ((total fs : Int) + (f.length : Int))) (some g) := by
  have hlt : g < w.heap.size := (Array.getElem?_eq_some_iff.1 hg).1
  have hsz : ((w.setCell ⟨g, 0, none⟩ (.pointer (some ⟨w.heap.size, 0, none⟩))).setCell ⟨g, 1, none⟩ (.int .i64 ((total fs : Int) + (f.length : Int)))).heap.size = w.heap.size := by simp [World.setCell]
  have hother : ∀ i, i < w.heap.size → i ≠ g → (put w g q ⟨f.toArray⟩ ((total fs : Int) + (f.length : Int))).heap[i]? = w.heap[i]? := fun i hi hne => by
    show (World.alloc _ _).heap[i]? = _
    rw [Deep.blk_alloc_lt _ _ _ (by rw [hsz]; exact hi), Deep.blk_setCell_other _ _ _ _ hne, Deep.blk_setCell_other _ _ _ _ hne]
  have hself : (put w g q ⟨f.toArray⟩ ((total fs : Int) + (f.length : Int))).heap[g]? = some (.cells #[.pointer (some ⟨w.heap.size, 0, none⟩), .int .i64 (total (f :: fs) : Int)] 72 (0, 0)) := by
    show (World.alloc _ _).heap[g]? = _
    rw [Deep.blk_alloc_lt _ _ _ (by rw [hsz]; exact hlt), blk_set _ (blk_set _ hg)]
    have : ((total (f :: fs) : Nat) : Int) = (total fs : Int) + (f.length : Int) := by rw [total_cons]; omega
    rw [this]; rfl
  have hnew : (put w g q ⟨f.toArray⟩ ((total fs : Int) + (f.length : Int))).heap[w.heap.size]? = some (.cells #[.pointer q, .string ⟨f.toArray⟩] 101 (0, 0)) := by
    show (World.alloc _ _).heap[w.heap.size]? = _
    have := Deep.blk_alloc_new ((w.setCell ⟨g, 0, none⟩ (.pointer (some ⟨w.heap.size, 0, none⟩))).setCell ⟨g, 1, none⟩ (.int .i64 ((total fs : Int) + (f.length : Int)))) (.cells #[.pointer q, .string ⟨f.toArray⟩] 101)
    rw [hsz] at this
    exact this
  refine ⟨⟨_, hself, ⟨w.heap.size, .pointer q, rfl, hnew, hp.same fun p cs hc => hother p (Array.getElem?_eq_some_iff.1 hc).1 ?_⟩⟩, rfl, rfl, rfl, ?_, fun i hi hne => hother i hi (fun e => hne (by rw [e]))⟩
  · intro e
    rw [e, hg] at hc
    simp at hc
  · show w.heap.size ≤ (World.alloc _ _).heap.size
    rw [Deep.nblk_alloc, hsz]; omega
set_option maxHeartbeats 1000000 in
theorem add_any (g : Nat) (fs : List (List UInt8)) (f : List UInt8) (base : Nat) (v : Value) (hf : 0 < f.length) (hfl : f.length ≤ 1000000) (htot : total fs ≤ 1000000000) (w : World) (hW : WS w g fs) (hown : w.ownsRow base 5 1 v f.length (f.map u8v)) :
    Calls Try.prog 73 #[.pointer (some ⟨g, 0, none⟩), v] w fun e w' => e = .returned (.tuple #[]) ∧ WS w' g (f :: fs) ∧ w.grownBy w' (some g) := by
  obtain ⟨b, c, cur, rfl, _, hblk, hcur, hcell⟩ := own_form hown hf
  obtain ⟨last, hg, hparts⟩ := hW
  obtain ⟨q, rfl⟩ : ∃ q, last = Value.pointer q := by
    cases fs with
    | nil => exact ⟨_, hparts⟩
    | cons f fs => obtain ⟨p, before, hv, _⟩ := hparts; exact ⟨_, hv⟩
  have k1 : ∀ W : World, W.heap[b]? = some (.cells cur 5 (0, 0)) → (convert 24 9 (.slice (some ⟨b, 0, none⟩) f.length c)).run Try.prog W = .ok (.string ⟨f.toArray⟩) W := fun W hW =>
    run_convert_bytes_back W 24 9 5 ⟨b, 0, none⟩ c f Try.underlying24 Try.underlying5 Try.underlying9 (fun j hj => by
      rw [add_flat, Nat.zero_add, cell_of_row W b j cur _ _ hW, hcell j hj]
      simp [u8v, hj])
  have k2 := k1 w.drew hblk
  have c0 := cell_of_row w g 0 _ _ _ hg
  have c1 := cell_of_row w g 1 _ _ _ hg
  have f0 := frozen_of_row w g 0 _ _ hg
  have f1 := frozen_of_row w g 1 _ _ hg
  have Hg := Lib.hid hg
  have HP := Lib.hid hparts
  have Hblk := Lib.hid hblk
  have hglt : g < w.heap.size := (Array.getElem?_eq_some_iff.1 hg).1
  clear hg hparts hblk hcell k1 hown
  go_enter Try.func73, Try.ntmps73
  go_wp2_with fail
  go_region
  (refine (by assumption : ∀ _ _, _ → _) _ _ ?_)
  go_wp2_with fail
  go_end0
  have P := put_ok (f := f) Hg.out HP.out
  exact ⟨rfl, P⟩
end Go.Proofs.Ytajainkaomkbjaa.E
namespace Go.Proofs.Ytajainkaomkbjaa.E
open Go.ChangeShapes Go.WideShapes Go.ChangeAt Go.RowKit En
theorem num_bounds (n : Int) (h1 : -9223372036854775808 ≤ n) (h2 : n ≤ 9223372036854775807) : 0 < (num n).length ∧ (num n).length ≤ 9 := by
  have := sz_le n.natAbs (by omega)
  rw [num_len]; omega
end Go.Proofs.Ytajainkaomkbjaa.E
namespace Go.Proofs.Ytajainkaomkbjaa.E
open Go.ChangeShapes Go.WideShapes Go.ChangeAt Go.RowKit En
/-- The bytes of the row while the parts rs are still to be copied. -/
def left (rs : List (List UInt8)) (suf : List UInt8) : List Value := List.replicate (total rs) (.int .u8 0) ++ suf.map u8v
theorem make_bytes (n : Nat) (hn : n ≤ 1000000) (w : World) :
    (Instr.makeSlice 24 (.int .i64 (n : Int)) (.int .i64 (n : Int))).run Try.prog w = .ok (.slice (some ⟨w.heap.size, 0, none⟩) n n) (w.alloc (.cells (List.replicate n (.int .u8 0)).toArray 5)) := by
  obtain ⟨i0, hi0, hz0, hz1, hz2⟩ := info_parts u8_info
  have h := run_make w 24 5 i0 _ Try.underlying24 hi0 hz0 .i64 .i64 n n (by omega) (Int.le_refl _) (by rw [hz2]; omega) (by omega)
  rw [Int.toNat_natCast, hz1, Nat.mul_one] at h
  rw [h]
  have e : madeCells (Value.cells (.int .u8 0)) n = (List.replicate n (.int .u8 0)).toArray := by
    have := toList_madeCells_one (.int .u8 0) n
    rw [← this]; rfl
  rw [e]
theorem u8_size : (Try.prog.info? 5).map (·.size) = some 1 := by kernel_rfl
set_option maxRecDepth 100000 in
set_option maxHeartbeats 1000000 in
theorem w_bytes (g : Nat) (fs : List (List UInt8)) (hne : ∀ f ∈ fs, 0 < f.length) (htot : total fs ≤ 1000000) (w : World) (hW : WS w g fs) :
    Calls Try.prog 51 #[.pointer (some ⟨g, 0, none⟩)] w fun e w' => e = .returned (.string ⟨(whole fs).toArray⟩) ∧ Below w.heap.size w w' := by
  have HW := Lib.hid hW
  obtain ⟨last, hg, hparts⟩ := hW
  obtain ⟨q, rfl⟩ : ∃ q, last = Value.pointer q := by
    cases fs with
    | nil => exact ⟨_, hparts⟩
    | cons f fs => obtain ⟨p, before, hv, _⟩ := hparts; exact ⟨_, hv⟩
  have c0 := cell_of_row w g 0 _ _ _ hg
  have c1 := cell_of_row w g 1 _ _ _ hg
  have HP := Lib.hid hparts
  have hglt : g < w.heap.size := (Array.getElem?_eq_some_iff.1 hg).1
  have HG := Lib.hid hg
  have km : (Instr.makeSlice 24 (.int .i64 (total fs : Int)) (.int .i64 (total fs : Int))).run Try.prog w = .ok (.slice (some ⟨w.heap.size, 0, none⟩) (total fs) (total fs)) (w.alloc (.cells (left fs []).toArray 5)) := by
    rw [make_bytes _ htot w]
    unfold left
    rw [List.map_nil, List.append_nil]
  clear hg hparts
  go_enter Try.func51, Try.ntmps51
  go_wp2_with fail
  go_loopw [4, 5] (fun en pv wr => ∃ rs suf, whole rs ++ suf = whole fs ∧ en = .int .i64 (total rs : Int) ∧ Hid (Parts wr pv rs) ∧ (∀ f ∈ rs, 0 < f.length) ∧ Hid (wr.heap[w.heap.size]? = some (.cells (left rs suf).toArray 5 (0, 0))) ∧ Hid (Below w.heap.size w wr)) (fun en _ _ => (intOf en).toNat)
  case atStart =>
    refine ⟨fs, [], by rw [List.append_nil], rfl, Lib.hid (HP.out.same fun p cs hc => ?_), hne, Lib.hid (Deep.blk_alloc_new w _), Lib.hid ((Below.refl _ _).alloc (Nat.le_refl _) _)⟩
    exact Deep.blk_alloc_lt _ _ _ (Array.getElem?_eq_some_iff.1 hc).1
  case round =>
    obtain ⟨rs, suf, hsum, rfl, HPr, hpos, HB, hbelow⟩ := hrel
    have Hsum := Lib.hid hsum
    have htots : total rs + suf.length = total fs := by rw [← whole_len, ← whole_len, ← hsum, List.length_append]
    have hbs := hbelow.out.size
    have hlt : w.heap.size < wr.heap.size := (Array.getElem?_eq_some_iff.1 HB.out).1
    clear hsum
    cases rs with
    | nil =>
      obtain rfl : u5 = _ := HPr.out
      have k4 : (convert 24 9 (.slice (some ⟨w.heap.size, 0, none⟩) (total fs) (total fs))).run Try.prog wr = .ok (.string ⟨(whole fs).toArray⟩) wr := by
        have hs : suf = whole fs := Hsum.out
        have hl : suf.length = total fs := by rw [hs, whole_len]
        rw [← hs, ← hl]
        refine run_convert_bytes_back wr 24 9 5 ⟨w.heap.size, 0, none⟩ suf.length suf Try.underlying24 Try.underlying5 Try.underlying9 (fun j hj => ?_)
        rw [add_flat, Nat.zero_add, cell_of_row wr w.heap.size j _ _ _ HB.out]
        simp [left, total, u8v, hj]
      go_wp2_with fail
      go_ret
      exact ⟨rfl, hbelow.out⟩
    | cons f rs =>
      obtain ⟨p, before, rfl, hp, hr⟩ := HPr.out
      have hf := hpos f (List.mem_cons_self ..)
      have d0 := cell_of_row wr p 0 _ _ _ hp
      have d1 := cell_of_row wr p 1 _ _ _ hp
      have Hp := Lib.hid hp
      have Hr := Lib.hid hr
      rw [total_cons] at htots
      have kc : (Builtin.copy_ #[24, 9] 3 #[.slice (some ⟨w.heap.size, total rs, none⟩) (total fs - total rs) (total fs - total rs), .string ⟨f.toArray⟩]).run Try.prog wr.drew = .ok (goInt f.length) (wr.drew.setRow w.heap.size (left rs (f ++ suf)).toArray) := by
        have h := Lib.run_copy_row_string (P := Try.prog) wr.drew 24 9 3 5 w.heap.size (total rs) (total fs - total rs) (total fs - total rs) ⟨f.toArray⟩ (left (f :: rs) suf).toArray 5 Try.underlying24 u8_size HB.out (by show f.toArray.size ≤ _; simp; omega) (by show _ + f.toArray.size ≤ _; simp [left, total_cons]; omega)
        rw [h]
        have e1 : (⟨f.toArray⟩ : ByteArray).size = f.length := by show f.toArray.size = _; simp
        rw [e1]
        have e2 : List.take (total rs) (left (f :: rs) suf).toArray.toList ++ Lib.byteCells (⟨f.toArray⟩ : ByteArray).data.toList ++ List.drop (total rs + f.length) (left (f :: rs) suf).toArray.toList = left rs (f ++ suf) := by
          have e3 : (left (f :: rs) suf).toArray.toList = List.replicate (total rs) (.int .u8 0) ++ (List.replicate f.length (.int .u8 0) ++ suf.map u8v) := by
            show left (f :: rs) suf = _
            unfold left
            rw [total_cons, Nat.add_comm, ← List.replicate_append_replicate, List.append_assoc]
          rw [e3, List.take_left' (by simp), List.drop_append]
          simp [left, Lib.byteCells, u8v]
        rw [e2]
      have hw : wrap64 ((total (f :: rs) : Int) - (f.length : Int)) = (total rs : Int) := by
        rw [total_cons]; unfold wrap64; omega
      have htl : total rs ≤ total fs := by omega
      clear hp hr
      go_wp2_with fail
      go_region
      have hpne : p ≠ w.heap.size := by
        intro e
        have h1 := Hp.out
        rw [e, HB.out] at h1
        simp at h1
      have d0' : (wr.drew.setRow w.heap.size (left rs (f ++ suf)).toArray).cell? ⟨p, 0, none⟩ = some before := by
        have h1 : (wr.drew.setRow w.heap.size (left rs (f ++ suf)).toArray).heap[p]? = _ := (setRow_other wr.drew w.heap.size p _ hpne).trans Hp.out
        rw [cell_of_row _ p 0 _ _ _ h1]; rfl
      go_wp2_with fail
      refine ⟨⟨rs, f ++ suf, ?_, by rw [hw], Lib.hid (Hr.out.same fun b cs hc => ?_), fun x hx => hpos x (List.mem_cons_of_mem _ hx), Lib.hid (setRow_heap wr.drew w.heap.size _ _ _ _ HB.out), Lib.hid (below_setRow (Below.drew hbelow.out) (Nat.le_refl _) _)⟩, ?_⟩
      · rw [← Hsum.out, whole_cons, List.append_assoc]
      · refine setRow_other wr.drew w.heap.size b _ (fun e => ?_)
        rw [e, HB.out] at hc
        simp at hc
      · rw [hw]
        show (total rs : Int).toNat < (total (f :: rs) : Int).toNat
        rw [total_cons]; omega
end Go.Proofs.Ytajainkaomkbjaa.E
namespace Go.Proofs.Ytajainkaomkbjaa.E
open Go.ChangeShapes Go.WideShapes Go.ChangeAt Go.RowKit En
theorem grown_same (w : World) (o : Option Nat) : w.grownBy w o := ⟨rfl, rfl, rfl, Nat.le_refl _, fun _ _ _ => rfl⟩
end Go.Proofs.Ytajainkaomkbjaa.E
namespace Go.Proofs.Ytajainkaomkbjaa.E
open Go.ChangeShapes Go.WideShapes Go.ChangeAt Go.RowKit En
/-- The form of a string. -/
def text (s : ByteArray) : List UInt8 := num s.size ++ s.data.toList
theorem text_len (s : ByteArray) : (text s).length = (num s.size).length + s.size := by unfold text; simp
theorem str_cells (s : ByteArray) : Lib.strCells s = s.data.toList.map u8v := rfl
set_option maxHeartbeats 1000000 in
set_option maxRecDepth 100000 in
theorem append_text (base : Nat) (v : Value) (len : Nat) (xs : List UInt8) (hlen : len ≤ 800000) (s : ByteArray) (hs : s.size ≤ 10000) (w : World) (hbase : base ≤ w.heap.size) (hown : w.ownsRow base 5 1 v len (xs.map u8v)) :
    Calls Try.prog 76 #[v, .string s] w fun e w' => (∃ v', w'.ownsRow base 5 1 v' (len + (text s).length) ((xs ++ text s).map u8v) ∧ e = .returned v') ∧ Bk base w w' := by
  obtain ⟨i0, hi0, hz0, hz1, hz2⟩ := info_parts u8_info
  have Hi0 := Lib.hid hi0
  have Hz0 := Lib.hid hz0
  have Hz1 := Lib.hid hz1
  have Hz2 := Lib.hid hz2
  have hn := append_number base v len xs (by omega) (s.size : Int) (by omega) (by omega) w hbase hown
  have hnb := num_bounds (s.size : Int) (by omega) (by omega)
  clear hi0 hz0 hz1 hz2 hown
  go_enter Try.func76, Try.ntmps76
  go_wp2_with fail
  refine hn.mono ?_
  rintro e w1 ⟨⟨v1, hown1, rfl⟩, hB1⟩
  have HO1 := Lib.hid hown1
  have HB1 := Lib.hid hB1
  have hb1 := hB1.1.size
  obtain ⟨n1, hn1⟩ : ∃ n1, n1 = len + (num (s.size : Int)).length := ⟨_, rfl⟩
  rw [← hn1] at HO1
  have hn1' : n1 ≤ 900000 := by omega
  clear hown1 hB1
  go_wp2_with (at_builtin; refine Lib.wpList_append_own_string _ rfl (.tmp 8) (.tmp 9) 24 9 rfl base 5 i0 Try.underlying24 Try.underlying9 Hi0.out Hz0.out Hz1.out Hz2.out v1 n1 _ rfl HO1.out s rfl (by unfold maxLen; omega) (by omega) (by omega) ?_; intro v2 w2 hown2 hg2 _; have HB2 := Lib.hid (bk_own (a := w) HB1.out HO1.out hg2 hbase); have HO2 := Lib.hid hown2; clear hown2 hg2)
  go_ret
  refine ⟨⟨_, ?_, rfl⟩, HB2.out⟩
  have h := HO2.out
  rw [str_cells, ← List.map_append, List.append_assoc, hn1, Nat.add_assoc, ← text_len] at h
  exact h
end Go.Proofs.Ytajainkaomkbjaa.E
namespace Go.Proofs.Ytajainkaomkbjaa.E
open En
def In64 (n : Int) : Prop := -9223372036854775808 ≤ n ∧ n ≤ 9223372036854775807
end Go.Proofs.Ytajainkaomkbjaa.E
namespace Go.Proofs.Ytajainkaomkbjaa.E
open Go.ChangeShapes Go.WideShapes Go.ChangeAt Go.RowKit En
def boolF (b : Bool) : List UInt8 := num (if b then 1 else 0)
theorem append_bool (base : Nat) (v : Value) (len : Nat) (xs : List UInt8) (hlen : len ≤ 900000) (b : Bool) (w : World) (hbase : base ≤ w.heap.size) (hown : w.ownsRow base 5 1 v len (xs.map u8v)) :
    Calls Try.prog 75 #[v, .bool b] w fun e w' => (∃ v', w'.ownsRow base 5 1 v' (len + (boolF b).length) ((xs ++ boolF b).map u8v) ∧ e = .returned v') ∧ Bk base w w' := by
  cases b with
  | true =>
    obtain ⟨F, hF⟩ : ∃ F, F = boolF true := ⟨_, rfl⟩
    have H := append_number base v len xs hlen 1 (by omega) (by omega) w hbase hown
    rw [show num 1 = F from hF.symm] at H
    rw [← hF]
    clear hown hF
    go_enter Try.func75, Try.ntmps75
    go_wp2_with fail
    refine H.mono ?_
    rintro e w1 ⟨⟨v1, hown1, rfl⟩, hB1⟩
    have HO1 := Lib.hid hown1
    have HB1 := Lib.hid hB1
    clear hown1 hB1
    go_wp2_with fail
    go_ret
    exact ⟨⟨_, HO1.out, rfl⟩, HB1.out⟩
  | false =>
    obtain ⟨F, hF⟩ : ∃ F, F = boolF false := ⟨_, rfl⟩
    have H := append_number base v len xs hlen 0 (by omega) (by omega) w hbase hown
    rw [show num 0 = F from hF.symm] at H
    rw [← hF]
    clear hown hF
    go_enter Try.func75, Try.ntmps75
    go_wp2_with fail
    refine H.mono ?_
    rintro e w1 ⟨⟨v1, hown1, rfl⟩, hB1⟩
    have HO1 := Lib.hid hown1
    have HB1 := Lib.hid hB1
    clear hown1 hB1
    go_wp2_with fail
    go_ret
    exact ⟨⟨_, HO1.out, rfl⟩, HB1.out⟩
end Go.Proofs.Ytajainkaomkbjaa.E
namespace Go.Proofs.Ytajainkaomkbjaa.E
open Go.ChangeShapes Go.WideShapes Go.ChangeAt Go.RowKit En
/-- The Writer behind a pointer, which can be nil. -/
def WQ (w : World) (q : Option Addr) (fs : List (List UInt8)) : Prop := q = none ∨ ∃ g, q = some ⟨g, 0, none⟩ ∧ WS w g fs
theorem WQ.below {w w' : World} {q : Option Addr} {fs : List (List UInt8)} (h : WQ w q fs) (hb : Below w.heap.size w w') : WQ w' q fs := by
  rcases h with h | ⟨g, e, h⟩
  · exact Or.inl h
  · exact Or.inr ⟨g, e, h.below hb⟩
theorem add_q (q : Option Addr) (fs : List (List UInt8)) (f : List UInt8) (base : Nat) (v : Value) (hf : 0 < f.length) (hfl : f.length ≤ 1000000) (htot : total fs ≤ 1000000000) (w : World) (hW : WQ w q fs) (hown : w.ownsRow base 5 1 v f.length (f.map u8v)) :
    Calls Try.prog 73 #[.pointer q, v] w fun e w' => e = .returned (.tuple #[]) ∧ WQ w' q (f :: fs) ∧ w.grownBy w' (q.map Addr.block) := by
  rcases hW with rfl | ⟨g, rfl, hW⟩
  · clear hown
    go_enter Try.func73, Try.ntmps73
    go_wp2_with fail
    (try simp only [Exit.inBlock, Exit.then])
    exact bodyPost_ret (results_none rfl _ _ _) rfl ⟨rfl, Or.inl rfl, grown_same _ _⟩
  · exact (add_any g fs f base v hf hfl htot w hW hown).mono fun _ _ ⟨a, b, c⟩ => ⟨a, Or.inr ⟨g, rfl, b⟩, c⟩
theorem below_q {B : Nat} {a b c : World} {q : Option Addr} (h : Below B a b) (k : b.grownBy c (q.map Addr.block)) (hB : ∀ g, q = some g → B ≤ g.block) (hs : B ≤ a.heap.size) : Below B a c :=
  ⟨k.os.trans h.os, k.tape.trans h.tape, k.output.trans h.output, Nat.le_trans h.size k.size, fun i hi => (k.block i (by have := h.size; omega) (fun e => by
    cases q with
    | none => simp at e
    | some g => simp at e; have := hB g rfl; omega)).trans (h.block i hi)⟩
set_option maxRecDepth 100000 in
theorem w_numberq (q : Option Addr) (fs : List (List UInt8)) (n : Int) (hn : In64 n) (htot : total fs ≤ 1000000) (w : World) (hW : WQ w q fs) :
    Calls Try.prog 48 #[.pointer q, .int .i64 n] w fun e w' => e = .returned (.tuple #[]) ∧ WQ w' q (num n :: fs) ∧ w.grownBy w' (q.map Addr.block) := by
  have Hfl : Hid (0 < (num n).length ∧ (num n).length ≤ 1000000) := Lib.hid (by
    have := num_bounds n hn.1 hn.2
    omega)
  have HW := Lib.hid hW
  have Hnil : ∀ W : World, Hid (W.ownsRow w.heap.size 5 1 (.slice none 0 0) 0 (List.map u8v [])) := fun W => Lib.hid (by exact ⟨rfl, Or.inl ⟨rfl, rfl⟩⟩)
  skip
  clear hW
  go_enter Try.func48, Try.ntmps48
  skip
  go_wp2_with fail
  skip
  refine (append_number w.heap.size _ 0 [] (by omega) n hn.1 hn.2 _ (Nat.le_refl _) (Hnil _).out).mono ?_
  rintro e w1 ⟨⟨v, hown, rfl⟩, hB, _⟩
  have HB : Hid (Below w.heap.size w w1) := Lib.hid (hB)
  have HW1 := Lib.hid (HW.out.below HB.out)
  have Hown : Hid (w1.ownsRow w.heap.size 5 1 v (num n).length ((num n).map u8v)) := Lib.hid (by rw [Nat.zero_add, List.nil_append] at hown; exact hown)
  clear hown hB
  go_wp2_with fail
  refine (add_q q fs (num n) _ v Hfl.out.1 Hfl.out.2 (by omega) w1 HW1.out Hown.out).mono ?_
  rintro e w2 ⟨rfl, hWS, hgr⟩
  go_wp2_with fail
  go_end0
  exact ⟨rfl, hWS, hgr.os.trans HB.out.os, hgr.tape.trans HB.out.tape, hgr.output.trans HB.out.output, Nat.le_trans HB.out.size hgr.size, fun i hi hne => (hgr.block i (by have := HB.out.size; omega) hne).trans (HB.out.block i hi)⟩
set_option maxRecDepth 100000 in
theorem w_bool (q : Option Addr) (fs : List (List UInt8)) (b : Bool) (htot : total fs ≤ 1000000) (w : World) (hW : WQ w q fs) :
    Calls Try.prog 49 #[.pointer q, .bool b] w fun e w' => e = .returned (.tuple #[]) ∧ WQ w' q (boolF b :: fs) ∧ w.grownBy w' (q.map Addr.block) := by
  have Hfl : Hid (0 < (boolF b).length ∧ (boolF b).length ≤ 1000000) := Lib.hid (by
    cases b <;> decide)
  have HW := Lib.hid hW
  have Hnil : ∀ W : World, Hid (W.ownsRow w.heap.size 5 1 (.slice none 0 0) 0 (List.map u8v [])) := fun W => Lib.hid (by exact ⟨rfl, Or.inl ⟨rfl, rfl⟩⟩)
  skip
  clear hW
  go_enter Try.func49, Try.ntmps49
  skip
  go_wp2_with fail
  skip
  refine (append_bool w.heap.size _ 0 [] (by omega) b _ (Nat.le_refl _) (Hnil _).out).mono ?_
  rintro e w1 ⟨⟨v, hown, rfl⟩, hB, _⟩
  have HB : Hid (Below w.heap.size w w1) := Lib.hid (hB)
  have HW1 := Lib.hid (HW.out.below HB.out)
  have Hown : Hid (w1.ownsRow w.heap.size 5 1 v (boolF b).length ((boolF b).map u8v)) := Lib.hid (by rw [Nat.zero_add, List.nil_append] at hown; exact hown)
  clear hown hB
  go_wp2_with fail
  refine (add_q q fs (boolF b) _ v Hfl.out.1 Hfl.out.2 (by omega) w1 HW1.out Hown.out).mono ?_
  rintro e w2 ⟨rfl, hWS, hgr⟩
  go_wp2_with fail
  go_end0
  exact ⟨rfl, hWS, hgr.os.trans HB.out.os, hgr.tape.trans HB.out.tape, hgr.output.trans HB.out.output, Nat.le_trans HB.out.size hgr.size, fun i hi hne => (hgr.block i (by have := HB.out.size; omega) hne).trans (HB.out.block i hi)⟩
set_option maxRecDepth 100000 in
theorem w_text (q : Option Addr) (fs : List (List UInt8)) (s : ByteArray) (hs : s.size ≤ 10000) (htot : total fs ≤ 1000000) (w : World) (hW : WQ w q fs) :
    Calls Try.prog 50 #[.pointer q, .string s] w fun e w' => e = .returned (.tuple #[]) ∧ WQ w' q (text s :: fs) ∧ w.grownBy w' (q.map Addr.block) := by
  have Hfl : Hid (0 < (text s).length ∧ (text s).length ≤ 1000000) := Lib.hid (by
    have := num_bounds (s.size : Int) (by omega) (by omega)
    rw [text_len]; omega)
  have HW := Lib.hid hW
  have Hnil : ∀ W : World, Hid (W.ownsRow w.heap.size 5 1 (.slice none 0 0) 0 (List.map u8v [])) := fun W => Lib.hid (by exact ⟨rfl, Or.inl ⟨rfl, rfl⟩⟩)
  skip
  clear hW
  go_enter Try.func50, Try.ntmps50
  skip
  go_wp2_with fail
  skip
  refine (append_text w.heap.size _ 0 [] (by omega) s hs _ (Nat.le_refl _) (Hnil _).out).mono ?_
  rintro e w1 ⟨⟨v, hown, rfl⟩, hB, _⟩
  have HB : Hid (Below w.heap.size w w1) := Lib.hid (hB)
  have HW1 := Lib.hid (HW.out.below HB.out)
  have Hown : Hid (w1.ownsRow w.heap.size 5 1 v (text s).length ((text s).map u8v)) := Lib.hid (by rw [Nat.zero_add, List.nil_append] at hown; exact hown)
  clear hown hB
  go_wp2_with fail
  refine (add_q q fs (text s) _ v Hfl.out.1 Hfl.out.2 (by omega) w1 HW1.out Hown.out).mono ?_
  rintro e w2 ⟨rfl, hWS, hgr⟩
  go_wp2_with fail
  go_end0
  exact ⟨rfl, hWS, hgr.os.trans HB.out.os, hgr.tape.trans HB.out.tape, hgr.output.trans HB.out.output, Nat.le_trans HB.out.size hgr.size, fun i hi hne => (hgr.block i (by have := HB.out.size; omega) hne).trans (HB.out.block i hi)⟩
end Go.Proofs.Ytajainkaomkbjaa.E
