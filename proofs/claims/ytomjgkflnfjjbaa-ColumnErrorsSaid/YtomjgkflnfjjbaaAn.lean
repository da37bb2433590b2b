/- What appendNumber appends. -/
import Derived.Test.YtomjgkflnfjjbaaRows
import Derived.Test.YtomjgkflnfjjbaaShelf
import Derived.Test.YtomjgkflnfjjbaaEn
import Derived.WalkKit
import Derived.ProofKit
import Derived.OpenShut
import Derived.Handy
import Derived.Lib.Hide
import Derived.IntWalk
import Derived.Outline
import Derived.OwnWalk
import Derived.Laws.BitsAllLaws
import Derived.Deep.QuietTactic
import Derived.BigQuiet
namespace Go.Proofs.Ytomjgkflnfjjbaa
open Go.ChangeShapes Go.WideShapes Go.ChangeAt Go.RowKit En

theorem ret_int {k : IntKind} {a b : Int} (h : a = b) : Ending.returned (.int k a) = .returned (.int k b) := by rw [h]
def u8v (b : UInt8) : Value := .int .u8 (b.toNat : Int)
theorem u8_info : (Try.prog.info? 5).map (fun i => (i.zero, i.size, i.bytes)) = some (some (.int .u8 0), 1, 1) := by kernel_rfl
section
variable {P : Program} {w : World}
/-- append of one element, which lies in a block of one cell, to a row of the call's own. -/
theorem wpList_append_one {ops : Array Oper} {rest : List Oper} {o : Oper} {a : Act} {Q : Exit → Act → World → Prop} (hg : o.guard = none) (s x : Operand) (t : TypeId)
    (ho : o.op = .call { callee := .builtin .append, args := #[s, x], argTypes := #[t, t] })
    (base : Nat) (e : TypeId) (i : TypeInfo) (z : Value) (bytes : Nat) (ht : P.underlying t = some (.slice e)) (hi : P.info? e = some i) (hz : i.zero = some z)
    (hsize : i.size = 1) (hby : i.bytes = bytes) (hzs : z.cells.size = 1)
    (v : Value) (n : Nat) (xs : List Value) (hs : a.eval s = v) (hown : w.ownsRow base e 1 v n xs)
    (g c : Nat) (u : Value) (hx : a.eval x = .slice (some ⟨g, 0, none⟩) 1 c) (hu : w.cell? ⟨g, 0, none⟩ = some u) (h1 : u.oneCell' = true)
    (hn : n ≤ 1000000) (hb : bytes ≤ 1000000) (hbase : base ≤ w.heap.size)
    (h : ∀ v' w', w'.ownsRow base e 1 v' (n + 1) (xs ++ [u]) → w.grownBy w' v.ownBlock → wpList P ops Q rest (a.put o.dst v') w') : wpList P ops Q (o :: rest) a w := by
  refine wpList_append_own w hg s x t ho base e i z 1 bytes ht hi hz hsize hby hzs (by omega) v n xs hs hown ⟨g, 0, none⟩ 1 c [u] hx (by simp) (fun j y hy => ?_) (fun y hy => ?_) (by unfold maxLen; omega) ?_ hbase (fun v' w' h2 h3 _ => h v' w' h2 h3)
  · cases j with
    | zero => simp at hy; subst hy; exact hu
    | succ j => simp at hy
  · simp at hy; subst hy; exact h1
  · have := Nat.mul_le_mul (show n + 1 ≤ 1000001 by omega) hb
    omega
end
theorem below_own {a w w' : World} {base e n : Nat} {v : Value} {xs : List Value} (h : Below base a w) (hown : w.ownsRow base e 1 v n xs) (hg : w.grownBy w' v.ownBlock) (hs : base ≤ a.heap.size) : Below base a w' := by
  refine ⟨hg.os.trans h.os, hg.tape.trans h.tape, hg.output.trans h.output, Nat.le_trans h.size hg.size, fun k hk => (hg.block k (by have := h.size; omega) (fun e => ?_)).trans (h.block k hk)⟩
  rcases hown.2 with ⟨rfl, _⟩ | ⟨g, cap, cur, rfl, hbase, _⟩
  · simp [Value.ownBlock] at e
  · simp [Value.ownBlock] at e; omega

theorem len64_any (m : Nat) (h : m < 18446744073709551616) (w : World) :
    Calls Try.prog 79 #[.int .u64 (m : Int)] w fun e w' => e = .returned (.int .i64 (Lib.bitLen m : Nat)) ∧ w = w' :=
  (Try.bits_Len64 (m : Int) w (by omega) (by omega)).mono fun _ _ ⟨he, hw⟩ => ⟨by rw [he, Int.toNat_natCast], hw.symm⟩
theorem first_pos (n : Int) (h : ¬ n < 0) (h8 : sz n.natAbs ≤ 8) : ((first n).toNat : Int) = 128 + (sz n.natAbs : Int) := by
  unfold first
  rw [if_neg h, UInt8.toNat_ofNat']; omega
theorem first_neg (n : Int) (h : n < 0) (h8 : sz n.natAbs ≤ 8) : ((first n).toNat : Int) = 128 - (sz n.natAbs : Int) := by
  unfold first
  rw [if_pos h, UInt8.toNat_ofNat']; omega
theorem digit (m j : Nat) : ((m : Int) / 2 ^ (8 * j) % 256) = ((UInt8.ofNat (m / 2 ^ (8 * j) % 256)).toNat : Int) := by
  rw [UInt8.toNat_ofNat']
  have : ((m : Int) / 2 ^ (8 * j)) = ((m / 2 ^ (8 * j) : Nat) : Int) := by simp
  rw [this]; omega
theorem dig_pos (n : Int) (h : ¬ n < 0) (j : Nat) : bits .xor .u8 ((n.natAbs : Int) / 2 ^ (8 * j) % 256) 0 = ((dig n j).toNat : Int) := by
  rw [digit]
  have := u8_xor_nat (UInt8.ofNat (n.natAbs / 2 ^ (8 * j) % 256)).toNat 0 (UInt8.toNat_lt _) (by omega)
  rw [show (0 : Int) = ((0 : Nat) : Int) from rfl, this]
  unfold dig mask
  rw [if_neg h, UInt8.toNat_xor]; rfl
theorem dig_neg (n : Int) (h : n < 0) (j : Nat) : bits .xor .u8 ((n.natAbs : Int) / 2 ^ (8 * j) % 256) 255 = ((dig n j).toNat : Int) := by
  rw [digit]
  have := u8_xor_nat (UInt8.ofNat (n.natAbs / 2 ^ (8 * j) % 256)).toNat 255 (UInt8.toNat_lt _) (by omega)
  rw [show (255 : Int) = ((255 : Nat) : Int) from rfl, this]
  unfold dig mask
  rw [if_pos h, UInt8.toNat_xor]; rfl

/-- Below, and no block is touched that holds no bytes. -/
def Bk (base : Nat) (w w' : World) : Prop :=
  Below base w w' ∧ ∀ (i : Nat) (cs : Array Value) (t : TypeId), t ≠ 5 → w.heap[i]? = some (Obj.cells cs t (0, 0)) → w'.heap[i]? = some (Obj.cells cs t (0, 0))
theorem Bk.refl (base : Nat) (w : World) : Bk base w w := ⟨Below.refl _ _, fun _ _ _ _ h => h⟩
theorem Bk.trans {base : Nat} {a b c : World} (h : Bk base a b) (k : Bk base b c) : Bk base a c := ⟨h.1.trans k.1, fun i cs t ht hi => k.2 i cs t ht (h.2 i cs t ht hi)⟩
theorem Bk.alloc {base : Nat} {a w : World} (h : Bk base a w) (hb : base ≤ w.heap.size) (o : Obj) : Bk base a (w.alloc o) :=
  ⟨h.1.alloc hb o, fun i cs t ht hi => by
    have h1 := h.2 i cs t ht hi
    have hlt : i < w.heap.size := (Array.getElem?_eq_some_iff.1 h1).1
    show (w.heap.push o)[i]? = _
    rw [Array.getElem?_push, if_neg (by omega)]; exact h1⟩
theorem Bk.drew {base : Nat} {a w : World} (h : Bk base a w) : Bk base a w.drew := ⟨Below.drew h.1, h.2⟩
theorem Bk.drewN {base n : Nat} {a w : World} (h : Bk base a w) : Bk base a (w.drewN n) := ⟨h.1.trans ⟨rfl, rfl, rfl, Nat.le_refl _, fun _ _ => rfl⟩, h.2⟩
theorem bk_own {a w w' : World} {base n : Nat} {v : Value} {xs : List Value} (h : Bk base a w) (hown : w.ownsRow base 5 1 v n xs) (hg : w.grownBy w' v.ownBlock) (hs : base ≤ a.heap.size) : Bk base a w' :=
  ⟨below_own h.1 hown hg hs, fun i cs t ht hi => by
    have h1 := h.2 i cs t ht hi
    have hlt : i < w.heap.size := (Array.getElem?_eq_some_iff.1 h1).1
    refine (hg.block i hlt (fun e => ?_)).trans h1
    rcases hown.2 with ⟨rfl, _⟩ | ⟨g, cap, cur, rfl, hbase, hh, _⟩
    · simp [Value.ownBlock] at e
    · simp [Value.ownBlock] at e
      rw [← e, h1] at hh
      simp at hh
      exact ht hh.2⟩
set_option maxRecDepth 100000 in
set_option maxHeartbeats 2000000 in
theorem append_number (base : Nat) (v : Value) (len : Nat) (xs : List UInt8) (hlen : len ≤ 900000) (n : Int) (h1 : -9223372036854775808 ≤ n) (h2 : n ≤ 9223372036854775807) (w : World) (hbase : base ≤ w.heap.size) (hown : w.ownsRow base 5 1 v len (xs.map u8v)) :
    Calls Try.prog 65 #[v, .int .i64 n] w fun e w' => (∃ v', w'.ownsRow base 5 1 v' (len + (num n).length) ((xs ++ num n).map u8v) ∧ e = .returned v') ∧ Bk base w w' := by
  obtain ⟨i0, hi0, hz0, hz1, hz2⟩ := info_parts u8_info
  have Hi0 := Lib.hid hi0
  have Hz0 := Lib.hid hz0
  have Hz1 := Lib.hid hz1
  have Hz2 := Lib.hid hz2
  have Hown := Lib.hid hown
  clear hi0 hz0 hz1 hz2 hown
  by_cases hn : n < 0
  · skip
    have hm : IntKind.u64.wrap (-IntKind.u64.wrap n) = ((n.natAbs : Nat) : Int) := by simp only [IntKind.wrap_u64]; omega
    have hnb : ((n.natAbs : Nat) : Int) ≤ 9223372036854775808 := by omega
    have hnb2 : n.natAbs < 18446744073709551616 := by omega
    have h8 := sz_le n.natAbs hnb2
    have hl8 := bitLen_le n.natAbs hnb2
    have hsz : ((Lib.bitLen n.natAbs : Int) + 7) / 8 = (sz n.natAbs : Int) := by unfold sz; omega
    have hfirst := first_neg n hn h8
    have hdig := fun j => dig_neg n hn j
    have hall := digs_all n
    have hstep := fun j => digs_step n j
    have hnl := num_len n
    obtain ⟨k, hk⟩ : ∃ k, sz n.natAbs = k := ⟨_, rfl⟩
    rw [hk] at hsz h8 hfirst hall hnl
    simp only [hk] at hstep
    have Hfirst : Hid (u8v (first n) = .int .u8 (128 - (k : Int))) := Lib.hid (by unfold u8v; rw [hfirst])
    have Hdig := Lib.hid hdig
    have Hall := Lib.hid hall
    have Hstep := Lib.hid hstep
    have Hnl := Lib.hid hnl
    have hk8 : (k : Int) ≤ 8 := by omega
    clear hk hfirst hdig hall hstep hnl hl8
    go_enter Try.func65, Try.ntmps65
    go_wp2_with fail
    refine (len64_any n.natAbs hnb2 _).mono ?_
    rintro e w' ⟨rfl, rfl⟩
    go_wp2_with (at_builtin; refine wpList_append_one rfl (.tmp 26) (.tmp 29) 90 rfl base 5 i0 _ 1 Try.underlying90 Hi0.out Hz0.out Hz1.out Hz2.out rfl v len _ rfl (Hown.out.alloc _) w.heap.size 1 (.int .u8 (128 - (k : Int))) rfl (by simp [go_sem]) rfl (by omega) (by omega) (by simp; omega) ?_; intro v2 w2 hown2 hg2; have HB2 := Lib.hid (bk_own (a := w) ((Bk.refl base w).alloc hbase (.cells #[.int .u8 (128 - (k : Int))] 5)) (Hown.out.alloc _) hg2 hbase); have HO2 := Lib.hid hown2; clear hown2 hg2)
    go_loopw [0, 9] (fun u i wr => ∃ t : Nat, t ≤ k ∧ i = .int .i64 (8 * (t : Int) - 8) ∧ Hid (wr.ownsRow base 5 1 u (len + 1 + (k - t)) ((xs ++ first n :: digs n t).map u8v)) ∧ Hid (Bk base w wr)) (fun _ i _ => (intOf i + 8).toNat)
    case atStart =>
      refine ⟨k, Nat.le_refl _, by go_num, Lib.hid ?_, HB2⟩
      rw [Hall.out, Nat.sub_self, List.map_append, List.map_cons, List.map_nil, Hfirst.out]
      exact HO2.out
    case round =>
      obtain ⟨t, ht, rfl, hown, hB⟩ := hrel
      rcases Nat.eq_zero_or_pos t with h0 | h0
      · subst h0
        go_wp2_with fail
        go_ret
        refine ⟨⟨_, ?_, rfl⟩, hB.out⟩
        have h := hown.out
        rw [Nat.sub_zero] at h
        rw [Hnl.out, ← Nat.add_assoc]
        exact h
      · obtain ⟨j, rfl⟩ : ∃ j, t = j + 1 := ⟨t - 1, by omega⟩
        have e8 : 8 * (((j + 1 : Nat)) : Int) - 8 = 8 * (j : Int) := by omega
        rw [e8]
        have hd := Hdig.out j
        have Hst := Lib.hid (Hstep.out j (by omega))
        have hbs := hB.out.1.size
        go_wp2_with (at_builtin; refine wpList_append_one rfl (.tmp 38) (.tmp 45) 90 rfl base 5 i0 _ 1 Try.underlying90 Hi0.out Hz0.out Hz1.out Hz2.out rfl u0 (len + 1 + (k - (j + 1))) _ rfl (hown.out.alloc _) wr.heap.size 1 (u8v (dig n j)) rfl (by simp [go_sem]; rfl) rfl (by omega) (by omega) (by simp; omega) ?_; intro v3 w3 hown3 hg3; have HB3 := Lib.hid (bk_own (a := w) (hB.out.alloc (by omega) (.cells #[u8v (dig n j)] 5)) (hown.out.alloc _) hg3 hbase); have HO3 := Lib.hid hown3; clear hown3 hg3)
        go_roundw
        case rel =>
          refine ⟨j, by omega, by go_num, Lib.hid ?_, HB3⟩
          have h := HO3.out
          rw [← List.map_singleton (f := u8v), ← List.map_append, List.append_assoc, List.cons_append, Hst.out] at h
          rw [show len + 1 + (k - j) = len + 1 + (k - (j + 1)) + 1 from by omega]
          exact h
        case measure => simp [intOf]; omega
  · skip
    have hm : IntKind.u64.wrap n = ((n.natAbs : Nat) : Int) := by rw [IntKind.wrap_u64]; omega
    have hnb : ((n.natAbs : Nat) : Int) ≤ 9223372036854775807 := by omega
    have hnb2 : n.natAbs < 18446744073709551616 := by omega
    have h8 := sz_le n.natAbs hnb2
    have hl8 := bitLen_le n.natAbs hnb2
    have hsz : ((Lib.bitLen n.natAbs : Int) + 7) / 8 = (sz n.natAbs : Int) := by unfold sz; omega
    have hfirst := first_pos n hn h8
    have hdig := fun j => dig_pos n hn j
    have hall := digs_all n
    have hstep := fun j => digs_step n j
    have hnl := num_len n
    obtain ⟨k, hk⟩ : ∃ k, sz n.natAbs = k := ⟨_, rfl⟩
    rw [hk] at hsz h8 hfirst hall hnl
    simp only [hk] at hstep
    have Hfirst : Hid (u8v (first n) = .int .u8 (128 + (k : Int))) := Lib.hid (by unfold u8v; rw [hfirst])
    have Hdig := Lib.hid hdig
    have Hall := Lib.hid hall
    have Hstep := Lib.hid hstep
    have Hnl := Lib.hid hnl
    have hk8 : (k : Int) ≤ 8 := by omega
    clear hk hfirst hdig hall hstep hnl hl8
    go_enter Try.func65, Try.ntmps65
    go_wp2_with fail
    refine (len64_any n.natAbs hnb2 _).mono ?_
    rintro e w' ⟨rfl, rfl⟩
    go_wp2_with (at_builtin; refine wpList_append_one rfl (.tmp 26) (.tmp 29) 90 rfl base 5 i0 _ 1 Try.underlying90 Hi0.out Hz0.out Hz1.out Hz2.out rfl v len _ rfl (Hown.out.alloc _) w.heap.size 1 (.int .u8 (128 + (k : Int))) rfl (by simp [go_sem]) rfl (by omega) (by omega) (by simp; omega) ?_; intro v2 w2 hown2 hg2; have HB2 := Lib.hid (bk_own (a := w) ((Bk.refl base w).alloc hbase (.cells #[.int .u8 (128 + (k : Int))] 5)) (Hown.out.alloc _) hg2 hbase); have HO2 := Lib.hid hown2; clear hown2 hg2)
    go_loopw [0, 9] (fun u i wr => ∃ t : Nat, t ≤ k ∧ i = .int .i64 (8 * (t : Int) - 8) ∧ Hid (wr.ownsRow base 5 1 u (len + 1 + (k - t)) ((xs ++ first n :: digs n t).map u8v)) ∧ Hid (Bk base w wr)) (fun _ i _ => (intOf i + 8).toNat)
    case atStart =>
      refine ⟨k, Nat.le_refl _, by go_num, Lib.hid ?_, HB2⟩
      rw [Hall.out, Nat.sub_self, List.map_append, List.map_cons, List.map_nil, Hfirst.out]
      exact HO2.out
    case round =>
      obtain ⟨t, ht, rfl, hown, hB⟩ := hrel
      rcases Nat.eq_zero_or_pos t with h0 | h0
      · subst h0
        go_wp2_with fail
        go_ret
        refine ⟨⟨_, ?_, rfl⟩, hB.out⟩
        have h := hown.out
        rw [Nat.sub_zero] at h
        rw [Hnl.out, ← Nat.add_assoc]
        exact h
      · obtain ⟨j, rfl⟩ : ∃ j, t = j + 1 := ⟨t - 1, by omega⟩
        have e8 : 8 * (((j + 1 : Nat)) : Int) - 8 = 8 * (j : Int) := by omega
        rw [e8]
        have hd := Hdig.out j
        have Hst := Lib.hid (Hstep.out j (by omega))
        have hbs := hB.out.1.size
        go_wp2_with (at_builtin; refine wpList_append_one rfl (.tmp 38) (.tmp 45) 90 rfl base 5 i0 _ 1 Try.underlying90 Hi0.out Hz0.out Hz1.out Hz2.out rfl u0 (len + 1 + (k - (j + 1))) _ rfl (hown.out.alloc _) wr.heap.size 1 (u8v (dig n j)) rfl (by simp [go_sem]; rfl) rfl (by omega) (by omega) (by simp; omega) ?_; intro v3 w3 hown3 hg3; have HB3 := Lib.hid (bk_own (a := w) (hB.out.alloc (by omega) (.cells #[u8v (dig n j)] 5)) (hown.out.alloc _) hg3 hbase); have HO3 := Lib.hid hown3; clear hown3 hg3)
        go_roundw
        case rel =>
          refine ⟨j, by omega, by go_num, Lib.hid ?_, HB3⟩
          have h := HO3.out
          rw [← List.map_singleton (f := u8v), ← List.map_append, List.append_assoc, List.cons_append, Hst.out] at h
          rw [show len + 1 + (k - j) = len + 1 + (k - (j + 1)) + 1 from by omega]
          exact h
        case measure => simp [intOf]; omega
end Go.Proofs.Ytomjgkflnfjjbaa
