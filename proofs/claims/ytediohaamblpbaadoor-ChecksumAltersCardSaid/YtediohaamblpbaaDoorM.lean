/- What the maps of registers return: of, square, oneZero, Combine. -/
import Derived.Test.YtediohaamblpbaaDoorR
import Derived.Laws.CopyOwn
import Derived.Deep.WholeRow
namespace Go.Proofs.YtediohaamblpbaaDoor
open Go.ChangeShapes Go.WideShapes Go.ChangeAt Go.RowKit Ck

/-- An array of 32 cells holds what f makes of each bit. -/
structure Cols (cv : Array Value) (f : BitVec 32 → BitVec 32) : Prop where
  size : cv.size = 32
  at_ : ∀ i : Nat, i < 32 → cv[i]? = some (.int .u32 (f (1#32 <<< i)).toNat)
structure Lin (f : BitVec 32 → BitVec 32) : Prop where
  zero : f 0#32 = 0#32
  xor : ∀ a b, f (a ^^^ b) = f a ^^^ f b
theorem size66 : (Tryd.prog.info? 66).map (·.size) = some 32 := by kernel_rfl
theorem index_agg (cv : Array Value) (k : Nat) (v : Value) (h : cv[k]? = some v) (hk : k < 32) (w : World) :
    (Instr.index 66 (.agg cv) (.int .i64 (k : Int))).run Tryd.prog w = .ok v w := by
  have hk2 : (0 : Int) ≤ k ∧ (k : Int) < 32 := by omega
  simp [Instr.index, run_underlying Tryd.underlying66, asIntOf, go_sem, hk, h]
theorem and_1 (c : BitVec 32) (k : Nat) : bits .and .u32 ((c.toNat : Int) / 2 ^ k) 1 = ((c.toNat / 2 ^ k % 2 : Nat) : Int) := by
  have hlt : c.toNat / 2 ^ k < 4294967296 := Nat.lt_of_le_of_lt (Nat.div_le_self _ _) (u32_lt c)
  have h := u32_and_nat (c.toNat / 2 ^ k) 1 hlt (by omega)
  rw [show ((1 : Nat) : Int) = 1 from rfl, Int.natCast_ediv, Int.natCast_pow] at h
  rw [show ((2 : Int)) = ((2 : Nat) : Int) from rfl, h, show c.toNat / 2 ^ k &&& 1 = c.toNat / 2 ^ k % 2 ^ 1 from Nat.and_two_pow_sub_one_eq_mod _ 1]

set_option maxHeartbeats 400000 in
theorem of_any (f : BitVec 32 → BitVec 32) (hf : Lin f) (cv : Array Value) (hcv : Cols cv f) (c : BitVec 32) (v : Int) (hv : v = c.toNat) (w : World) :
    Calls Tryd.prog 38 #[.agg cv, .int .u32 v] w fun e w' => e = .returned (.int .u32 (f c).toNat) ∧ Below w.heap.size w w' := by
  subst hv
  have hs : (Tryd.prog.info? 66).map (·.size) = some cv.size := by rw [hcv.size]; exact size66
  have Hs := Lib.hid hs
  clear hs
  have Hc := Lib.hid hcv
  clear hcv
  have Hf := Lib.hid hf
  clear hf
  obtain ⟨r, hr⟩ : ∃ r, f c = r := ⟨_, rfl⟩
  rw [hr]
  have Hr := Lib.hid hr
  clear hr
  go_enter Tryd.func38, Tryd.ntmps38
  go_wp2_with (with_reducible refine wpList_load_row rfl _ _ rfl w.heap.size rfl 66 cv (0, 0) _ (heap_alloc_new _ _) Tryd.underlying66 rfl Hs.out ?_)
  go_loop [5, 9] (fun h i => ∃ k : Nat, k ≤ 32 ∧ i = .int .i64 k ∧ h = .int .u32 (f (low c k)).toNat) (fun _ i => 32 - (intOf i).toNat)
  case atStart => exact ⟨0, Nat.zero_le _, rfl, by rw [low_zero, Hf.out.zero]; rfl⟩
  case round =>
    obtain ⟨k, hk, rfl, rfl⟩ := hrel
    by_cases hlt : k < 32
    · have hx := index_agg cv k _ (Hc.out.at_ k hlt) hlt
      by_cases hb : c.toNat / 2 ^ k % 2 = 1
      · have h1 : (bits .and .u32 ((c.toNat : Int) / 2 ^ k) 1 == 1) = true := by rw [and_1, beq_iff_eq]; omega
        have hl := low_succ_on c k (by rw [bit_div]; simp [hb])
        have Hl := Lib.hid hl
        clear hb hl
        go_wp2_with fail
        go_round
        case rel => exact ⟨k + 1, by omega, by go_num, by rw [xor32, Hl.out, Hf.out.xor]⟩
        case measure => simp [intOf]; omega
      · have h1 : (bits .and .u32 ((c.toNat : Int) / 2 ^ k) 1 == 1) = false := by rw [and_1, beq_eq_false_iff_ne]; omega
        have hl := low_succ_off c k (by rw [bit_div]; simp [hb])
        have Hl := Lib.hid hl
        clear hb hl
        go_wp2_with fail
        go_round
        case rel => exact ⟨k + 1, by omega, by go_num, by rw [Hl.out]⟩
        case measure => simp [intOf]; omega
    · obtain rfl : k = 32 := by omega
      go_wp2_with fail
      go_ret
      refine ⟨ret_int ?_, (Below.refl _ _).alloc (Nat.le_refl _) _⟩
      rw [low_all, Hr.out]


theorem Cols.all {cv : Array Value} {f : BitVec 32 → BitVec 32} (h : Cols cv f) : cv.all (·.oneCell') = true := by
  rw [Array.all_eq_true]
  intro i hi
  have h1 := h.at_ i (by rw [← h.size]; exact hi)
  rw [Array.getElem?_eq_getElem hi] at h1
  injection h1 with h1
  rw [h1]; rfl
theorem new3 (w : World) (A B C : Obj) : (((w.alloc A).alloc B).alloc C).heap[w.heap.size]? = some A ∧ (((w.alloc A).alloc B).alloc C).heap[w.heap.size + 1]? = some B ∧ (((w.alloc A).alloc B).alloc C).heap[w.heap.size + 1 + 1]? = some C := by
  have s1 : (w.alloc A).heap.size = w.heap.size + 1 := by simp
  have s2 : ((w.alloc A).alloc B).heap.size = w.heap.size + 1 + 1 := by simp
  refine ⟨?_, ?_, ?_⟩
  · rw [Below.heap_alloc _ _ _ (by omega), Below.heap_alloc _ _ _ (by omega)]; exact heap_alloc_new w A
  · rw [Below.heap_alloc _ _ _ (by omega), ← s1]; exact heap_alloc_new _ B
  · rw [← s2]; exact heap_alloc_new _ C
theorem grown3 (w : World) (A B C : Obj) : Below w.heap.size w (((w.alloc A).alloc B).alloc C) :=
  (((Below.refl _ _).alloc (Nat.le_refl _) A).alloc (by simp) B).alloc (by simp; omega) C

/-- The round's head in square: the first k columns are done. -/
structure SqRel (w wr : World) (g1 g2 : Nat) (f : BitVec 32 → BitVec 32) (k : Nat) (cs z : Array Value) : Prop where
  old : wr.heap[g1]? = some (.cells z 66 (0, 0))
  zsize : z.size = 32
  new : wr.heap[g2]? = some (.cells cs 66 (0, 0))
  size : cs.size = 32
  done : ∀ i : Nat, i < k → cs[i]? = some (.int .u32 (f (1#32 <<< i)).toNat)
  below : Below w.heap.size w wr
  far1 : w.heap.size ≤ g1
  far2 : w.heap.size ≤ g2
  ne : g1 ≠ g2
theorem SqRel.step {w wr w1 : World} {g1 g2 : Nat} {f : BitVec 32 → BitVec 32} {k : Nat} {cs z : Array Value} (h : SqRel w wr g1 g2 f k cs z) (hk : k < 32) (hb : Below wr.heap.size wr w1) (v : BitVec 32) (hv : v = f (1#32 <<< k)) :
    SqRel w (w1.setCell ⟨g2, k, none⟩ (.int .u32 v.toNat)) g1 g2 f (k + 1) (cs.setIfInBounds k (.int .u32 v.toNat)) z := by
  have l1 : g1 < wr.heap.size := (Array.getElem?_eq_some_iff.1 h.old).1
  have l2 : g2 < wr.heap.size := (Array.getElem?_eq_some_iff.1 h.new).1
  have o1 := (hb.block g1 l1).trans h.old
  have o2 := (hb.block g2 l2).trans h.new
  refine ⟨?_, h.zsize, heap_setCell_same _ _ _ _ _ _ o2, by simp [h.size], ?_, ?_, h.far1, h.far2, h.ne⟩
  · rw [heap_setCell_other _ _ _ _ (by exact h.ne)]; exact o1
  · intro i hi
    rw [Array.getElem?_setIfInBounds]
    by_cases e : k = i
    · subst e; subst hv; simp [h.size, hk]
    · rw [if_neg e]; exact h.done i (by omega)
  · exact Below.setCell (Below.trans h.below (hb.mono (by have := h.below.size; omega))) h.far2 _

set_option maxHeartbeats 1000000 in
theorem square_any (f : BitVec 32 → BitVec 32) (hf : Lin f) (cv : Array Value) (hcv : Cols cv f) (w : World) :
    Calls Tryd.prog 39 #[.agg cv] w fun e w' => (∃ cs, Cols cs (fun x => f (f x)) ∧ e = .returned (.agg cs)) ∧ Below w.heap.size w w' := by
  have hs : (Tryd.prog.info? 66).map (·.size) = some cv.size := by rw [hcv.size]; exact size66
  have Hs := Lib.hid hs
  clear hs
  have Hc := Lib.hid hcv
  clear hcv
  have Hf := Lib.hid hf
  clear hf
  go_enter Tryd.func39, Tryd.ntmps39
  go_wp2_with (with_reducible refine wpList_load_row rfl _ _ rfl w.heap.size rfl 66 cv (0, 0) _ (new3 _ _ _ _).1 Tryd.underlying66 rfl Hs.out ?_)
  go_loopw [7] (fun i wr => ∃ (k : Nat) (cs z : Array Value), k ≤ 32 ∧ i = .int .i64 k ∧ SqRel w wr (w.heap.size + 1) (w.heap.size + 1 + 1) (fun x => f (f x)) k cs z ∧ wr.heap[w.heap.size]? = some (.cells cv 66 (0, 0))) (fun i _ => 32 - (intOf i).toNat)
  case atStart => exact ⟨0, _, _, Nat.zero_le _, rfl, ⟨(new3 _ _ _ _).2.1, rfl, (new3 _ _ _ _).2.2, rfl, fun i hi => absurd hi (by omega), grown3 _ _ _ _, by omega, by omega, by omega⟩, (new3 _ _ _ _).1⟩
  case round =>
    rename_i wr
    obtain ⟨k, cs, z, hk, rfl, hrel, hbox⟩ := hrel
    have Hbox := Lib.hid hbox
    clear hbox
    have hz1 : w.heap.size + 1 + 1 < wr.heap.size := (Array.getElem?_eq_some_iff.1 hrel.new).1
    by_cases hlt : k < 32
    · have hx := index_agg cv k _ (Hc.out.at_ k hlt) hlt
      go_wp2_with (with_reducible refine wpList_load_row rfl _ _ rfl w.heap.size rfl 66 cv (0, 0) _ Hbox.out Tryd.underlying66 rfl Hs.out ?_)
      refine (of_any f Hf.out cv Hc.out (f (1#32 <<< k)) _ rfl _).mono ?_
      rintro e w1 ⟨rfl, hb1⟩
      have o2 := (hb1.block _ hz1).trans hrel.new
      have hc := cell_of_row w1 (w.heap.size + 1 + 1) k cs _ _ o2
      have hfz := frozen_of_row w1 (w.heap.size + 1 + 1) k cs _ o2
      have hnew := hrel.step hlt hb1 (f (f (1#32 <<< k))) rfl
      have hbox1 : (w1.setCell ⟨w.heap.size + 1 + 1, k, none⟩ (.int .u32 (f (f (1#32 <<< k))).toNat)).heap[w.heap.size]? = some (.cells cv 66 (0, 0)) := by
        rw [heap_setCell_other _ _ _ _ (by show w.heap.size ≠ w.heap.size + 1 + 1; omega)]
        exact (hb1.block _ (by omega)).trans Hbox.out
      rw [Array.getElem?_eq_getElem (by rw [hrel.size]; exact hlt)] at hc
      have Hnew := Lib.hid hnew
      have Hbox1 := Lib.hid hbox1
      clear hnew hbox1 o2 hb1
      go_wp2_with fail
      go_roundw
      case rel => exact ⟨k + 1, _, _, by omega, by go_num, Hnew.out, Hbox1.out⟩
      case measure => simp [intOf]; omega
    · obtain rfl : k = 32 := by omega
      have hC : Cols cs (fun x => f (f x)) := ⟨hrel.size, hrel.done⟩
      have hi : (Tryd.prog.info? 66).map (·.size) = some cs.size := by rw [hrel.size]; exact size66
      have Hi := Lib.hid hi
      have Hrel := Lib.hid hrel
      have HC := Lib.hid hC
      clear hi hrel hC
      go_wp2_with (first
        | (with_reducible refine wpList_load_row rfl _ _ rfl (w.heap.size + 1 + 1) rfl 66 cs (0, 0) _ Hrel.out.new Tryd.underlying66 rfl Hi.out ?_)
        | (with_reducible refine wpList_store_row rfl _ _ _ rfl (w.heap.size + 1) cs rfl rfl 66 z Hrel.out.old Hi.out (Hrel.out.zsize.trans HC.out.size.symm) HC.out.all ?_))
      refine bodyPost_ret (v := .agg cs) ?_ rfl ?_
      · exact results_cell_row rfl _ _ (w.heap.size + 1) 66 cs (0, 0) _ rfl (setRow_heap _ _ _ _ _ _ Hrel.out.old) Tryd.underlying66 rfl Hi.out
      · exact ⟨⟨cs, HC.out, rfl⟩, below_setRow Hrel.out.below Hrel.out.far1 _⟩

theorem new2 (w : World) (A B : Obj) : ((w.alloc A).alloc B).heap[w.heap.size]? = some A ∧ ((w.alloc A).alloc B).heap[w.heap.size + 1]? = some B := by
  have s1 : (w.alloc A).heap.size = w.heap.size + 1 := by simp
  refine ⟨?_, ?_⟩
  · rw [Below.heap_alloc _ _ _ (by omega)]; exact heap_alloc_new w A
  · rw [← s1]; exact heap_alloc_new _ B
theorem grown2 (w : World) (A B : Obj) : Below w.heap.size w ((w.alloc A).alloc B) :=
  ((Below.refl _ _).alloc (Nat.le_refl _) A).alloc (by simp) B
theorem one_shl (k : Nat) : ((2 : Int) ^ k % 4294967296) = ((1#32 <<< k).toNat : Int) := by
  rw [BitVec.toNat_shiftLeft, Nat.shiftLeft_eq]
  simp
theorem lin_shn (n : Nat) : Lin (shn n) := ⟨shn_zero n, shn_xor n⟩
set_option maxHeartbeats 1000000 in
theorem onez_any (w : World) (hT : Tab w) :
    Calls Tryd.prog 37 #[] w fun e w' => (∃ cs, Cols cs (shn 8) ∧ e = .returned (.agg cs)) ∧ Below w.heap.size w w' := by
  have HT := Lib.hid hT
  clear hT
  go_enter Tryd.func37, Tryd.ntmps37
  go_wp2_with fail
  go_loopw [3] (fun i wr => ∃ (k : Nat) (cs z : Array Value), k ≤ 32 ∧ i = .int .i64 k ∧ SqRel w wr w.heap.size (w.heap.size + 1) (shn 8) k cs z) (fun i _ => 32 - (intOf i).toNat)
  case atStart => exact ⟨0, _, _, Nat.zero_le _, rfl, ⟨(new2 _ _ _).1, rfl, (new2 _ _ _).2, rfl, fun i hi => absurd hi (by omega), grown2 _ _ _, by omega, by omega, by omega⟩⟩
  case round =>
    rename_i wr
    obtain ⟨k, cs, z, hk, rfl, hrel⟩ := hrel
    have hz1 : w.heap.size + 1 < wr.heap.size := (Array.getElem?_eq_some_iff.1 hrel.new).1
    by_cases hlt : k < 32
    · go_wp2_with fail
      refine (pass_any (1#32 <<< k) _ (one_shl k) _ (HT.out.below hrel.below)).mono ?_
      rintro e w1 ⟨rfl, rfl⟩
      have hc := cell_of_row wr (w.heap.size + 1) k cs _ _ hrel.new
      have hfz := frozen_of_row wr (w.heap.size + 1) k cs _ hrel.new
      have hnew := hrel.step hlt (Below.refl _ _) (shn 8 (1#32 <<< k)) rfl
      rw [Array.getElem?_eq_getElem (by rw [hrel.size]; exact hlt)] at hc
      have Hnew := Lib.hid hnew
      clear hnew
      go_wp2_with fail
      go_roundw
      case rel => exact ⟨k + 1, _, _, by omega, by go_num, Hnew.out⟩
      case measure => simp [intOf]; omega
    · obtain rfl : k = 32 := by omega
      have hC : Cols cs (shn 8) := ⟨hrel.size, hrel.done⟩
      have hi : (Tryd.prog.info? 66).map (·.size) = some cs.size := by rw [hrel.size]; exact size66
      have Hi := Lib.hid hi
      have Hrel := Lib.hid hrel
      have HC := Lib.hid hC
      clear hi hrel hC
      go_wp2_with (first
        | (with_reducible refine wpList_load_row rfl _ _ rfl (w.heap.size + 1) rfl 66 cs (0, 0) _ Hrel.out.new Tryd.underlying66 rfl Hi.out ?_)
        | (with_reducible refine wpList_store_row rfl _ _ _ rfl w.heap.size cs rfl rfl 66 z Hrel.out.old Hi.out (Hrel.out.zsize.trans HC.out.size.symm) HC.out.all ?_))
      refine bodyPost_ret (v := .agg cs) ?_ rfl ?_
      · exact results_cell_row rfl _ _ w.heap.size 66 cs (0, 0) _ rfl (setRow_heap _ _ _ _ _ _ Hrel.out.old) Tryd.underlying66 rfl Hi.out
      · exact ⟨⟨cs, HC.out, rfl⟩, below_setRow Hrel.out.below Hrel.out.far1 _⟩
theorem comb_range (a b n : Int) (h : n < 0 ∨ 1099511627776 < n) (w : World) :
    Calls Tryd.prog 24 #[.int .u32 a, .int .u32 b, .int .i64 n] w fun e w' => e = .returned (.tuple #[.int .u32 0, .int .i64 2]) ∧ w = w' := by
  by_cases h0 : n < 0
  · go_enter Tryd.func24, Tryd.ntmps24
    go_wp2
    go_ret2
    exact ⟨rfl, rfl⟩
  · have h1 : 1099511627776 < n := by omega
    clear h
    go_enter Tryd.func24, Tryd.ntmps24
    go_wp2
    go_ret2
    exact ⟨rfl, rfl⟩
theorem comb_even (p m : Nat) (x : BitVec 32) (h : m % 2 = 0) : shn (8 * (2 * p) * (m / 2)) x = shn (8 * p * m) x := by
  congr 1
  have : m = 2 * (m / 2) := by omega
  conv => rhs; rw [this]
  simp only [Nat.mul_assoc, Nat.mul_left_comm]
theorem comb_odd (p m : Nat) (x : BitVec 32) (h : m % 2 = 1) : shn (8 * (2 * p) * (m / 2)) (shn (8 * p) x) = shn (8 * p * m) x := by
  rw [← shn_add]
  congr 1
  have : m = 2 * (m / 2) + 1 := by omega
  conv => rhs; rw [this]
  rw [Nat.mul_add, Nat.mul_one, Nat.add_comm]
  simp only [Nat.mul_assoc, Nat.mul_left_comm]
theorem twice_shn (p : Nat) : (fun x => shn (8 * p) (shn (8 * p) x)) = shn (8 * (2 * p)) := by
  funext x
  rw [← shn_add]
  congr 1; omega
theorem comb_fin (a b : BitVec 32) (n : Nat) (x : BitVec 32) (p : Nat) (h : shn (8 * p * 0) x = shn (8 * n) a) : x ^^^ b = comb a b n := by
  rw [Nat.mul_zero] at h
  unfold comb
  rw [← h]; rfl
set_option maxHeartbeats 1000000 in
theorem comb_any (a b : BitVec 32) (v u : Int) (hv : v = a.toNat) (hu : u = b.toNat) (n : Nat) (hn : n ≤ 1099511627776) (w : World) (hT : Tab w) :
    Calls Tryd.prog 24 #[.int .u32 v, .int .u32 u, .int .i64 n] w fun e w' => e = .returned (.tuple #[.int .u32 (comb a b n).toNat, .int .i64 0]) ∧ Below w.heap.size w w' := by
  subst hv hu
  have HT := Lib.hid hT
  clear hT
  have hnn : ¬ ((n : Int) < 0) := by omega
  have hn2 : ¬ (1099511627776 < (n : Int)) := by omega
  obtain ⟨r, hr⟩ : ∃ r, comb a b n = r := ⟨_, rfl⟩
  rw [hr]
  have Hr := Lib.hid hr
  clear hr
  go_enter Tryd.func24, Tryd.ntmps24
  go_wp2_with fail
  refine (onez_any _ HT.out).mono ?_
  rintro e w1 ⟨⟨cs, hcs, rfl⟩, hb1⟩
  have Hcs := Lib.hid hcs
  have Hb1 := Lib.hid hb1
  clear hcs hb1
  have hi : (Tryd.prog.info? 66).map (·.size) = some cs.size := by rw [Hcs.out.size]; exact size66
  have Hi := Lib.hid hi
  clear hi
  go_wp2_with (with_reducible refine wpList_store_row rfl _ _ _ rfl w1.heap.size cs rfl rfl 66 _ (heap_alloc_new _ _) Hi.out (Eq.trans (rfl : _ = 32) Hcs.out.size.symm) Hcs.out.all ?_)
  rw [World.setRow_alloc_new]
  simp only [Act.put]
  go_loopw [0, 2] (fun a' i wr => ∃ (m p : Nat) (x : BitVec 32) (cv : Array Value), m ≤ n ∧ i = .int .i64 m ∧ a' = .int .u32 x.toNat ∧ Hid (shn (8 * p * m) x = shn (8 * n) a) ∧ Hid (Cols cv (shn (8 * p))) ∧ Hid (wr.heap[w1.heap.size]? = some (.cells cv 66 (0, 0))) ∧ Hid (Below w.heap.size w wr)) (fun _ i _ => (intOf i).toNat)
  case atStart => exact ⟨n, 1, a, cs, Nat.le_refl _, rfl, rfl, Lib.hid rfl, Hcs, Lib.hid (heap_alloc_new _ _), Lib.hid (Below.alloc Hb1.out Hb1.out.size _)⟩
  case round =>
    rename_i wr
    obtain ⟨m, p, x, cv, hm, rfl, rfl, hval, hcv, hblk, hbel⟩ := hrel
    have hi : (Tryd.prog.info? 66).map (·.size) = some cv.size := by rw [hcv.out.size]; exact size66
    have Hv := Lib.hid hi
    clear hi
    by_cases h0 : 0 < m
    · have hz1 : w1.heap.size < wr.heap.size := (Array.getElem?_eq_some_iff.1 hblk.out).1
      have hlt0 : 0 < (m : Int) := by omega
      by_cases hodd : m % 2 = 1
      · have t1 : ((m : Int) % 2 == 1) = true := by rw [beq_iff_eq]; omega
        have hval2 := comb_odd p m x hodd
        have Hval := Lib.hid (hval2.trans hval.out)
        clear hodd hval2 hval
        go_wp2_with (with_reducible refine wpList_load_row rfl _ _ rfl w1.heap.size rfl 66 cv (0, 0) _ hblk.out Tryd.underlying66 rfl Hv.out ?_)
        refine (of_any (shn (8 * p)) (lin_shn _) cv hcv.out x _ rfl _).mono ?_
        rintro e w2 ⟨rfl, hb2⟩
        have hz2 : w1.heap.size < w2.heap.size := by have := hb2.size; omega
        have Hblk2 := Lib.hid ((hb2.block _ hz1).trans hblk.out)
        have Hbel2 := Lib.hid (Below.trans hbel.out (hb2.mono hbel.out.size))
        clear hb2
        go_wp2_with (with_reducible refine wpList_load_row rfl _ _ rfl w1.heap.size rfl 66 cv (0, 0) _ Hblk2.out Tryd.underlying66 rfl Hv.out ?_)
        refine (square_any (shn (8 * p)) (lin_shn _) cv hcv.out _).mono ?_
        rintro e w3 ⟨⟨cs3, hcs3, rfl⟩, hb3⟩
        rw [twice_shn] at hcs3
        have Hcs3 := Lib.hid hcs3
        have Hblk3 := Lib.hid ((hb3.block _ hz2).trans Hblk2.out)
        have Hbel3 := Lib.hid (Below.trans Hbel2.out (hb3.mono Hbel2.out.size))
        have hi3 : (Tryd.prog.info? 66).map (·.size) = some cs3.size := by rw [hcs3.size]; exact size66
        have Hi3 := Lib.hid hi3
        clear hb3 hcs3 hi3
        go_wp2_with (with_reducible refine wpList_store_row rfl _ _ _ rfl w1.heap.size cs3 rfl rfl 66 cv Hblk3.out Hi3.out (Eq.trans hcv.out.size Hcs3.out.size.symm) Hcs3.out.all ?_)
        go_roundw
        case rel => exact ⟨m / 2, 2 * p, _, cs3, by omega, by go_num, rfl, Hval, Hcs3, Lib.hid (setRow_heap _ _ _ _ _ _ Hblk3.out), Lib.hid (below_setRow Hbel3.out Hb1.out.size _)⟩
        case measure => simp [intOf]; omega
      · have t1 : ((m : Int) % 2 == 1) = false := by rw [beq_eq_false_iff_ne]; omega
        have hval2 := comb_even p m x (by omega)
        have Hval := Lib.hid (hval2.trans hval.out)
        clear hodd hval2 hval
        go_wp2_with (with_reducible refine wpList_load_row rfl _ _ rfl w1.heap.size rfl 66 cv (0, 0) _ hblk.out Tryd.underlying66 rfl Hv.out ?_)
        refine (square_any (shn (8 * p)) (lin_shn _) cv hcv.out _).mono ?_
        rintro e w3 ⟨⟨cs3, hcs3, rfl⟩, hb3⟩
        rw [twice_shn] at hcs3
        have Hcs3 := Lib.hid hcs3
        have Hblk3 := Lib.hid ((hb3.block _ hz1).trans hblk.out)
        have Hbel3 := Lib.hid (Below.trans hbel.out (hb3.mono hbel.out.size))
        have hi3 : (Tryd.prog.info? 66).map (·.size) = some cs3.size := by rw [hcs3.size]; exact size66
        have Hi3 := Lib.hid hi3
        clear hb3 hcs3 hi3
        go_wp2_with (with_reducible refine wpList_store_row rfl _ _ _ rfl w1.heap.size cs3 rfl rfl 66 cv Hblk3.out Hi3.out (Eq.trans hcv.out.size Hcs3.out.size.symm) Hcs3.out.all ?_)
        go_roundw
        case rel => exact ⟨m / 2, 2 * p, x, cs3, by omega, by go_num, rfl, Hval, Hcs3, Lib.hid (setRow_heap _ _ _ _ _ _ Hblk3.out), Lib.hid (below_setRow Hbel3.out Hb1.out.size _)⟩
        case measure => simp [intOf]; omega
    · obtain rfl : m = 0 := by omega
      have hfin := comb_fin a b n x p hval.out
      have hx : bits .xor .u32 (x.toNat : Int) (b.toNat : Int) = (r.toNat : Int) := by rw [xor32, hfin, Hr.out]
      clear hfin
      go_wp2_with fail
      go_ret2
      exact ⟨rfl, hbel.out⟩
end Go.Proofs.YtediohaamblpbaaDoor
