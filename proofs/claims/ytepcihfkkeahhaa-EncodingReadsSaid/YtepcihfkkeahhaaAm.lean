/- appendNumbers, appendBool, appendRef, appendExchange, appendMessage. -/
import Derived.Test.YtepcihfkkeahhaaVa
import Derived.Test.YtepcihfkkeahhaaOp
namespace Go.Proofs.Ytepcihfkkeahhaa
open Go.ChangeShapes Go.WideShapes Go.ChangeAt Go.RowKit En


def nums (l : List Int) : List UInt8 := l.flatMap num
theorem nums_snoc (l : List Int) (n : Int) : nums (l ++ [n]) = nums l ++ num n := by simp [nums]
theorem nums_len (l : List Int) (h : ∀ x ∈ l, In64 x) : (nums l).length ≤ 9 * l.length := by
  induction l with
  | nil => simp [nums]
  | cons x l ih =>
    have h1 := (num_bounds x (h x (List.mem_cons_self ..)).1 (h x (List.mem_cons_self ..)).2).2
    have h2 := ih (fun y hy => h y (List.mem_cons_of_mem _ hy))
    have e : (nums (x :: l)).length = (num x).length + (nums l).length := by simp [nums]
    rw [e, List.length_cons]; omega
theorem take_snocI (l : List Int) (k : Nat) (h : k < l.length) : l.take (k + 1) = l.take k ++ [l[k]] := by
  rw [List.take_add_one, List.getElem?_eq_getElem h]; rfl

set_option maxHeartbeats 1000000 in
set_option maxRecDepth 100000 in
theorem append_numbers (base : Nat) (v : Value) (len : Nat) (xs : List UInt8) (hlen : len ≤ 800000) (l : List Int) (hl : l.length ≤ 100) (hin : ∀ x ∈ l, In64 x) (g c : Nat) (w : World) (hbase : base ≤ w.heap.size) (hown : w.ownsRow base 5 1 v len (xs.map u8v))
    (hblk : w.heap[g]? = some (.cells (l.map (Value.int .i64)).toArray 3 (0, 0))) :
    Calls Try.prog 113 #[v, .slice (some ⟨g, 0, none⟩) l.length c] w fun e w' => (∃ v', w'.ownsRow base 5 1 v' (len + (nums l).length) ((xs ++ nums l).map u8v) ∧ e = .returned v') ∧ Bk base w w' := by
  have Hown := Lib.hid hown
  have Hblk := Lib.hid hblk
  have Hin := Lib.hid hin
  clear hown hblk hin
  go_enter Try.func113, Try.ntmps113
  go_wp2_with fail
  go_loopw [0, 9] (fun u i wr => ∃ k : Nat, k ≤ l.length ∧ i = .int .i64 (k : Int) ∧ Hid (wr.ownsRow base 5 1 u (len + (nums (l.take k)).length) ((xs ++ nums (l.take k)).map u8v)) ∧ Hid (Bk base w wr)) (fun _ i _ => l.length - (intOf i).toNat)
  case atStart => exact ⟨0, Nat.zero_le _, rfl, Lib.hid (by simpa [nums] using Hown.out), Lib.hid (Bk.refl _ _)⟩
  case round =>
    obtain ⟨k, hk, rfl, hO, hB⟩ := hrel
    have hbs := hB.out.1.size
    by_cases hlt : k < l.length
    · have hc := cell_of_row wr g k _ _ _ (hB.out.2 _ _ _ (by decide) Hblk.out)
      have hx : (l.map (Value.int .i64)).toArray[k]? = some (.int .i64 l[k]) := by simp [hlt]
      rw [hx] at hc
      have hi := Hin.out l[k] (List.getElem_mem hlt)
      have Hts := Lib.hid (take_snocI l k hlt)
      have hnl : (nums (l.take k)).length ≤ 900 := by
        have := nums_len (l.take k) (fun x hx => Hin.out x (List.mem_of_mem_take hx))
        rw [List.length_take] at this; omega
      obtain ⟨x, hxe⟩ : ∃ x, x = l[k] := ⟨_, rfl⟩
      rw [← hxe] at hc hi Hts
      clear hx hxe
      go_wp2_with fail
      refine (append_number base u0 _ _ (by omega) x hi.1 hi.2 wr (by omega) hO.out).mono ?_
      rintro e w1 ⟨⟨v1, hown1, rfl⟩, hB1⟩
      have HO1 := Lib.hid hown1
      have HB1 := Lib.hid (hB.out.trans hB1)
      clear hown1 hB1
      go_wp2_with fail
      go_roundw
      case rel =>
        refine ⟨k + 1, by omega, by go_num, Lib.hid ?_, HB1⟩
        have h := HO1.out
        rw [Hts.out, nums_snoc, List.length_append, ← Nat.add_assoc, ← List.append_assoc]
        exact h
      case measure => simp [intOf]; omega
    · obtain rfl : k = l.length := by omega
      have hT : l.take l.length = l := List.take_length
      have HT := Lib.hid hT
      clear hT
      go_wp2_with fail
      go_ret
      refine ⟨⟨_, ?_, rfl⟩, hB.out⟩
      have h := hO.out
      rw [HT.out] at h
      exact h
def boolF (b : Bool) : List UInt8 := num (if b then 1 else 0)
theorem append_bool (base : Nat) (v : Value) (len : Nat) (xs : List UInt8) (hlen : len ≤ 900000) (b : Bool) (w : World) (hbase : base ≤ w.heap.size) (hown : w.ownsRow base 5 1 v len (xs.map u8v)) :
    Calls Try.prog 88 #[v, .bool b] w fun e w' => (∃ v', w'.ownsRow base 5 1 v' (len + (boolF b).length) ((xs ++ boolF b).map u8v) ∧ e = .returned v') ∧ Bk base w w' := by
  cases b with
  | true =>
    obtain ⟨F, hF⟩ : ∃ F, F = boolF true := ⟨_, rfl⟩
    have H := append_number base v len xs hlen 1 (by omega) (by omega) w hbase hown
    rw [show num 1 = F from hF.symm] at H
    rw [← hF]
    clear hown hF
    go_enter Try.func88, Try.ntmps88
    go_wp2_with fail
    refine H.mono ?_
    rintro e w1 ⟨⟨v1, hown1, rfl⟩, hB1⟩
    have HO1 := Lib.hid hown1
    have HB1 := Lib.hid hB1
    clear hown1 hB1
    go_wp2_with fail
    go_ret
    exact ⟨⟨_, HO1.out, rfl⟩, HB1.out⟩
  | false =>
    obtain ⟨F, hF⟩ : ∃ F, F = boolF false := ⟨_, rfl⟩
    have H := append_number base v len xs hlen 0 (by omega) (by omega) w hbase hown
    rw [show num 0 = F from hF.symm] at H
    rw [← hF]
    clear hown hF
    go_enter Try.func88, Try.ntmps88
    go_wp2_with fail
    refine H.mono ?_
    rintro e w1 ⟨⟨v1, hown1, rfl⟩, hB1⟩
    have HO1 := Lib.hid hown1
    have HB1 := Lib.hid hB1
    clear hown1 hB1
    go_wp2_with fail
    go_ret
    exact ⟨⟨_, HO1.out, rfl⟩, HB1.out⟩
theorem blk_second (w : World) (o1 o2 : Obj) : ((w.alloc o1).alloc o2).heap[w.heap.size + 1]? = some o2 := by
  have := Deep.blk_alloc_new (w.alloc o1) o2
  rwa [show (w.alloc o1).heap.size = w.heap.size + 1 by simp] at this
set_option maxRecDepth 100000 in
theorem append_ref (base : Nat) (v : Value) (len : Nat) (xs : List UInt8) (hlen : len ≤ 800000) (x y : Int) (hx : In64 x) (hy : In64 y) (w : World) (hbase : base ≤ w.heap.size) (hown : w.ownsRow base 5 1 v len (xs.map u8v)) :
    Calls Try.prog 112 #[v, .agg #[.int .i64 x, .int .i64 y]] w fun e w' => (∃ v', w'.ownsRow base 5 1 v' (len + (nums [x, y]).length) ((xs ++ nums [x, y]).map u8v) ∧ e = .returned v') ∧ Bk base w w' := by
  have Hown := Lib.hid hown
  clear hown
  have Hin : Hid (∀ n ∈ [x, y], In64 n) := Lib.hid (by intro n hn; simp at hn; rcases hn with rfl | rfl <;> assumption)
  go_enter Try.func112, Try.ntmps112
  go_wp2_with fail
  have HB : Hid (Bk base w ((w.alloc (.cells #[.int .i64 x, .int .i64 y] 83)).alloc (.cells #[.int .i64 x, .int .i64 y] 3))) := Lib.hid (((Bk.refl base w).alloc hbase _).alloc (by simp; omega) _)
  refine (append_numbers base v len xs (by omega) [x, y] (by simp) Hin.out _ _ _ (by simp; omega) ((Hown.out.alloc _).alloc _) (blk_second w _ _)).mono ?_
  rintro e w1 ⟨⟨v1, hown1, rfl⟩, hB1⟩
  have HO1 := Lib.hid hown1
  have HB1 := Lib.hid (HB.out.trans hB1)
  clear hown1 hB1
  go_wp2_with fail
  go_ret
  exact ⟨⟨_, HO1.out, rfl⟩, HB1.out⟩
end Go.Proofs.Ytepcihfkkeahhaa
