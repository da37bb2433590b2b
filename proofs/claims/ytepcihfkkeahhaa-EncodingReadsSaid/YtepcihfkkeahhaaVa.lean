/- appendValue, appendAttr, the Writer's Attr. -/
import Derived.Test.YtepcihfkkeahhaaTx
import Derived.Deep.RegionWith
import Derived.Deep.DeepMust
namespace Go.Proofs.Ytepcihfkkeahhaa
open Go.ChangeShapes Go.WideShapes Go.ChangeAt Go.RowKit En

def valueF (k : Int) (s : ByteArray) (n : Int) : List UInt8 := num k ++ (text s ++ num n)
theorem below_bk {base : Nat} {a w w' : World} (h : Bk base a w) (k : Bk base w w') : Bk base a w' := h.trans k
set_option maxRecDepth 100000 in
theorem append_value (base : Nat) (v : Value) (len : Nat) (xs : List UInt8) (hlen : len ≤ 700000) (k n : Int) (s : ByteArray) (hs : s.size ≤ 10000) (hk1 : -9223372036854775808 ≤ k) (hk2 : k ≤ 9223372036854775807) (hn1 : -9223372036854775808 ≤ n) (hn2 : n ≤ 9223372036854775807) (w : World) (hbase : base ≤ w.heap.size) (hown : w.ownsRow base 5 1 v len (xs.map u8v)) :
    Calls Try.prog 111 #[v, .agg #[.int .i64 k, .string s, .int .i64 n]] w fun e w' => (∃ v', w'.ownsRow base 5 1 v' (len + (valueF k s n).length) ((xs ++ valueF k s n).map u8v) ∧ e = .returned v') ∧ Bk base w w' := by
  have hbk := num_bounds k hk1 hk2
  have hbn := num_bounds n hn1 hn2
  have hbs := num_bounds (s.size : Int) (by omega) (by omega)
  have htl := text_len s
  have Hown := Lib.hid hown
  clear hown
  go_enter Try.func111, Try.ntmps111
  go_wp2_with fail
  have hB0 : Bk base w (w.alloc (.cells #[.int .i64 k, .string s, .int .i64 n] 88)) := (Bk.refl base w).alloc hbase _
  refine (append_number base v len xs (by omega) k hk1 hk2 _ (by simp; omega) (Hown.out.alloc _)).mono ?_
  rintro e w1 ⟨⟨v1, hown1, rfl⟩, hB1⟩
  have hblk1 := hB1.2 _ _ _ (by decide) (Deep.blk_alloc_new w (.cells #[.int .i64 k, .string s, .int .i64 n] 88))
  have c1 := cell_of_row w1 w.heap.size 1 _ _ _ hblk1
  have c2 := cell_of_row w1 w.heap.size 2 _ _ _ hblk1
  have HB01 := Lib.hid (hB0.trans hB1)
  have HO1 := Lib.hid hown1
  have Hblk1 := Lib.hid hblk1
  have hb1 := HB01.out.1.size
  clear hown1 hblk1 hB1 hB0
  go_wp2_with fail
  refine (append_text base v1 (len + (num k).length) (xs ++ num k) (by omega) s hs w1 (by omega) HO1.out).mono ?_
  rintro e w2 ⟨⟨v2, hown2, rfl⟩, hB2⟩
  have hblk2 := hB2.2 _ _ _ (by decide) Hblk1.out
  have d2 := cell_of_row w2 w.heap.size 2 _ _ _ hblk2
  have HB02 := Lib.hid (HB01.out.trans hB2)
  have HO2 := Lib.hid hown2
  have hb2 := HB02.out.1.size
  clear hown2 hblk2 hB2
  go_wp2_with fail
  refine (append_number base v2 (len + (num k).length + (text s).length) (xs ++ num k ++ text s) (by omega) n hn1 hn2 w2 (by omega) HO2.out).mono ?_
  rintro e w3 ⟨⟨v3, hown3, rfl⟩, hB3⟩
  have HB03 := Lib.hid (HB02.out.trans hB3)
  have HO3 := Lib.hid hown3
  clear hown3 hB3
  go_wp2_with fail
  go_ret
  refine ⟨⟨_, ?_, rfl⟩, HB03.out⟩
  have h := HO3.out
  have e1 : (valueF k s n).length = (num k).length + ((text s).length + (num n).length) := by unfold valueF; rw [List.length_append, List.length_append]
  have e2 : xs ++ valueF k s n = xs ++ num k ++ text s ++ num n := by unfold valueF; simp
  rw [e1, e2, ← Nat.add_assoc, ← Nat.add_assoc]
  exact h

def attrF (key : ByteArray) (k : Int) (s : ByteArray) (n : Int) : List UInt8 := text key ++ valueF k s n
set_option maxRecDepth 100000 in
set_option maxHeartbeats 1000000 in
theorem append_attr (base : Nat) (v : Value) (len : Nat) (xs : List UInt8) (hlen : len ≤ 600000) (key : ByteArray) (hkey : key.size ≤ 10000) (k n : Int) (s : ByteArray) (hs : s.size ≤ 10000) (hk1 : -9223372036854775808 ≤ k) (hk2 : k ≤ 9223372036854775807) (hn1 : -9223372036854775808 ≤ n) (hn2 : n ≤ 9223372036854775807) (w : World) (hbase : base ≤ w.heap.size) (hown : w.ownsRow base 5 1 v len (xs.map u8v)) :
    Calls Try.prog 107 #[v, .agg #[.string key, .int .i64 k, .string s, .int .i64 n]] w fun e w' => (∃ v', w'.ownsRow base 5 1 v' (len + (attrF key k s n).length) ((xs ++ attrF key k s n).map u8v) ∧ e = .returned v') ∧ Bk base w w' := by
  have hbk := num_bounds (key.size : Int) (by omega) (by omega)
  have htl := text_len key
  have Hown := Lib.hid hown
  clear hown
  go_enter Try.func107, Try.ntmps107
  go_wp2_with fail
  have hB0 : Bk base w (w.alloc (.cells #[.string key, .int .i64 k, .string s, .int .i64 n] 91)).drew := Bk.drew ((Bk.refl base w).alloc hbase _)
  have HB0 := Lib.hid hB0
  have Hown0 : Hid ((w.alloc (.cells #[.string key, .int .i64 k, .string s, .int .i64 n] 91)).drew.ownsRow base 5 1 v len (xs.map u8v)) := Lib.hid (Hown.out.alloc _).drew
  have hblk0 : (w.alloc (.cells #[.string key, .int .i64 k, .string s, .int .i64 n] 91)).drew.heap[w.heap.size]? = some (Obj.cells #[.string key, .int .i64 k, .string s, .int .i64 n] 91 (0, 0)) := Deep.blk_alloc_new w _
  have Hblk0 := Lib.hid hblk0
  have hb0 : base ≤ (w.alloc (.cells #[.string key, .int .i64 k, .string s, .int .i64 n] 91)).drew.heap.size := by have := hB0.1.size; omega
  have Hb0 := Lib.hid hb0
  clear hB0 hblk0 hb0
  go_region_with ((first | (go_at_call 89; refine (append_text base v len xs (by omega) key hkey _ Hb0.out Hown0.out).mono ?_; rintro e w1 ⟨⟨v1, hown1, rfl⟩, hB1⟩; have hblk1 := hB1.2 _ _ _ (by decide) Hblk0.out; have c1 := cell_of_row w1 w.heap.size 1 _ _ _ hblk1; have c2 := cell_of_row w1 w.heap.size 2 _ _ _ hblk1; have c3 := cell_of_row w1 w.heap.size 3 _ _ _ hblk1; have HB01 := Lib.hid (HB0.out.trans hB1); have HO1 := Lib.hid hown1; have hb1 := HB01.out.1.size; clear hown1 hblk1 hB1) | (go_at_call 111; refine (append_value base v1 (len + (text key).length) (xs ++ text key) (by omega) k n s hs hk1 hk2 hn1 hn2 w1 (by omega) HO1.out).mono ?_; rintro e w2 ⟨⟨v2, hown2, rfl⟩, hB2⟩; have HB02 := Lib.hid (HB01.out.trans hB2); have HO2 := Lib.hid hown2; clear hown2 hB2)))
  all_goals
    simp only [List.getElem_toArray, List.getElem_cons_succ, List.getElem_cons_zero, Act.put, List.setIfInBounds_toArray, List.set_cons_succ, List.set_cons_zero]
    (refine (by assumption : ∀ _ _, _ → _) _ _ ?_)
    go_wp2_with fail
    go_ret
    refine ⟨⟨_, ?_, rfl⟩, HB02.out⟩
    have h := HO2.out
    have e1 : (attrF key k s n).length = (text key).length + (valueF k s n).length := by unfold attrF; rw [List.length_append]
    have e2 : xs ++ attrF key k s n = xs ++ text key ++ valueF k s n := by unfold attrF; rw [List.append_assoc]
    rw [e1, e2, ← Nat.add_assoc]
    exact h

theorem w_attr (g : Nat) (fs : List (List UInt8)) (key : ByteArray) (hkey : key.size ≤ 10000) (k n : Int) (s : ByteArray) (hs : s.size ≤ 10000) (hk1 : -9223372036854775808 ≤ k) (hk2 : k ≤ 9223372036854775807) (hn1 : -9223372036854775808 ≤ n) (hn2 : n ≤ 9223372036854775807) (htot : total fs ≤ 1000000) (w : World) (hW : WS w g fs) :
    Calls Try.prog 52 #[.pointer (some ⟨g, 0, none⟩), .agg #[.string key, .int .i64 k, .string s, .int .i64 n]] w fun e w' => e = .returned (.tuple #[]) ∧ WS w' g (attrF key k s n :: fs) ∧ w.grownBy w' (some g) := by
  have hbk := num_bounds k hk1 hk2
  have hbn := num_bounds n hn1 hn2
  have hbs := num_bounds (s.size : Int) (by omega) (by omega)
  have hbe := num_bounds (key.size : Int) (by omega) (by omega)
  have htk := text_len key
  have hts := text_len s
  have hfl : (attrF key k s n).length = (text key).length + ((num k).length + ((text s).length + (num n).length)) := by unfold attrF valueF; simp only [List.length_append]
  have Hfl := Lib.hid (show 0 < (attrF key k s n).length ∧ (attrF key k s n).length ≤ 1000000 by omega)
  have HW := Lib.hid hW
  have hglt := hW.lt
  have Hnil : ∀ o : Obj, Hid ((w.alloc o).ownsRow w.heap.size 5 1 (.slice none 0 0) 0 (List.map u8v [])) := fun o => Lib.hid (by exact ⟨rfl, Or.inl ⟨rfl, rfl⟩⟩)
  clear hW hbk hbn hbs hbe htk hts hfl
  go_enter Try.func52, Try.ntmps52
  go_wp2_with fail
  refine (append_attr w.heap.size _ 0 [] (by omega) key hkey k n s hs hk1 hk2 hn1 hn2 _ (by simp) (Hnil _).out).mono ?_
  rintro e w1 ⟨⟨v, hown, rfl⟩, hB, _⟩
  have HB := Lib.hid (Below.trans ((Below.refl w.heap.size w).alloc (Nat.le_refl _) _) hB)
  have HW1 := Lib.hid (HW.out.below HB.out)
  have Hown : Hid (w1.ownsRow w.heap.size 5 1 v (attrF key k s n).length ((attrF key k s n).map u8v)) := Lib.hid (by rw [Nat.zero_add, List.nil_append] at hown; exact hown)
  clear hown hB
  go_wp2_with fail
  refine (add_any g fs (attrF key k s n) _ v Hfl.out.1 Hfl.out.2 (by omega) w1 HW1.out Hown.out).mono ?_
  rintro e w2 ⟨rfl, hWS, hgr⟩
  go_wp2_with fail
  go_end0
  exact ⟨rfl, hWS, hgr.os.trans HB.out.os, hgr.tape.trans HB.out.tape, hgr.output.trans HB.out.output, Nat.le_trans HB.out.size hgr.size, fun i hi hne => (hgr.block i (by have := HB.out.size; omega) hne).trans (HB.out.block i hi)⟩
end Go.Proofs.Ytepcihfkkeahhaa
