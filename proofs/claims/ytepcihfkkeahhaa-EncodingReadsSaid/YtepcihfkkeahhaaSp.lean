/- appendSpan. -/
import Derived.Test.YtepcihfkkeahhaaAp
namespace Go.Proofs.Ytepcihfkkeahhaa
open Go.ChangeShapes Go.WideShapes Go.ChangeAt Go.RowKit En

structure Sp where
  t : Int
  i : Int
  p : Int
  r : Int
  c : Int
  k : Int
  sv : ByteArray
  ve : ByteArray
  op : ByteArray
  st : Int
  en : Int
  er : Bool
  al : List At
  ls : List (Int × Int)
def Sp.cells (s : Sp) (va vl : Value) : Array Value := #[.int .i64 s.t, .int .i64 s.i, .int .i64 s.p, .int .i64 s.r, .int .i64 s.c, .int .i64 s.k, .string s.sv, .string s.ve, .string s.op, .int .i64 s.st, .int .i64 s.en, .bool s.er, va, vl]
def Sp.form (s : Sp) : List UInt8 :=
  nums [s.t, s.i, s.p, s.r, s.c, s.k] ++ (text s.sv ++ (text s.ve ++ (text s.op ++ (nums [s.st, s.en] ++ (boolF s.er ++ ((num s.al.length ++ atForms s.al) ++ (num s.ls.length ++ rfForms s.ls)))))))
def Sp.Ok (s : Sp) : Prop :=
  (∀ n ∈ [s.t, s.i, s.p, s.r, s.c, s.k], In64 n) ∧ s.sv.size ≤ 10000 ∧ s.ve.size ≤ 10000 ∧ s.op.size ≤ 10000 ∧ (∀ n ∈ [s.st, s.en], In64 n) ∧ (∀ a ∈ s.al, a.Ok) ∧ (∀ a ∈ s.ls, RfOk a) ∧
    s.al.length ≤ 4096 ∧ s.ls.length ≤ 4096 ∧ (atForms s.al).length ≤ 200000 ∧ (rfForms s.ls).length ≤ 200000
theorem text_bound (s : ByteArray) (h : s.size ≤ 10000) : (text s).length ≤ 10009 := by
  have := num_bounds (s.size : Int) (by omega) (by omega)
  rw [text_len]; omega
theorem boolF_bound (b : Bool) : (boolF b).length ≤ 9 := by
  cases b <;> decide
/-- The lists of a span. -/
def Sp.Has (w : World) (B : Nat) (s : Sp) (va vl : Value) : Prop :=
  ∃ A c A2 c2, va = .slice A s.al.length c ∧ vl = .slice A2 s.ls.length c2 ∧ Rs w B A (atCells s.al) ∧ Rs w B A2 (rfCells s.ls)
theorem Sp.Has.below {w w' : World} {B : Nat} {s : Sp} {va vl : Value} (h : s.Has w B va vl) (hb : Below B w w') : s.Has w' B va vl := by
  obtain ⟨A, c, A2, c2, e1, e2, h1, h2⟩ := h
  exact ⟨A, c, A2, c2, e1, e2, h1.below hb, h2.below hb⟩
theorem Sp.Has.more {w : World} {B B' : Nat} {s : Sp} {va vl : Value} (h : s.Has w B va vl) (hb : B ≤ B') : s.Has w B' va vl := by
  obtain ⟨A, c, A2, c2, e1, e2, h1, h2⟩ := h
  exact ⟨A, c, A2, c2, e1, e2, h1.more hb, h2.more hb⟩

set_option maxHeartbeats 2000000 in
set_option maxRecDepth 100000 in
theorem append_span (base : Nat) (v : Value) (len : Nat) (xs : List UInt8) (hlen : len ≤ 200000) (s : Sp) (hs : s.Ok) (va vl : Value) (w : World) (hbase : base ≤ w.heap.size) (hlim : len + s.form.length ≤ 300000) (hown : w.ownsRow base 5 1 v len (xs.map u8v)) (hR : s.Has w base va vl) :
    Calls Try.prog 75 #[v, .agg (s.cells va vl)] w fun e w' => (∃ v', w'.ownsRow base 5 1 v' (len + s.form.length) ((xs ++ s.form).map u8v) ∧ e = .returned v') ∧ Bk base w w' := by
  obtain ⟨A, ca, A2, cl, rfl, rfl, hA, hL⟩ := hR
  obtain ⟨t, i, p, r, c, k, sv, ve, op, st, en, er, al, ls⟩ := s
  obtain ⟨o1, o2, o3, o4, o5, o6, o7, o8, o9, o10, o11⟩ := hs
  unfold Sp.form at hlim ⊢
  unfold Sp.cells
  dsimp only at o1 o2 o3 o4 o5 o6 o7 o8 o9 o10 o11 hA hL hlim ⊢
  have b1 := nums_len _ o1
  have b5 := nums_len _ o5
  have b2 := text_bound sv o2
  have b3 := text_bound ve o3
  have b4 := text_bound op o4
  have b6 := boolF_bound er
  simp only [List.length_cons, List.length_nil] at b1 b5
  have HAt := Lib.hid hA
  have HLs := Lib.hid hL
  have Hown := Lib.hid hown
  have O1 := Lib.hid o1
  have O5 := Lib.hid o5
  have O6 := Lib.hid o6
  have O7 := Lib.hid o7
  have O10 := Lib.hid o10
  have O11 := Lib.hid o11
  obtain ⟨F1, hF1⟩ : ∃ F, F = nums [t, i, p, r, c, k] := ⟨_, rfl⟩
  obtain ⟨F2, hF2⟩ : ∃ F, F = text sv := ⟨_, rfl⟩
  obtain ⟨F3, hF3⟩ : ∃ F, F = text ve := ⟨_, rfl⟩
  obtain ⟨F4, hF4⟩ : ∃ F, F = text op := ⟨_, rfl⟩
  obtain ⟨F5, hF5⟩ : ∃ F, F = nums [st, en] := ⟨_, rfl⟩
  obtain ⟨F6, hF6⟩ : ∃ F, F = boolF er := ⟨_, rfl⟩
  obtain ⟨F7, hF7⟩ : ∃ F, F = num (al.length : Int) ++ atForms al := ⟨_, rfl⟩
  obtain ⟨F8, hF8⟩ : ∃ F, F = num (ls.length : Int) ++ rfForms ls := ⟨_, rfl⟩
  rw [← hF1, ← hF2, ← hF3, ← hF4, ← hF5, ← hF6, ← hF7, ← hF8] at hlim ⊢
  rw [← hF1] at b1
  rw [← hF2] at b2
  rw [← hF3] at b3
  rw [← hF4] at b4
  rw [← hF5] at b5
  rw [← hF6] at b6
  have b7 : F7.length ≤ 210000 := by
    have := num_bounds (al.length : Int) (by omega) (by omega)
    rw [hF7, List.length_append]; omega
  have E1 := Lib.hid hF1
  have E2 := Lib.hid hF2
  have E3 := Lib.hid hF3
  have E4 := Lib.hid hF4
  have E5 := Lib.hid hF5
  have E6 := Lib.hid hF6
  have E7 := Lib.hid hF7
  have E8 := Lib.hid hF8
  simp only [List.length_append] at hlim
  obtain ⟨FF, hFF⟩ : ∃ F, F = F1 ++ (F2 ++ (F3 ++ (F4 ++ (F5 ++ (F6 ++ (F7 ++ F8)))))) := ⟨_, rfl⟩
  rw [← hFF]
  have EF := Lib.hid hFF
  obtain ⟨CS, hCS⟩ : ∃ CS : Array Value, CS = #[.int .i64 t, .int .i64 i, .int .i64 p, .int .i64 r, .int .i64 c, .int .i64 k, .string sv, .string ve, .string op, .int .i64 st, .int .i64 en, .bool er, .slice A al.length ca, .slice A2 ls.length cl] := ⟨_, rfl⟩
  have HCS := Lib.hid hCS
  have hblk0 : Hid ((w.alloc (.cells CS 54)).heap[w.heap.size]? = some (.cells CS 54 (0, 0))) := Lib.hid (Deep.blk_alloc_new w _)
  clear hA hL hown o1 o5 o6 o7 o10 o11 hF1 hF2 hF3 hF4 hF5 hF6 hF7 hF8 hFF
  go_enter Try.func75, Try.ntmps75
  go_wp2_with fail
  rw [← hCS]
  clear hCS
  have HB0 : Hid (Bk base w ((w.alloc (.cells CS 54)).alloc (.cells #[.int .i64 t, .int .i64 i, .int .i64 p, .int .i64 r, .int .i64 c, .int .i64 k] 3))) := Lib.hid (((Bk.refl base w).alloc hbase _).alloc (by simp; omega) _)
  refine (append_numbers base v len xs (by omega) [t, i, p, r, c, k] (by simp) O1.out _ _ _ (by simp; omega) ((Hown.out.alloc _).alloc _) (blk_second w _ _)).mono ?_
  rw [← E1.out]
  rintro e w1 ⟨⟨v1, hown1, rfl⟩, hB1⟩
  have Hblk1 := Lib.hid (hB1.2 _ _ _ (by decide) ((Deep.blk_alloc_lt _ _ _ (by simp)).trans hblk0.out))
  have HO1 := Lib.hid hown1
  have HB1 := Lib.hid (HB0.out.trans hB1)
  have hb1 := HB1.out.1.size
  have c6 : w1.cell? ⟨w.heap.size, 6, none⟩ = some (.string sv) := by rw [cell_of_row w1 w.heap.size 6 _ _ _ Hblk1.out, HCS.out]; rfl
  clear hown1 hB1
  go_wp2_with fail
  refine (append_text base v1 _ _ (by omega) sv o2 w1 (by omega) HO1.out).mono ?_
  rw [← E2.out]
  rintro e w2 ⟨⟨v2, hown2, rfl⟩, hB2⟩
  have Hblk2 := Lib.hid (hB2.2 _ _ _ (by decide) Hblk1.out)
  have HO2 := Lib.hid hown2
  have HB2 := Lib.hid (HB1.out.trans hB2)
  have hb2 := HB2.out.1.size
  have c7 : w2.cell? ⟨w.heap.size, 7, none⟩ = some (.string ve) := by rw [cell_of_row w2 w.heap.size 7 _ _ _ Hblk2.out, HCS.out]; rfl
  clear hown2 hB2 c6 Hblk1 HO1
  go_wp2_with fail
  refine (append_text base v2 _ _ (by omega) ve o3 w2 (by omega) HO2.out).mono ?_
  rw [← E3.out]
  rintro e w3 ⟨⟨v3, hown3, rfl⟩, hB3⟩
  have Hblk3 := Lib.hid (hB3.2 _ _ _ (by decide) Hblk2.out)
  have HO3 := Lib.hid hown3
  have HB3 := Lib.hid (HB2.out.trans hB3)
  have hb3 := HB3.out.1.size
  have c8 : w3.cell? ⟨w.heap.size, 8, none⟩ = some (.string op) := by rw [cell_of_row w3 w.heap.size 8 _ _ _ Hblk3.out, HCS.out]; rfl
  clear hown3 hB3 c7 Hblk2 HO2
  go_wp2_with fail
  refine (append_text base v3 _ _ (by omega) op o4 w3 (by omega) HO3.out).mono ?_
  rw [← E4.out]
  rintro e w4 ⟨⟨v4, hown4, rfl⟩, hB4⟩
  have Hblk4 := Lib.hid (hB4.2 _ _ _ (by decide) Hblk3.out)
  have HO4 := Lib.hid hown4
  have hb4 := (HB3.out.trans hB4).1.size
  have HB4 := Lib.hid ((HB3.out.trans hB4).alloc (by omega) (.cells #[.int .i64 st, .int .i64 en] 3))
  have c9 : w4.cell? ⟨w.heap.size, 9, none⟩ = some (.int .i64 st) := by rw [cell_of_row w4 w.heap.size 9 _ _ _ Hblk4.out, HCS.out]; rfl
  have c10 : w4.cell? ⟨w.heap.size, 10, none⟩ = some (.int .i64 en) := by rw [cell_of_row w4 w.heap.size 10 _ _ _ Hblk4.out, HCS.out]; rfl
  clear hown4 hB4 c8 Hblk3 HO3
  go_wp2_with fail
  refine (append_numbers base v4 _ _ (by omega) [st, en] (by simp) O5.out _ _ _ (by simp; omega) (HO4.out.alloc _) (Deep.blk_alloc_new w4 _)).mono ?_
  rw [← E5.out]
  rintro e w5 ⟨⟨v5, hown5, rfl⟩, hB5⟩
  have Hblk5 := Lib.hid (hB5.2 _ _ _ (by decide) ((Deep.blk_alloc_lt _ _ _ (Array.getElem?_eq_some_iff.1 Hblk4.out).1).trans Hblk4.out))
  have HO5 := Lib.hid hown5
  have HB5 := Lib.hid (HB4.out.trans hB5)
  have hb5 := HB5.out.1.size
  have c11 : w5.cell? ⟨w.heap.size, 11, none⟩ = some (.bool er) := by rw [cell_of_row w5 w.heap.size 11 _ _ _ Hblk5.out, HCS.out]; rfl
  clear hown5 hB5 c9 c10 Hblk4 HO4
  go_wp2_with fail
  refine (append_bool base v5 _ _ (by omega) er w5 (by omega) HO5.out).mono ?_
  rw [← E6.out]
  rintro e w6 ⟨⟨v6, hown6, rfl⟩, hB6⟩
  have Hblk6 := Lib.hid (hB6.2 _ _ _ (by decide) Hblk5.out)
  have HO6 := Lib.hid hown6
  have HB6 := Lib.hid (HB5.out.trans hB6)
  have hb6 := HB6.out.1.size
  have c12 : w6.cell? ⟨w.heap.size, 12, none⟩ = some (.slice A al.length ca) := by rw [cell_of_row w6 w.heap.size 12 _ _ _ Hblk6.out, HCS.out]; rfl
  clear hown6 hB6 c11 Hblk5 HO5
  go_wp2_with fail
  refine (append_attrs base v6 _ _ (by omega) al o8 O10.out O6.out A ca w6 (by omega) HO6.out (HAt.out.below HB6.out.1)).mono ?_
  rw [← E7.out]
  rintro e w7 ⟨⟨v7, hown7, rfl⟩, hB7⟩
  have Hblk7 := Lib.hid (hB7.2 _ _ _ (by decide) Hblk6.out)
  have HO7 := Lib.hid hown7
  have HB7 := Lib.hid (HB6.out.trans hB7)
  have hb7 := HB7.out.1.size
  have c13 : w7.cell? ⟨w.heap.size, 13, none⟩ = some (.slice A2 ls.length cl) := by rw [cell_of_row w7 w.heap.size 13 _ _ _ Hblk7.out, HCS.out]; rfl
  clear hown7 hB7 c12 Hblk6 HO6
  go_wp2_with fail
  refine (append_refs base v7 _ _ (by omega) ls o9 O11.out O7.out A2 cl w7 (by omega) HO7.out (HLs.out.below HB7.out.1)).mono ?_
  rw [← E8.out]
  rintro e w8 ⟨⟨v8, hown8, rfl⟩, hB8⟩
  have HO8 := Lib.hid hown8
  have HB8 := Lib.hid (HB7.out.trans hB8)
  clear hown8 hB8
  go_wp2_with fail
  go_ret
  refine ⟨⟨_, ?_, rfl⟩, HB8.out⟩
  have h := HO8.out
  have e1 : len + (F1 ++ (F2 ++ (F3 ++ (F4 ++ (F5 ++ (F6 ++ (F7 ++ F8))))))).length = len + F1.length + F2.length + F3.length + F4.length + F5.length + F6.length + F7.length + F8.length := by simp only [List.length_append]; omega
  have e2 : xs ++ (F1 ++ (F2 ++ (F3 ++ (F4 ++ (F5 ++ (F6 ++ (F7 ++ F8))))))) = xs ++ F1 ++ F2 ++ F3 ++ F4 ++ F5 ++ F6 ++ F7 ++ F8 := by simp only [List.append_assoc]
  rw [EF.out, e1, e2]
  exact h
end Go.Proofs.Ytepcihfkkeahhaa
