/- appendExchange, appendMessage; lists of attributes, of references. -/
import Derived.Test.YtepcihfkkeahhaaAm
namespace Go.Proofs.Ytepcihfkkeahhaa
open Go.ChangeShapes Go.WideShapes Go.ChangeAt Go.RowKit En

set_option maxRecDepth 100000 in
theorem append_exchange (base : Nat) (v : Value) (len : Nat) (xs : List UInt8) (hlen : len ≤ 800000) (a b c d f : Int) (hin : ∀ n ∈ [a, b, c, d, f], In64 n) (w : World) (hbase : base ≤ w.heap.size) (hown : w.ownsRow base 5 1 v len (xs.map u8v)) :
    Calls Try.prog 80 #[v, .agg #[.int .i64 a, .int .i64 b, .int .i64 c, .int .i64 d, .int .i64 f]] w fun e w' => (∃ v', w'.ownsRow base 5 1 v' (len + (nums [a, b, c, d, f]).length) ((xs ++ nums [a, b, c, d, f]).map u8v) ∧ e = .returned v') ∧ Bk base w w' := by
  have Hown := Lib.hid hown
  have Hin := Lib.hid hin
  clear hown hin
  go_enter Try.func80, Try.ntmps80
  go_wp2_with fail
  have HB : Hid (Bk base w ((w.alloc (.cells #[.int .i64 a, .int .i64 b, .int .i64 c, .int .i64 d, .int .i64 f] 95)).alloc (.cells #[.int .i64 a, .int .i64 b, .int .i64 c, .int .i64 d, .int .i64 f] 3))) := Lib.hid (((Bk.refl base w).alloc hbase _).alloc (by simp; omega) _)
  refine (append_numbers base v len xs (by omega) [a, b, c, d, f] (by simp) Hin.out _ _ _ (by simp; omega) ((Hown.out.alloc _).alloc _) (blk_second w _ _)).mono ?_
  rintro e w1 ⟨⟨v1, hown1, rfl⟩, hB1⟩
  have HO1 := Lib.hid hown1
  have HB1 := Lib.hid (HB.out.trans hB1)
  clear hown1 hB1
  go_wp2_with fail
  go_ret
  exact ⟨⟨_, HO1.out, rfl⟩, HB1.out⟩

/-- A message: kind, a's trace and id, b's trace and id, from, to, sent, received, least. -/
def msgF (k a1 a2 b1 b2 f t s r m : Int) : List UInt8 := num k ++ (nums [a1, a2] ++ (nums [b1, b2] ++ nums [f, t, s, r, m]))
set_option maxRecDepth 100000 in
set_option maxHeartbeats 1000000 in
theorem append_message (base : Nat) (v : Value) (len : Nat) (xs : List UInt8) (hlen : len ≤ 700000) (k a1 a2 b1 b2 f t s r m : Int) (hin : ∀ n ∈ [k, a1, a2, b1, b2, f, t, s, r, m], In64 n) (w : World) (hbase : base ≤ w.heap.size) (hown : w.ownsRow base 5 1 v len (xs.map u8v)) :
    Calls Try.prog 90 #[v, .agg #[.int .i64 k, .int .i64 a1, .int .i64 a2, .int .i64 b1, .int .i64 b2, .int .i64 f, .int .i64 t, .int .i64 s, .int .i64 r, .int .i64 m]] w fun e w' => (∃ v', w'.ownsRow base 5 1 v' (len + (msgF k a1 a2 b1 b2 f t s r m).length) ((xs ++ msgF k a1 a2 b1 b2 f t s r m).map u8v) ∧ e = .returned v') ∧ Bk base w w' := by
  have hbk := num_bounds k (hin k (by simp)).1 (hin k (by simp)).2
  have hn1 := nums_len [a1, a2] (fun x hx => hin x (by simp at hx ⊢; omega))
  have hn2 := nums_len [b1, b2] (fun x hx => hin x (by simp at hx ⊢; omega))
  have Hown := Lib.hid hown
  have Hin := Lib.hid hin
  obtain ⟨FA, hFA⟩ : ∃ F, F = nums [a1, a2] := ⟨_, rfl⟩
  obtain ⟨FB, hFB⟩ : ∃ F, F = nums [b1, b2] := ⟨_, rfl⟩
  obtain ⟨FC, hFC⟩ : ∃ F, F = nums [f, t, s, r, m] := ⟨_, rfl⟩
  obtain ⟨FK, hFK⟩ : ∃ F, F = num k := ⟨_, rfl⟩
  have HF : Hid (msgF k a1 a2 b1 b2 f t s r m = FK ++ (FA ++ (FB ++ FC))) := Lib.hid (by rw [hFA, hFB, hFC, hFK]; rfl)
  rw [← hFA] at hn1
  rw [← hFB] at hn2
  rw [← hFK] at hbk
  simp only [List.length_cons, List.length_nil] at hn1 hn2
  have HFA := Lib.hid hFA
  have HFB := Lib.hid hFB
  have HFC := Lib.hid hFC
  have HFK := Lib.hid hFK
  clear hown hin hFA hFB hFC hFK
  go_enter Try.func90, Try.ntmps90
  go_wp2_with fail
  have HB0 : Hid (Bk base w (w.alloc (.cells #[.int .i64 k, .int .i64 a1, .int .i64 a2, .int .i64 b1, .int .i64 b2, .int .i64 f, .int .i64 t, .int .i64 s, .int .i64 r, .int .i64 m] 85))) := Lib.hid ((Bk.refl base w).alloc hbase _)
  refine (append_number base v len xs (by omega) k (Hin.out k (by simp)).1 (Hin.out k (by simp)).2 _ (by simp; omega) (Hown.out.alloc _)).mono ?_
  rw [← HFK.out]
  rintro e w1 ⟨⟨v1, hown1, rfl⟩, hB1⟩
  have hblk1 := hB1.2 _ _ _ (by decide) (Deep.blk_alloc_new w (.cells #[.int .i64 k, .int .i64 a1, .int .i64 a2, .int .i64 b1, .int .i64 b2, .int .i64 f, .int .i64 t, .int .i64 s, .int .i64 r, .int .i64 m] 85))
  have c1 := cell_of_row w1 w.heap.size 1 _ _ _ hblk1
  have c2 := cell_of_row w1 w.heap.size 2 _ _ _ hblk1
  have HO1 := Lib.hid hown1
  have HB1 := Lib.hid (HB0.out.trans hB1)
  have Hblk1 := Lib.hid hblk1
  have hb1 := HB1.out.1.size
  clear hown1 hB1 hblk1
  go_wp2_with fail
  refine (append_ref base v1 _ _ (by omega) a1 a2 (Hin.out _ (by simp)) (Hin.out _ (by simp)) w1 (by omega) HO1.out).mono ?_
  rw [← HFA.out]
  rintro e w2 ⟨⟨v2, hown2, rfl⟩, hB2⟩
  have hblk2 := hB2.2 _ _ _ (by decide) Hblk1.out
  have d3 := cell_of_row w2 w.heap.size 3 _ _ _ hblk2
  have d4 := cell_of_row w2 w.heap.size 4 _ _ _ hblk2
  have HO2 := Lib.hid hown2
  have HB2 := Lib.hid (HB1.out.trans hB2)
  have Hblk2 := Lib.hid hblk2
  have hb2 := HB2.out.1.size
  clear hown2 hB2 hblk2 c1 c2
  go_wp2_with fail
  refine (append_ref base v2 _ _ (by omega) b1 b2 (Hin.out _ (by simp)) (Hin.out _ (by simp)) w2 (by omega) HO2.out).mono ?_
  rw [← HFB.out]
  rintro e w3 ⟨⟨v3, hown3, rfl⟩, hB3⟩
  have hblk3 := hB3.2 _ _ _ (by decide) Hblk2.out
  have e5 := cell_of_row w3 w.heap.size 5 _ _ _ hblk3
  have e6 := cell_of_row w3 w.heap.size 6 _ _ _ hblk3
  have e7 := cell_of_row w3 w.heap.size 7 _ _ _ hblk3
  have e8 := cell_of_row w3 w.heap.size 8 _ _ _ hblk3
  have e9 := cell_of_row w3 w.heap.size 9 _ _ _ hblk3
  have HO3 := Lib.hid hown3
  have HB3 := Lib.hid ((HB2.out.trans hB3).alloc (by have := (HB2.out.trans hB3).1.size; omega) (.cells #[.int .i64 f, .int .i64 t, .int .i64 s, .int .i64 r, .int .i64 m] 3))
  have hb3 := (HB2.out.trans hB3).1.size
  clear hown3 hB3 hblk3 d3 d4
  go_wp2_with fail
  refine (append_numbers base v3 _ _ (by omega) [f, t, s, r, m] (by simp) (fun x hx => Hin.out x (by simp at hx ⊢; omega)) _ _ _ (by simp; omega) (HO3.out.alloc _) (Deep.blk_alloc_new w3 _)).mono ?_
  rw [← HFC.out]
  rintro e w4 ⟨⟨v4, hown4, rfl⟩, hB4⟩
  have HO4 := Lib.hid hown4
  have HB4 := Lib.hid (HB3.out.trans hB4)
  clear hown4 hB4
  go_wp2_with fail
  go_ret
  refine ⟨⟨_, ?_, rfl⟩, HB4.out⟩
  have h := HO4.out
  have e1 : len + (FK ++ (FA ++ (FB ++ FC))).length = len + FK.length + FA.length + FB.length + FC.length := by simp only [List.length_append]; omega
  have e2 : xs ++ (FK ++ (FA ++ (FB ++ FC))) = xs ++ FK ++ FA ++ FB ++ FC := by simp only [List.append_assoc]
  rw [HF.out, e1, e2]
  exact h

/-- The cells of a slice (of some size an element), all of them in a block below B. -/
def Rs (w : World) (B : Nat) (A : Option Addr) (cs : List Value) : Prop := ∀ j (h : j < cs.length), ∃ b off, A = some ⟨b, off, none⟩ ∧ b < B ∧ w.cell? ⟨b, off + j, none⟩ = some cs[j]
theorem Rs.below {w w' : World} {B : Nat} {A : Option Addr} {cs : List Value} (h : Rs w B A cs) (hb : Below B w w') : Rs w' B A cs := fun j hj => by
  obtain ⟨b, off, e, hlt, hc⟩ := h j hj
  exact ⟨b, off, e, hlt, (hb.cell (p := ⟨b, off + j, none⟩) hlt).trans hc⟩
theorem Rs.more {w : World} {B B' : Nat} {A : Option Addr} {cs : List Value} (h : Rs w B A cs) (hb : B ≤ B') : Rs w B' A cs := fun j hj => by
  obtain ⟨b, off, e, hlt, hc⟩ := h j hj
  exact ⟨b, off, e, by omega, hc⟩
theorem Rs.nil {w : World} {B : Nat} {A : Option Addr} : Rs w B A [] := fun j hj => absurd hj (by simp)

structure At where
  key : ByteArray
  kind : Int
  text : ByteArray
  int : Int
def At.cells (a : At) : List Value := [.string a.key, .int .i64 a.kind, .string a.text, .int .i64 a.int]
def At.form (a : At) : List UInt8 := attrF a.key a.kind a.text a.int
def At.Ok (a : At) : Prop := a.key.size ≤ 10000 ∧ a.text.size ≤ 10000 ∧ In64 a.kind ∧ In64 a.int
def atCells (L : List At) : List Value := L.flatMap At.cells
def atForms (L : List At) : List UInt8 := L.flatMap At.form
theorem atCells_len (L : List At) : (atCells L).length = 4 * L.length := by
  induction L with
  | nil => rfl
  | cons a L ih => simp only [atCells, List.flatMap_cons, List.length_append, List.length_cons] at ih ⊢; rw [ih]; simp [At.cells]; omega
theorem atCells_get (L : List At) (k : Nat) (h : k < L.length) (j : Nat) (hj : j < 4) : (atCells L)[k * 4 + j]? = (L[k]).cells[j]? := by
  induction L generalizing k with
  | nil => simp at h
  | cons a L ih =>
    simp only [atCells, List.flatMap_cons] at ih ⊢
    have hl : a.cells.length = 4 := rfl
    cases k with
    | zero =>
      rw [List.getElem?_append_left (by rw [hl]; omega)]; simp
    | succ k =>
      rw [List.getElem?_append_right (by rw [hl]; omega), hl, show (k + 1) * 4 + j - 4 = k * 4 + j by omega, ih k (by simpa using h)]
      rfl
theorem atForms_snoc (L : List At) (a : At) : atForms (L ++ [a]) = atForms L ++ a.form := by simp [atForms]
theorem At.form_len {a : At} (h : a.Ok) : a.form.length ≤ 21000 := by
  obtain ⟨h1, h2, h3, h4⟩ := h
  have b1 := num_bounds a.kind h3.1 h3.2
  have b2 := num_bounds a.int h4.1 h4.2
  have b3 := num_bounds (a.key.size : Int) (by omega) (by omega)
  have b4 := num_bounds (a.text.size : Int) (by omega) (by omega)
  unfold At.form attrF valueF
  rw [List.length_append, List.length_append, List.length_append, text_len, text_len]
  omega
end Go.Proofs.Ytepcihfkkeahhaa
