/- The Writer's methods, at a Writer or at nil (written by wip/bin/gen_wm.py). -/
import Derived.Test.YtepcihfkkeahhaaSp
import Derived.Test.YtepcihfkkeahhaaRf
namespace Go.Proofs.Ytepcihfkkeahhaa
open Go.ChangeShapes Go.WideShapes Go.ChangeAt Go.RowKit En

/-- The Writer behind a pointer, which can be nil. -/
def WQ (w : World) (q : Option Addr) (fs : List (List UInt8)) : Prop := q = none ∨ ∃ g, q = some ⟨g, 0, none⟩ ∧ WS w g fs
theorem WQ.below {w w' : World} {q : Option Addr} {fs : List (List UInt8)} (h : WQ w q fs) (hb : Below w.heap.size w w') : WQ w' q fs := by
  rcases h with h | ⟨g, e, h⟩
  · exact Or.inl h
  · exact Or.inr ⟨g, e, h.below hb⟩
theorem add_q (q : Option Addr) (fs : List (List UInt8)) (f : List UInt8) (base : Nat) (v : Value) (hf : 0 < f.length) (hfl : f.length ≤ 1000000) (htot : total fs ≤ 1000000000) (w : World) (hW : WQ w q fs) (hown : w.ownsRow base 5 1 v f.length (f.map u8v)) :
    Calls Try.prog 50 #[.pointer q, v] w fun e w' => e = .returned (.tuple #[]) ∧ WQ w' q (f :: fs) ∧ w.grownBy w' (q.map Addr.block) := by
  rcases hW with rfl | ⟨g, rfl, hW⟩
  · clear hown
    go_enter Try.func50, Try.ntmps50
    go_wp2_with fail
    (try simp only [Exit.inBlock, Exit.then])
    exact bodyPost_ret (results_none rfl _ _ _) rfl ⟨rfl, Or.inl rfl, grown_same _ _⟩
  · exact (add_any g fs f base v hf hfl htot w hW hown).mono fun _ _ ⟨a, b, c⟩ => ⟨a, Or.inr ⟨g, rfl, b⟩, c⟩
theorem below_q {B : Nat} {a b c : World} {q : Option Addr} (h : Below B a b) (k : b.grownBy c (q.map Addr.block)) (hB : ∀ g, q = some g → B ≤ g.block) (hs : B ≤ a.heap.size) : Below B a c :=
  ⟨k.os.trans h.os, k.tape.trans h.tape, k.output.trans h.output, Nat.le_trans h.size k.size, fun i hi => (k.block i (by have := h.size; omega) (fun e => by
    cases q with
    | none => simp at e
    | some g => simp at e; have := hB g rfl; omega)).trans (h.block i hi)⟩

set_option maxRecDepth 100000 in
theorem w_numberq (q : Option Addr) (fs : List (List UInt8)) (n : Int) (hn : In64 n) (htot : total fs ≤ 1000000) (w : World) (hW : WQ w q fs) :
    Calls Try.prog 12 #[.pointer q, .int .i64 n] w fun e w' => e = .returned (.tuple #[]) ∧ WQ w' q (num n :: fs) ∧ w.grownBy w' (q.map Addr.block) := by
  have Hfl : Hid (0 < (num n).length ∧ (num n).length ≤ 1000000) := Lib.hid (by
    have := num_bounds n hn.1 hn.2
    omega)
  have HW := Lib.hid hW
  have Hnil : ∀ W : World, Hid (W.ownsRow w.heap.size 5 1 (.slice none 0 0) 0 (List.map u8v [])) := fun W => Lib.hid (by exact ⟨rfl, Or.inl ⟨rfl, rfl⟩⟩)
  skip
  clear hW
  go_enter Try.func12, Try.ntmps12
  skip
  go_wp2_with fail
  skip
  refine (append_number w.heap.size _ 0 [] (by omega) n hn.1 hn.2 _ (Nat.le_refl _) (Hnil _).out).mono ?_
  rintro e w1 ⟨⟨v, hown, rfl⟩, hB, _⟩
  have HB : Hid (Below w.heap.size w w1) := Lib.hid (hB)
  have HW1 := Lib.hid (HW.out.below HB.out)
  have Hown : Hid (w1.ownsRow w.heap.size 5 1 v (num n).length ((num n).map u8v)) := Lib.hid (by rw [Nat.zero_add, List.nil_append] at hown; exact hown)
  clear hown hB
  go_wp2_with fail
  refine (add_q q fs (num n) _ v Hfl.out.1 Hfl.out.2 (by omega) w1 HW1.out Hown.out).mono ?_
  rintro e w2 ⟨rfl, hWS, hgr⟩
  go_wp2_with fail
  go_end0
  exact ⟨rfl, hWS, hgr.os.trans HB.out.os, hgr.tape.trans HB.out.tape, hgr.output.trans HB.out.output, Nat.le_trans HB.out.size hgr.size, fun i hi hne => (hgr.block i (by have := HB.out.size; omega) hne).trans (HB.out.block i hi)⟩

set_option maxRecDepth 100000 in
theorem w_bool (q : Option Addr) (fs : List (List UInt8)) (b : Bool) (htot : total fs ≤ 1000000) (w : World) (hW : WQ w q fs) :
    Calls Try.prog 37 #[.pointer q, .bool b] w fun e w' => e = .returned (.tuple #[]) ∧ WQ w' q (boolF b :: fs) ∧ w.grownBy w' (q.map Addr.block) := by
  have Hfl : Hid (0 < (boolF b).length ∧ (boolF b).length ≤ 1000000) := Lib.hid (by
    cases b <;> decide)
  have HW := Lib.hid hW
  have Hnil : ∀ W : World, Hid (W.ownsRow w.heap.size 5 1 (.slice none 0 0) 0 (List.map u8v [])) := fun W => Lib.hid (by exact ⟨rfl, Or.inl ⟨rfl, rfl⟩⟩)
  skip
  clear hW
  go_enter Try.func37, Try.ntmps37
  skip
  go_wp2_with fail
  skip
  refine (append_bool w.heap.size _ 0 [] (by omega) b _ (Nat.le_refl _) (Hnil _).out).mono ?_
  rintro e w1 ⟨⟨v, hown, rfl⟩, hB, _⟩
  have HB : Hid (Below w.heap.size w w1) := Lib.hid (hB)
  have HW1 := Lib.hid (HW.out.below HB.out)
  have Hown : Hid (w1.ownsRow w.heap.size 5 1 v (boolF b).length ((boolF b).map u8v)) := Lib.hid (by rw [Nat.zero_add, List.nil_append] at hown; exact hown)
  clear hown hB
  go_wp2_with fail
  refine (add_q q fs (boolF b) _ v Hfl.out.1 Hfl.out.2 (by omega) w1 HW1.out Hown.out).mono ?_
  rintro e w2 ⟨rfl, hWS, hgr⟩
  go_wp2_with fail
  go_end0
  exact ⟨rfl, hWS, hgr.os.trans HB.out.os, hgr.tape.trans HB.out.tape, hgr.output.trans HB.out.output, Nat.le_trans HB.out.size hgr.size, fun i hi hne => (hgr.block i (by have := HB.out.size; omega) hne).trans (HB.out.block i hi)⟩

set_option maxRecDepth 100000 in
theorem w_text (q : Option Addr) (fs : List (List UInt8)) (s : ByteArray) (hs : s.size ≤ 10000) (htot : total fs ≤ 1000000) (w : World) (hW : WQ w q fs) :
    Calls Try.prog 38 #[.pointer q, .string s] w fun e w' => e = .returned (.tuple #[]) ∧ WQ w' q (text s :: fs) ∧ w.grownBy w' (q.map Addr.block) := by
  have Hfl : Hid (0 < (text s).length ∧ (text s).length ≤ 1000000) := Lib.hid (by
    have := num_bounds (s.size : Int) (by omega) (by omega)
    rw [text_len]; omega)
  have HW := Lib.hid hW
  have Hnil : ∀ W : World, Hid (W.ownsRow w.heap.size 5 1 (.slice none 0 0) 0 (List.map u8v [])) := fun W => Lib.hid (by exact ⟨rfl, Or.inl ⟨rfl, rfl⟩⟩)
  skip
  clear hW
  go_enter Try.func38, Try.ntmps38
  skip
  go_wp2_with fail
  skip
  refine (append_text w.heap.size _ 0 [] (by omega) s hs _ (Nat.le_refl _) (Hnil _).out).mono ?_
  rintro e w1 ⟨⟨v, hown, rfl⟩, hB, _⟩
  have HB : Hid (Below w.heap.size w w1) := Lib.hid (hB)
  have HW1 := Lib.hid (HW.out.below HB.out)
  have Hown : Hid (w1.ownsRow w.heap.size 5 1 v (text s).length ((text s).map u8v)) := Lib.hid (by rw [Nat.zero_add, List.nil_append] at hown; exact hown)
  clear hown hB
  go_wp2_with fail
  refine (add_q q fs (text s) _ v Hfl.out.1 Hfl.out.2 (by omega) w1 HW1.out Hown.out).mono ?_
  rintro e w2 ⟨rfl, hWS, hgr⟩
  go_wp2_with fail
  go_end0
  exact ⟨rfl, hWS, hgr.os.trans HB.out.os, hgr.tape.trans HB.out.tape, hgr.output.trans HB.out.output, Nat.le_trans HB.out.size hgr.size, fun i hi hne => (hgr.block i (by have := HB.out.size; omega) hne).trans (HB.out.block i hi)⟩

set_option maxRecDepth 100000 in
theorem w_value (q : Option Addr) (fs : List (List UInt8)) (k n : Int) (s : ByteArray) (hs : s.size ≤ 10000) (hk : In64 k) (hn : In64 n) (htot : total fs ≤ 1000000) (w : World) (hW : WQ w q fs) :
    Calls Try.prog 67 #[.pointer q, .agg #[.int .i64 k, .string s, .int .i64 n]] w fun e w' => e = .returned (.tuple #[]) ∧ WQ w' q (valueF k s n :: fs) ∧ w.grownBy w' (q.map Addr.block) := by
  have Hfl : Hid (0 < (valueF k s n).length ∧ (valueF k s n).length ≤ 1000000) := Lib.hid (by
    have h1 := num_bounds k hk.1 hk.2
    have h2 := num_bounds n hn.1 hn.2
    have h3 := text_bound s hs
    unfold valueF
    rw [List.length_append, List.length_append]; omega)
  have HW := Lib.hid hW
  have Hnil : ∀ W : World, Hid (W.ownsRow w.heap.size 5 1 (.slice none 0 0) 0 (List.map u8v [])) := fun W => Lib.hid (by exact ⟨rfl, Or.inl ⟨rfl, rfl⟩⟩)
  skip
  clear hW
  go_enter Try.func67, Try.ntmps67
  skip
  go_wp2_with fail
  skip
  refine (append_value w.heap.size _ 0 [] (by omega) k n s hs hk.1 hk.2 hn.1 hn.2 _ (by simp) (Hnil _).out).mono ?_
  rintro e w1 ⟨⟨v, hown, rfl⟩, hB, _⟩
  have HB : Hid (Below w.heap.size w w1) := Lib.hid (Below.trans ((Below.refl w.heap.size w).alloc (Nat.le_refl _) _) hB)
  have HW1 := Lib.hid (HW.out.below HB.out)
  have Hown : Hid (w1.ownsRow w.heap.size 5 1 v (valueF k s n).length ((valueF k s n).map u8v)) := Lib.hid (by rw [Nat.zero_add, List.nil_append] at hown; exact hown)
  clear hown hB
  go_wp2_with fail
  refine (add_q q fs (valueF k s n) _ v Hfl.out.1 Hfl.out.2 (by omega) w1 HW1.out Hown.out).mono ?_
  rintro e w2 ⟨rfl, hWS, hgr⟩
  go_wp2_with fail
  go_end0
  exact ⟨rfl, hWS, hgr.os.trans HB.out.os, hgr.tape.trans HB.out.tape, hgr.output.trans HB.out.output, Nat.le_trans HB.out.size hgr.size, fun i hi hne => (hgr.block i (by have := HB.out.size; omega) hne).trans (HB.out.block i hi)⟩

set_option maxRecDepth 100000 in
theorem w_attrq (q : Option Addr) (fs : List (List UInt8)) (a : At) (ha : a.Ok) (htot : total fs ≤ 1000000) (w : World) (hW : WQ w q fs) :
    Calls Try.prog 52 #[.pointer q, .agg #[.string a.key, .int .i64 a.kind, .string a.text, .int .i64 a.int]] w fun e w' => e = .returned (.tuple #[]) ∧ WQ w' q (attrF a.key a.kind a.text a.int :: fs) ∧ w.grownBy w' (q.map Addr.block) := by
  have Hfl : Hid (0 < (attrF a.key a.kind a.text a.int).length ∧ (attrF a.key a.kind a.text a.int).length ≤ 1000000) := Lib.hid (by
    have h0 := At.form_len ha
    have h1 := num_bounds (a.key.size : Int) (by omega) (by have := ha.1; omega)
    have h2 : (a.form).length = (text a.key).length + (valueF a.kind a.text a.int).length := by unfold At.form attrF; rw [List.length_append]
    rw [text_len] at h2
    exact ⟨by show 0 < a.form.length; omega, by show a.form.length ≤ _; omega⟩)
  have HW := Lib.hid hW
  have Hnil : ∀ W : World, Hid (W.ownsRow w.heap.size 5 1 (.slice none 0 0) 0 (List.map u8v [])) := fun W => Lib.hid (by exact ⟨rfl, Or.inl ⟨rfl, rfl⟩⟩)
  skip
  clear hW
  go_enter Try.func52, Try.ntmps52
  skip
  go_wp2_with fail
  skip
  refine (append_attr w.heap.size _ 0 [] (by omega) a.key ha.1 a.kind a.int a.text ha.2.1 ha.2.2.1.1 ha.2.2.1.2 ha.2.2.2.1 ha.2.2.2.2 _ (by simp) (Hnil _).out).mono ?_
  rintro e w1 ⟨⟨v, hown, rfl⟩, hB, _⟩
  have HB : Hid (Below w.heap.size w w1) := Lib.hid (Below.trans ((Below.refl w.heap.size w).alloc (Nat.le_refl _) _) hB)
  have HW1 := Lib.hid (HW.out.below HB.out)
  have Hown : Hid (w1.ownsRow w.heap.size 5 1 v (attrF a.key a.kind a.text a.int).length ((attrF a.key a.kind a.text a.int).map u8v)) := Lib.hid (by rw [Nat.zero_add, List.nil_append] at hown; exact hown)
  clear hown hB
  go_wp2_with fail
  refine (add_q q fs (attrF a.key a.kind a.text a.int) _ v Hfl.out.1 Hfl.out.2 (by omega) w1 HW1.out Hown.out).mono ?_
  rintro e w2 ⟨rfl, hWS, hgr⟩
  go_wp2_with fail
  go_end0
  exact ⟨rfl, hWS, hgr.os.trans HB.out.os, hgr.tape.trans HB.out.tape, hgr.output.trans HB.out.output, Nat.le_trans HB.out.size hgr.size, fun i hi hne => (hgr.block i (by have := HB.out.size; omega) hne).trans (HB.out.block i hi)⟩

set_option maxRecDepth 100000 in
theorem w_ref (q : Option Addr) (fs : List (List UInt8)) (x y : Int) (hin : ∀ n ∈ [x, y], In64 n) (htot : total fs ≤ 1000000) (w : World) (hW : WQ w q fs) :
    Calls Try.prog 70 #[.pointer q, .agg #[.int .i64 x, .int .i64 y]] w fun e w' => e = .returned (.tuple #[]) ∧ WQ w' q (nums [x, y] :: fs) ∧ w.grownBy w' (q.map Addr.block) := by
  have Hfl : Hid (0 < (nums [x, y]).length ∧ (nums [x, y]).length ≤ 1000000) := Lib.hid (by
    have h1 := nums_len [x, y] hin
    simp only [List.length_cons, List.length_nil] at h1
    have h2 := num_bounds _ (hin _ (List.mem_cons_self ..)).1 (hin _ (List.mem_cons_self ..)).2
    simp only [nums, List.flatMap_cons, List.length_append] at h1 ⊢
    omega)
  have HW := Lib.hid hW
  have Hnil : ∀ W : World, Hid (W.ownsRow w.heap.size 5 1 (.slice none 0 0) 0 (List.map u8v [])) := fun W => Lib.hid (by exact ⟨rfl, Or.inl ⟨rfl, rfl⟩⟩)
  skip
  clear hW
  go_enter Try.func70, Try.ntmps70
  skip
  go_wp2_with fail
  skip
  refine (append_ref w.heap.size _ 0 [] (by omega) x y (hin _ (by simp)) (hin _ (by simp)) _ (by simp) (Hnil _).out).mono ?_
  rintro e w1 ⟨⟨v, hown, rfl⟩, hB, _⟩
  have HB : Hid (Below w.heap.size w w1) := Lib.hid (Below.trans ((Below.refl w.heap.size w).alloc (Nat.le_refl _) _) hB)
  have HW1 := Lib.hid (HW.out.below HB.out)
  have Hown : Hid (w1.ownsRow w.heap.size 5 1 v (nums [x, y]).length ((nums [x, y]).map u8v)) := Lib.hid (by rw [Nat.zero_add, List.nil_append] at hown; exact hown)
  clear hown hB
  go_wp2_with fail
  refine (add_q q fs (nums [x, y]) _ v Hfl.out.1 Hfl.out.2 (by omega) w1 HW1.out Hown.out).mono ?_
  rintro e w2 ⟨rfl, hWS, hgr⟩
  go_wp2_with fail
  go_end0
  exact ⟨rfl, hWS, hgr.os.trans HB.out.os, hgr.tape.trans HB.out.tape, hgr.output.trans HB.out.output, Nat.le_trans HB.out.size hgr.size, fun i hi hne => (hgr.block i (by have := HB.out.size; omega) hne).trans (HB.out.block i hi)⟩

set_option maxRecDepth 100000 in
theorem w_exchange (q : Option Addr) (fs : List (List UInt8)) (a b c d f : Int) (hin : ∀ n ∈ [a, b, c, d, f], In64 n) (htot : total fs ≤ 1000000) (w : World) (hW : WQ w q fs) :
    Calls Try.prog 72 #[.pointer q, .agg #[.int .i64 a, .int .i64 b, .int .i64 c, .int .i64 d, .int .i64 f]] w fun e w' => e = .returned (.tuple #[]) ∧ WQ w' q (nums [a, b, c, d, f] :: fs) ∧ w.grownBy w' (q.map Addr.block) := by
  have Hfl : Hid (0 < (nums [a, b, c, d, f]).length ∧ (nums [a, b, c, d, f]).length ≤ 1000000) := Lib.hid (by
    have h1 := nums_len [a, b, c, d, f] hin
    simp only [List.length_cons, List.length_nil] at h1
    have h2 := num_bounds _ (hin _ (List.mem_cons_self ..)).1 (hin _ (List.mem_cons_self ..)).2
    simp only [nums, List.flatMap_cons, List.length_append] at h1 ⊢
    omega)
  have HW := Lib.hid hW
  have Hnil : ∀ W : World, Hid (W.ownsRow w.heap.size 5 1 (.slice none 0 0) 0 (List.map u8v [])) := fun W => Lib.hid (by exact ⟨rfl, Or.inl ⟨rfl, rfl⟩⟩)
  skip
  clear hW
  go_enter Try.func72, Try.ntmps72
  skip
  go_wp2_with fail
  skip
  refine (append_exchange w.heap.size _ 0 [] (by omega) a b c d f hin _ (by simp) (Hnil _).out).mono ?_
  rintro e w1 ⟨⟨v, hown, rfl⟩, hB, _⟩
  have HB : Hid (Below w.heap.size w w1) := Lib.hid (Below.trans ((Below.refl w.heap.size w).alloc (Nat.le_refl _) _) hB)
  have HW1 := Lib.hid (HW.out.below HB.out)
  have Hown : Hid (w1.ownsRow w.heap.size 5 1 v (nums [a, b, c, d, f]).length ((nums [a, b, c, d, f]).map u8v)) := Lib.hid (by rw [Nat.zero_add, List.nil_append] at hown; exact hown)
  clear hown hB
  go_wp2_with fail
  refine (add_q q fs (nums [a, b, c, d, f]) _ v Hfl.out.1 Hfl.out.2 (by omega) w1 HW1.out Hown.out).mono ?_
  rintro e w2 ⟨rfl, hWS, hgr⟩
  go_wp2_with fail
  go_end0
  exact ⟨rfl, hWS, hgr.os.trans HB.out.os, hgr.tape.trans HB.out.tape, hgr.output.trans HB.out.output, Nat.le_trans HB.out.size hgr.size, fun i hi hne => (hgr.block i (by have := HB.out.size; omega) hne).trans (HB.out.block i hi)⟩

set_option maxRecDepth 100000 in
theorem w_message (q : Option Addr) (fs : List (List UInt8)) (k a1 a2 b1 b2 f t s r m : Int) (hin : ∀ n ∈ [k, a1, a2, b1, b2, f, t, s, r, m], In64 n) (htot : total fs ≤ 1000000) (w : World) (hW : WQ w q fs) :
    Calls Try.prog 40 #[.pointer q, .agg #[.int .i64 k, .int .i64 a1, .int .i64 a2, .int .i64 b1, .int .i64 b2, .int .i64 f, .int .i64 t, .int .i64 s, .int .i64 r, .int .i64 m]] w fun e w' => e = .returned (.tuple #[]) ∧ WQ w' q (msgF k a1 a2 b1 b2 f t s r m :: fs) ∧ w.grownBy w' (q.map Addr.block) := by
  have Hfl : Hid (0 < (msgF k a1 a2 b1 b2 f t s r m).length ∧ (msgF k a1 a2 b1 b2 f t s r m).length ≤ 1000000) := Lib.hid (by
    have e : msgF k a1 a2 b1 b2 f t s r m = nums [k, a1, a2, b1, b2, f, t, s, r, m] := by simp [msgF, nums]
    rw [e]
    have h1 := nums_len [k, a1, a2, b1, b2, f, t, s, r, m] hin
    simp only [List.length_cons, List.length_nil] at h1
    have h2 := num_bounds _ (hin _ (List.mem_cons_self ..)).1 (hin _ (List.mem_cons_self ..)).2
    simp only [nums, List.flatMap_cons, List.length_append] at h1 ⊢
    omega)
  have HW := Lib.hid hW
  have Hnil : ∀ W : World, Hid (W.ownsRow w.heap.size 5 1 (.slice none 0 0) 0 (List.map u8v [])) := fun W => Lib.hid (by exact ⟨rfl, Or.inl ⟨rfl, rfl⟩⟩)
  skip
  clear hW
  go_enter Try.func40, Try.ntmps40
  skip
  go_wp2_with fail
  skip
  refine (append_message w.heap.size _ 0 [] (by omega) k a1 a2 b1 b2 f t s r m hin _ (by simp) (Hnil _).out).mono ?_
  rintro e w1 ⟨⟨v, hown, rfl⟩, hB, _⟩
  have HB : Hid (Below w.heap.size w w1) := Lib.hid (Below.trans ((Below.refl w.heap.size w).alloc (Nat.le_refl _) _) hB)
  have HW1 := Lib.hid (HW.out.below HB.out)
  have Hown : Hid (w1.ownsRow w.heap.size 5 1 v (msgF k a1 a2 b1 b2 f t s r m).length ((msgF k a1 a2 b1 b2 f t s r m).map u8v)) := Lib.hid (by rw [Nat.zero_add, List.nil_append] at hown; exact hown)
  clear hown hB
  go_wp2_with fail
  refine (add_q q fs (msgF k a1 a2 b1 b2 f t s r m) _ v Hfl.out.1 Hfl.out.2 (by omega) w1 HW1.out Hown.out).mono ?_
  rintro e w2 ⟨rfl, hWS, hgr⟩
  go_wp2_with fail
  go_end0
  exact ⟨rfl, hWS, hgr.os.trans HB.out.os, hgr.tape.trans HB.out.tape, hgr.output.trans HB.out.output, Nat.le_trans HB.out.size hgr.size, fun i hi hne => (hgr.block i (by have := HB.out.size; omega) hne).trans (HB.out.block i hi)⟩

set_option maxRecDepth 100000 in
theorem w_span (q : Option Addr) (fs : List (List UInt8)) (s : Sp) (hs : s.Ok) (hlim : s.form.length ≤ 300000) (va vl : Value) (htot : total fs ≤ 1000000) (w : World) (hW : WQ w q fs) (hR : s.Has w w.heap.size va vl) :
    Calls Try.prog 39 #[.pointer q, .agg (s.cells va vl)] w fun e w' => e = .returned (.tuple #[]) ∧ WQ w' q (s.form :: fs) ∧ w.grownBy w' (q.map Addr.block) := by
  have Hfl : Hid (0 < (s.form).length ∧ (s.form).length ≤ 1000000) := Lib.hid (by
    have h1 := hs.1 s.t (by simp)
    have h2 := num_bounds _ h1.1 h1.2
    have h3 : (num s.t).length ≤ s.form.length := by
      unfold Sp.form nums
      rw [List.flatMap_cons, List.append_assoc, List.length_append]; omega
    omega)
  have HW := Lib.hid hW
  have Hnil : ∀ W : World, Hid (W.ownsRow w.heap.size 5 1 (.slice none 0 0) 0 (List.map u8v [])) := fun W => Lib.hid (by exact ⟨rfl, Or.inl ⟨rfl, rfl⟩⟩)
  have HR := Lib.hid hR
  clear hW hR
  go_enter Try.func39, Try.ntmps39
  unfold Sp.cells
  go_wp2_with fail
  skip
  refine (append_span w.heap.size _ 0 [] (by omega) s hs va vl _ (by simp) (by omega) (Hnil _).out (HR.out.below ((Below.refl _ _).alloc (Nat.le_refl _) _))).mono ?_
  rintro e w1 ⟨⟨v, hown, rfl⟩, hB, _⟩
  have HB : Hid (Below w.heap.size w w1) := Lib.hid (Below.trans ((Below.refl w.heap.size w).alloc (Nat.le_refl _) _) hB)
  have HW1 := Lib.hid (HW.out.below HB.out)
  have Hown : Hid (w1.ownsRow w.heap.size 5 1 v (s.form).length ((s.form).map u8v)) := Lib.hid (by rw [Nat.zero_add, List.nil_append] at hown; exact hown)
  clear hown hB
  go_wp2_with fail
  refine (add_q q fs (s.form) _ v Hfl.out.1 Hfl.out.2 (by omega) w1 HW1.out Hown.out).mono ?_
  rintro e w2 ⟨rfl, hWS, hgr⟩
  go_wp2_with fail
  go_end0
  exact ⟨rfl, hWS, hgr.os.trans HB.out.os, hgr.tape.trans HB.out.tape, hgr.output.trans HB.out.output, Nat.le_trans HB.out.size hgr.size, fun i hi hne => (hgr.block i (by have := HB.out.size; omega) hne).trans (HB.out.block i hi)⟩

end Go.Proofs.Ytepcihfkkeahhaa
