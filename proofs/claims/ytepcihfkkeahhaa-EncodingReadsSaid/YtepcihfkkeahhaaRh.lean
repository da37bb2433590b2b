/- The reference's forms: Value, Attr, Exchange, Message (written by wip/bin/gen_rh.py). -/
import Derived.Test.YtepcihfkkeahhaaRg
namespace Go.Proofs.Ytepcihfkkeahhaa
open Go.ChangeShapes Go.WideShapes Go.ChangeAt Go.RowKit En

theorem text_le (s : ByteArray) (h : s.size ≤ 10000) : (bytesOf (text s)).size ≤ 10009 := by rw [bytesOf_size]; exact text_bound s h
theorem value_le (k n : Int) (s : ByteArray) (h : s.size ≤ 10000) (hk : In64 k) (hn : In64 n) : (bytesOf (valueF k s n)).size ≤ 10100 := by
  have h1 := num_bounds k hk.1 hk.2
  have h2 := num_bounds n hn.1 hn.2
  have h3 := text_bound s h
  rw [bytesOf_size]; unfold valueF
  rw [List.length_append, List.length_append]; omega
theorem ref_le (x y : Int) (hx : In64 x) (hy : In64 y) : (bytesOf (nums [x, y])).size ≤ 18 := by
  have := nums_len [x, y] (by intro n hn; simp at hn; rcases hn with rfl | rfl <;> assumption)
  rw [bytesOf_size]; simpa using this
def TextC (W : World) : Prop := ∀ (s : ByteArray) (d : Nat) (os : Array Obj), s.size ≤ 10000 → Calls Try.prog 66 #[.string s] (Go.Sort.grow (redrawn W d) os) fun e w'' => e = .returned (.string (bytesOf (text s))) ∧ ∃ p : Regrown, w'' = Go.Sort.grow (redrawn W p.d) p.os
theorem text_c (W : World) : TextC W := fun s _ _ hs => Calls.regrown_of (ref_text s (by omega) _)
def BoolC (W : World) : Prop := ∀ (b : Bool) (d : Nat) (os : Array Obj), Calls Try.prog 65 #[.bool b] (Go.Sort.grow (redrawn W d) os) fun e w'' => e = .returned (.string (bytesOf (boolF b))) ∧ ∃ p : Regrown, w'' = Go.Sort.grow (redrawn W p.d) p.os
theorem bool_c (W : World) : BoolC W := fun b _ _ => Calls.regrown_of (ref_bool b _)
def RefC (W : World) : Prop := ∀ (x y : Int) (d : Nat) (os : Array Obj), In64 x → In64 y → Calls Try.prog 71 #[.agg #[.int .i64 x, .int .i64 y]] (Go.Sort.grow (redrawn W d) os) fun e w'' => e = .returned (.string (bytesOf (nums [x, y]))) ∧ ∃ p : Regrown, w'' = Go.Sort.grow (redrawn W p.d) p.os
theorem ref_c (W : World) : RefC W := fun x y _ _ hx hy => Calls.regrown_of (ref_ref x y hx hy _)

set_option maxRecDepth 100000 in
set_option maxHeartbeats 1000000 in
theorem ref_value (k : Int) (s : ByteArray) (n : Int) (hk : In64 k) (hs : s.size ≤ 10000) (hn : In64 n) (w : World) :
    Calls Try.prog 68 #[.agg #[.int .i64 k, .string s, .int .i64 n]] w fun e w' => e = .returned (.string (bytesOf (valueF k s n))) ∧ Below w.heap.size w w' := by
  have hl0 := num_le k hk
  have hl1 := text_le s hs
  have hl2 := num_le n hn
  have e0 : bytesOf (num k) ++ bytesOf (text s) ++ bytesOf (num n) = bytesOf (valueF k s n) := by simp only [bytesOf_append]; simp [valueF]
  obtain ⟨Z, hZ⟩ : ∃ X, X = bytesOf (valueF k s n) := ⟨_, rfl⟩
  rw [← hZ] at e0 ⊢
  have E0 := Lib.hid e0
  clear hZ e0
  have hblk := Deep.blk_alloc_new w (.cells #[.int .i64 k, .string s, .int .i64 n] 88)
  have cG0 : ∀ d os, (Go.Sort.grow (redrawn (w.alloc (.cells #[.int .i64 k, .string s, .int .i64 n] 88)) d) os).cell? ⟨w.heap.size, 0, none⟩ = some (.int .i64 k) := fun d os => cell_regrown (cell_of_row _ w.heap.size 0 _ _ _ hblk) d os
  have cG1 : ∀ d os, (Go.Sort.grow (redrawn (w.alloc (.cells #[.int .i64 k, .string s, .int .i64 n] 88)) d) os).cell? ⟨w.heap.size, 1, none⟩ = some (.string s) := fun d os => cell_regrown (cell_of_row _ w.heap.size 1 _ _ _ hblk) d os
  have cG2 : ∀ d os, (Go.Sort.grow (redrawn (w.alloc (.cells #[.int .i64 k, .string s, .int .i64 n] 88)) d) os).cell? ⟨w.heap.size, 2, none⟩ = some (.int .i64 n) := fun d os => cell_regrown (cell_of_row _ w.heap.size 2 _ _ _ hblk) d os
  have CNumC : Hid (NumC (w.alloc (.cells #[.int .i64 k, .string s, .int .i64 n] 88))) := Lib.hid (num_c _)
  have CTextC : Hid (TextC (w.alloc (.cells #[.int .i64 k, .string s, .int .i64 n] 88))) := Lib.hid (text_c _)
  clear hblk
  go_enter Try.func68, Try.ntmps68
  go_wp2_with fail
  refine wp_region_quiet_below (by kernel_rfl) (by kernel_rfl) ?_
  repeat (go_big_quiet_step ((first | (go_at_call 16; exact CNumC.out _ _ _ (by assumption)) | (go_at_call 66; exact CTextC.out _ _ _ (by assumption)))))
  refine wpQuiet_nil ?_
  intro _ hw'
  obtain ⟨⟨dq, osq⟩, hw''⟩ := hw'
  subst hw''
  have HB := Lib.hid (below_regrown (w.alloc (.cells #[.int .i64 k, .string s, .int .i64 n] 88)) dq osq)
  clear cG0 cG1 cG2
  generalize Go.Sort.grow (redrawn (w.alloc (.cells #[.int .i64 k, .string s, .int .i64 n] 88)) dq) osq = wg at *
  go_wp2_with fail
  go_ret
  refine ⟨by rw [← E0.out]; rfl, ?_⟩
  exact Below.trans ((Below.refl w.heap.size w).alloc (Nat.le_refl _) _) (HB.out.mono (by simp))

def ValC (W : World) : Prop := ∀ (k : Int) (s : ByteArray) (n : Int) (d : Nat) (os : Array Obj), In64 k → s.size ≤ 10000 → In64 n → Calls Try.prog 68 #[.agg #[.int .i64 k, .string s, .int .i64 n]] (Go.Sort.grow (redrawn W d) os) fun e w'' => e = .returned (.string (bytesOf (valueF k s n))) ∧ ∃ p : Regrown, w'' = Go.Sort.grow (redrawn W p.d) p.os
theorem val_c (W : World) : ValC W := fun k s n _ _ hk hs hn => Calls.regrown_of (ref_value k s n hk hs hn _)

set_option maxRecDepth 100000 in
set_option maxHeartbeats 1000000 in
theorem ref_attr (key : ByteArray) (k : Int) (s : ByteArray) (n : Int) (hkey : key.size ≤ 10000) (hk : In64 k) (hs : s.size ≤ 10000) (hn : In64 n) (w : World) :
    Calls Try.prog 69 #[.agg #[.string key, .int .i64 k, .string s, .int .i64 n]] w fun e w' => e = .returned (.string (bytesOf (attrF key k s n))) ∧ Below w.heap.size w w' := by
  have hl0 := text_le key hkey
  have hl1 := value_le k n s hs hk hn
  have e0 : bytesOf (text key) ++ bytesOf (valueF k s n) = bytesOf (attrF key k s n) := by simp only [bytesOf_append]; rfl
  obtain ⟨Z, hZ⟩ : ∃ X, X = bytesOf (attrF key k s n) := ⟨_, rfl⟩
  rw [← hZ] at e0 ⊢
  have E0 := Lib.hid e0
  clear hZ e0
  have hblk := Deep.blk_alloc_new w (.cells #[.string key, .int .i64 k, .string s, .int .i64 n] 91)
  have cG0 : ∀ d os, (Go.Sort.grow (redrawn (w.alloc (.cells #[.string key, .int .i64 k, .string s, .int .i64 n] 91)) d) os).cell? ⟨w.heap.size, 0, none⟩ = some (.string key) := fun d os => cell_regrown (cell_of_row _ w.heap.size 0 _ _ _ hblk) d os
  have cG1 : ∀ d os, (Go.Sort.grow (redrawn (w.alloc (.cells #[.string key, .int .i64 k, .string s, .int .i64 n] 91)) d) os).cell? ⟨w.heap.size, 1, none⟩ = some (.int .i64 k) := fun d os => cell_regrown (cell_of_row _ w.heap.size 1 _ _ _ hblk) d os
  have cG2 : ∀ d os, (Go.Sort.grow (redrawn (w.alloc (.cells #[.string key, .int .i64 k, .string s, .int .i64 n] 91)) d) os).cell? ⟨w.heap.size, 2, none⟩ = some (.string s) := fun d os => cell_regrown (cell_of_row _ w.heap.size 2 _ _ _ hblk) d os
  have cG3 : ∀ d os, (Go.Sort.grow (redrawn (w.alloc (.cells #[.string key, .int .i64 k, .string s, .int .i64 n] 91)) d) os).cell? ⟨w.heap.size, 3, none⟩ = some (.int .i64 n) := fun d os => cell_regrown (cell_of_row _ w.heap.size 3 _ _ _ hblk) d os
  have CTextC : Hid (TextC (w.alloc (.cells #[.string key, .int .i64 k, .string s, .int .i64 n] 91))) := Lib.hid (text_c _)
  have CValC : Hid (ValC (w.alloc (.cells #[.string key, .int .i64 k, .string s, .int .i64 n] 91))) := Lib.hid (val_c _)
  clear hblk
  go_enter Try.func69, Try.ntmps69
  go_wp2_with fail
  refine wp_region_quiet_below (by kernel_rfl) (by kernel_rfl) ?_
  repeat (go_big_quiet_step ((first | (go_at_call 66; exact CTextC.out _ _ _ (by assumption)) | (go_at_call 68; exact CValC.out _ _ _ _ _ (by assumption) (by assumption) (by assumption)))))
  refine wpQuiet_nil ?_
  intro _ hw'
  obtain ⟨⟨dq, osq⟩, hw''⟩ := hw'
  subst hw''
  have HB := Lib.hid (below_regrown (w.alloc (.cells #[.string key, .int .i64 k, .string s, .int .i64 n] 91)) dq osq)
  clear cG0 cG1 cG2 cG3
  generalize Go.Sort.grow (redrawn (w.alloc (.cells #[.string key, .int .i64 k, .string s, .int .i64 n] 91)) dq) osq = wg at *
  go_wp2_with fail
  go_ret
  refine ⟨by rw [← E0.out]; rfl, ?_⟩
  exact Below.trans ((Below.refl w.heap.size w).alloc (Nat.le_refl _) _) (HB.out.mono (by simp))

set_option maxRecDepth 100000 in
set_option maxHeartbeats 1000000 in
theorem ref_exchange (xa : Int) (xb : Int) (xc : Int) (xd : Int) (xf : Int) (hxa : In64 xa) (hxb : In64 xb) (hxc : In64 xc) (hxd : In64 xd) (hxf : In64 xf) (w : World) :
    Calls Try.prog 73 #[.agg #[.int .i64 xa, .int .i64 xb, .int .i64 xc, .int .i64 xd, .int .i64 xf]] w fun e w' => e = .returned (.string (bytesOf (nums [xa, xb, xc, xd, xf]))) ∧ Below w.heap.size w w' := by
  have hl0 := num_le xa hxa
  have hl1 := num_le xb hxb
  have hl2 := num_le xc hxc
  have hl3 := num_le xd hxd
  have hl4 := num_le xf hxf
  have e0 : bytesOf (num xa) ++ bytesOf (num xb) ++ bytesOf (num xc) ++ bytesOf (num xd) ++ bytesOf (num xf) = bytesOf (nums [xa, xb, xc, xd, xf]) := by simp only [bytesOf_append]; simp [nums]
  obtain ⟨Z, hZ⟩ : ∃ X, X = bytesOf (nums [xa, xb, xc, xd, xf]) := ⟨_, rfl⟩
  rw [← hZ] at e0 ⊢
  have E0 := Lib.hid e0
  clear hZ e0
  have hblk := Deep.blk_alloc_new w (.cells #[.int .i64 xa, .int .i64 xb, .int .i64 xc, .int .i64 xd, .int .i64 xf] 95)
  have cG0 : ∀ d os, (Go.Sort.grow (redrawn (w.alloc (.cells #[.int .i64 xa, .int .i64 xb, .int .i64 xc, .int .i64 xd, .int .i64 xf] 95)) d) os).cell? ⟨w.heap.size, 0, none⟩ = some (.int .i64 xa) := fun d os => cell_regrown (cell_of_row _ w.heap.size 0 _ _ _ hblk) d os
  have cG1 : ∀ d os, (Go.Sort.grow (redrawn (w.alloc (.cells #[.int .i64 xa, .int .i64 xb, .int .i64 xc, .int .i64 xd, .int .i64 xf] 95)) d) os).cell? ⟨w.heap.size, 1, none⟩ = some (.int .i64 xb) := fun d os => cell_regrown (cell_of_row _ w.heap.size 1 _ _ _ hblk) d os
  have cG2 : ∀ d os, (Go.Sort.grow (redrawn (w.alloc (.cells #[.int .i64 xa, .int .i64 xb, .int .i64 xc, .int .i64 xd, .int .i64 xf] 95)) d) os).cell? ⟨w.heap.size, 2, none⟩ = some (.int .i64 xc) := fun d os => cell_regrown (cell_of_row _ w.heap.size 2 _ _ _ hblk) d os
  have cG3 : ∀ d os, (Go.Sort.grow (redrawn (w.alloc (.cells #[.int .i64 xa, .int .i64 xb, .int .i64 xc, .int .i64 xd, .int .i64 xf] 95)) d) os).cell? ⟨w.heap.size, 3, none⟩ = some (.int .i64 xd) := fun d os => cell_regrown (cell_of_row _ w.heap.size 3 _ _ _ hblk) d os
  have cG4 : ∀ d os, (Go.Sort.grow (redrawn (w.alloc (.cells #[.int .i64 xa, .int .i64 xb, .int .i64 xc, .int .i64 xd, .int .i64 xf] 95)) d) os).cell? ⟨w.heap.size, 4, none⟩ = some (.int .i64 xf) := fun d os => cell_regrown (cell_of_row _ w.heap.size 4 _ _ _ hblk) d os
  have CNumC : Hid (NumC (w.alloc (.cells #[.int .i64 xa, .int .i64 xb, .int .i64 xc, .int .i64 xd, .int .i64 xf] 95))) := Lib.hid (num_c _)
  clear hblk
  go_enter Try.func73, Try.ntmps73
  go_wp2_with fail
  refine wp_region_quiet_below (by kernel_rfl) (by kernel_rfl) ?_
  repeat (go_big_quiet_step ((first | (go_at_call 16; exact CNumC.out _ _ _ (by assumption)))))
  refine wpQuiet_nil ?_
  intro _ hw'
  obtain ⟨⟨dq, osq⟩, hw''⟩ := hw'
  subst hw''
  have HB := Lib.hid (below_regrown (w.alloc (.cells #[.int .i64 xa, .int .i64 xb, .int .i64 xc, .int .i64 xd, .int .i64 xf] 95)) dq osq)
  clear cG0 cG1 cG2 cG3 cG4
  generalize Go.Sort.grow (redrawn (w.alloc (.cells #[.int .i64 xa, .int .i64 xb, .int .i64 xc, .int .i64 xd, .int .i64 xf] 95)) dq) osq = wg at *
  go_wp2_with fail
  go_ret
  refine ⟨by rw [← E0.out]; rfl, ?_⟩
  exact Below.trans ((Below.refl w.heap.size w).alloc (Nat.le_refl _) _) (HB.out.mono (by simp))

set_option maxRecDepth 100000 in
set_option maxHeartbeats 1000000 in
theorem ref_message (k : Int) (a1 : Int) (a2 : Int) (b1 : Int) (b2 : Int) (f : Int) (t : Int) (s : Int) (r : Int) (m : Int) (hk : In64 k) (ha1 : In64 a1) (ha2 : In64 a2) (hb1 : In64 b1) (hb2 : In64 b2) (hf : In64 f) (ht : In64 t) (hs : In64 s) (hr : In64 r) (hm : In64 m) (w : World) :
    Calls Try.prog 74 #[.agg #[.int .i64 k, .int .i64 a1, .int .i64 a2, .int .i64 b1, .int .i64 b2, .int .i64 f, .int .i64 t, .int .i64 s, .int .i64 r, .int .i64 m]] w fun e w' => e = .returned (.string (bytesOf (msgF k a1 a2 b1 b2 f t s r m))) ∧ Below w.heap.size w w' := by
  have hl0 := num_le k hk
  have hl1 := ref_le a1 a2 ha1 ha2
  have hl2 := ref_le b1 b2 hb1 hb2
  have hl3 := num_le f hf
  have hl4 := num_le t ht
  have hl5 := num_le s hs
  have hl6 := num_le r hr
  have hl7 := num_le m hm
  have e0 : bytesOf (num k) ++ bytesOf (nums [a1, a2]) ++ bytesOf (nums [b1, b2]) ++ bytesOf (num f) ++ bytesOf (num t) ++ bytesOf (num s) ++ bytesOf (num r) ++ bytesOf (num m) = bytesOf (msgF k a1 a2 b1 b2 f t s r m) := by simp only [bytesOf_append]; simp [msgF, nums]
  obtain ⟨Z, hZ⟩ : ∃ X, X = bytesOf (msgF k a1 a2 b1 b2 f t s r m) := ⟨_, rfl⟩
  rw [← hZ] at e0 ⊢
  have E0 := Lib.hid e0
  clear hZ e0
  have hblk := Deep.blk_alloc_new w (.cells #[.int .i64 k, .int .i64 a1, .int .i64 a2, .int .i64 b1, .int .i64 b2, .int .i64 f, .int .i64 t, .int .i64 s, .int .i64 r, .int .i64 m] 85)
  have cG0 : ∀ d os, (Go.Sort.grow (redrawn (w.alloc (.cells #[.int .i64 k, .int .i64 a1, .int .i64 a2, .int .i64 b1, .int .i64 b2, .int .i64 f, .int .i64 t, .int .i64 s, .int .i64 r, .int .i64 m] 85)) d) os).cell? ⟨w.heap.size, 0, none⟩ = some (.int .i64 k) := fun d os => cell_regrown (cell_of_row _ w.heap.size 0 _ _ _ hblk) d os
  have cG1 : ∀ d os, (Go.Sort.grow (redrawn (w.alloc (.cells #[.int .i64 k, .int .i64 a1, .int .i64 a2, .int .i64 b1, .int .i64 b2, .int .i64 f, .int .i64 t, .int .i64 s, .int .i64 r, .int .i64 m] 85)) d) os).cell? ⟨w.heap.size, 1, none⟩ = some (.int .i64 a1) := fun d os => cell_regrown (cell_of_row _ w.heap.size 1 _ _ _ hblk) d os
  have cG2 : ∀ d os, (Go.Sort.grow (redrawn (w.alloc (.cells #[.int .i64 k, .int .i64 a1, .int .i64 a2, .int .i64 b1, .int .i64 b2, .int .i64 f, .int .i64 t, .int .i64 s, .int .i64 r, .int .i64 m] 85)) d) os).cell? ⟨w.heap.size, 2, none⟩ = some (.int .i64 a2) := fun d os => cell_regrown (cell_of_row _ w.heap.size 2 _ _ _ hblk) d os
  have cG3 : ∀ d os, (Go.Sort.grow (redrawn (w.alloc (.cells #[.int .i64 k, .int .i64 a1, .int .i64 a2, .int .i64 b1, .int .i64 b2, .int .i64 f, .int .i64 t, .int .i64 s, .int .i64 r, .int .i64 m] 85)) d) os).cell? ⟨w.heap.size, 3, none⟩ = some (.int .i64 b1) := fun d os => cell_regrown (cell_of_row _ w.heap.size 3 _ _ _ hblk) d os
  have cG4 : ∀ d os, (Go.Sort.grow (redrawn (w.alloc (.cells #[.int .i64 k, .int .i64 a1, .int .i64 a2, .int .i64 b1, .int .i64 b2, .int .i64 f, .int .i64 t, .int .i64 s, .int .i64 r, .int .i64 m] 85)) d) os).cell? ⟨w.heap.size, 4, none⟩ = some (.int .i64 b2) := fun d os => cell_regrown (cell_of_row _ w.heap.size 4 _ _ _ hblk) d os
  have cG5 : ∀ d os, (Go.Sort.grow (redrawn (w.alloc (.cells #[.int .i64 k, .int .i64 a1, .int .i64 a2, .int .i64 b1, .int .i64 b2, .int .i64 f, .int .i64 t, .int .i64 s, .int .i64 r, .int .i64 m] 85)) d) os).cell? ⟨w.heap.size, 5, none⟩ = some (.int .i64 f) := fun d os => cell_regrown (cell_of_row _ w.heap.size 5 _ _ _ hblk) d os
  have cG6 : ∀ d os, (Go.Sort.grow (redrawn (w.alloc (.cells #[.int .i64 k, .int .i64 a1, .int .i64 a2, .int .i64 b1, .int .i64 b2, .int .i64 f, .int .i64 t, .int .i64 s, .int .i64 r, .int .i64 m] 85)) d) os).cell? ⟨w.heap.size, 6, none⟩ = some (.int .i64 t) := fun d os => cell_regrown (cell_of_row _ w.heap.size 6 _ _ _ hblk) d os
  have cG7 : ∀ d os, (Go.Sort.grow (redrawn (w.alloc (.cells #[.int .i64 k, .int .i64 a1, .int .i64 a2, .int .i64 b1, .int .i64 b2, .int .i64 f, .int .i64 t, .int .i64 s, .int .i64 r, .int .i64 m] 85)) d) os).cell? ⟨w.heap.size, 7, none⟩ = some (.int .i64 s) := fun d os => cell_regrown (cell_of_row _ w.heap.size 7 _ _ _ hblk) d os
  have cG8 : ∀ d os, (Go.Sort.grow (redrawn (w.alloc (.cells #[.int .i64 k, .int .i64 a1, .int .i64 a2, .int .i64 b1, .int .i64 b2, .int .i64 f, .int .i64 t, .int .i64 s, .int .i64 r, .int .i64 m] 85)) d) os).cell? ⟨w.heap.size, 8, none⟩ = some (.int .i64 r) := fun d os => cell_regrown (cell_of_row _ w.heap.size 8 _ _ _ hblk) d os
  have cG9 : ∀ d os, (Go.Sort.grow (redrawn (w.alloc (.cells #[.int .i64 k, .int .i64 a1, .int .i64 a2, .int .i64 b1, .int .i64 b2, .int .i64 f, .int .i64 t, .int .i64 s, .int .i64 r, .int .i64 m] 85)) d) os).cell? ⟨w.heap.size, 9, none⟩ = some (.int .i64 m) := fun d os => cell_regrown (cell_of_row _ w.heap.size 9 _ _ _ hblk) d os
  have CNumC : Hid (NumC (w.alloc (.cells #[.int .i64 k, .int .i64 a1, .int .i64 a2, .int .i64 b1, .int .i64 b2, .int .i64 f, .int .i64 t, .int .i64 s, .int .i64 r, .int .i64 m] 85))) := Lib.hid (num_c _)
  have CRefC : Hid (RefC (w.alloc (.cells #[.int .i64 k, .int .i64 a1, .int .i64 a2, .int .i64 b1, .int .i64 b2, .int .i64 f, .int .i64 t, .int .i64 s, .int .i64 r, .int .i64 m] 85))) := Lib.hid (ref_c _)
  clear hblk
  go_enter Try.func74, Try.ntmps74
  go_wp2_with fail
  refine wp_region_quiet_below (by kernel_rfl) (by kernel_rfl) ?_
  repeat (go_big_quiet_step ((first | (go_at_call 16; exact CNumC.out _ _ _ (by assumption)) | (go_at_call 71; exact CRefC.out _ _ _ _ (by assumption) (by assumption)))))
  refine wpQuiet_nil ?_
  intro _ hw'
  obtain ⟨⟨dq, osq⟩, hw''⟩ := hw'
  subst hw''
  have HB := Lib.hid (below_regrown (w.alloc (.cells #[.int .i64 k, .int .i64 a1, .int .i64 a2, .int .i64 b1, .int .i64 b2, .int .i64 f, .int .i64 t, .int .i64 s, .int .i64 r, .int .i64 m] 85)) dq osq)
  clear cG0 cG1 cG2 cG3 cG4 cG5 cG6 cG7 cG8 cG9
  generalize Go.Sort.grow (redrawn (w.alloc (.cells #[.int .i64 k, .int .i64 a1, .int .i64 a2, .int .i64 b1, .int .i64 b2, .int .i64 f, .int .i64 t, .int .i64 s, .int .i64 r, .int .i64 m] 85)) dq) osq = wg at *
  go_wp2_with fail
  go_ret
  refine ⟨by rw [← E0.out]; rfl, ?_⟩
  exact Below.trans ((Below.refl w.heap.size w).alloc (Nat.le_refl _) _) (HB.out.mono (by simp))

end Go.Proofs.Ytepcihfkkeahhaa
