/- join: the string that follows. -/
import Derived.Test.YtjkpjcklfpmcnaaSc
namespace Go.Proofs.Ytjkpjcklfpmcnaa
open Go.ChangeShapes Go.WideShapes Go.ChangeAt Go.RowKit Dp

/-- The string of what is shared and the rest. -/
def jn (y : ByteArray) (sh : Nat) (o : ByteArray) : ByteArray := ⟨(y.data.toList.take sh ++ o.data.toList).toArray⟩
theorem jn_size (y : ByteArray) (sh : Nat) (o : ByteArray) (h : sh ≤ y.size) : (jn y sh o).size = sh + o.size := by
  show (y.data.toList.take sh ++ o.data.toList).toArray.size = _
  simp [Nat.min_eq_left h]
theorem make_sum (a b : Nat) (hn : a + b ≤ 100000000) (w : World) :
    (Instr.makeSlice 30 (.int .i64 ((a : Int) + (b : Int))) (.int .i64 ((a : Int) + (b : Int)))).run Try.prog w = .ok (.slice (some ⟨w.heap.size, 0, none⟩) (a + b) (a + b)) (w.alloc (.cells (List.replicate (a + b) (Value.int .u8 0)).toArray 5)) := by
  have e : ((a : Int) + (b : Int)) = ((a + b : Nat) : Int) := by omega
  rw [e]
  exact make_bytes (a + b) hn w
/-- The string that a made block of bytes holds. -/
theorem by_string {w : World} {g N : Nat} {l : List UInt8} (h : By w g N l) (hn : N = l.length) : (convert 30 9 (.slice (some ⟨g, 0, none⟩) N N)).run Try.prog w = .ok (.string ⟨l.toArray⟩) w := by
  have := run_convert_bytes_back w 30 9 5 ⟨g, 0, none⟩ N l Try.underlying30 Try.underlying5 Try.underlying9 (fun j hj => by
    have e1 : (⟨g, 0, none⟩ : Addr).add j = ⟨g, j, none⟩ := by unfold Addr.add; split <;> simp_all
    rw [e1, cell_of_row w g j _ _ _ h.2, List.getElem?_toArray, List.getElem?_append_left (by rw [List.length_map]; exact hj), List.getElem?_map, List.getElem?_eq_getElem hj]
    rfl)
  rw [← hn] at this
  exact this
theorem begins_quiet (k : Nat) (hk : k ≤ 1000000) (w : World) : Calls Try.prog 57 #[.int .i64 (k : Int)] w fun e w' => e = .returned (.bool (decide (k % 16 = 0))) ∧ ∃ q, w' = w.drewN q :=
  (begins_any k hk w).mono fun _ _ ⟨h1, h2⟩ => ⟨h1, 0, h2⟩
/-- What join returns. -/
def Jo (w w' : World) (e : Ending) (s : ByteArray) (E : Int) : Prop :=
  e = .returned (.tuple #[.string s, .int .i64 E]) ∧ Below w.heap.size w w'
theorem ext_take (y : ByteArray) (n : Nat) : (y.extract 0 n).data.toList = y.data.toList.take n := by
  rw [Lib.extract_data]; rfl
/-- The boxed parts. -/
def Bx (w : World) (g sh : Nat) (o : ByteArray) : Prop :=
  w.cell? ⟨g, 0, none⟩ = some (.int .i64 (sh : Int)) ∧ w.cell? ⟨g, 1, none⟩ = some (.string o)
theorem Bx.made (w : World) (sh : Nat) (o : ByteArray) (t : TypeId) : Bx (w.alloc (.cells #[.int .i64 (sh : Int), .string o] t)) w.heap.size sh o := by
  have h : (w.alloc (.cells #[.int .i64 (sh : Int), .string o] t)).heap[w.heap.size]? = some (.cells #[.int .i64 (sh : Int), .string o] t (0, 0)) := Deep.blk_alloc_new w _
  exact ⟨by rw [cell_of_row _ _ _ _ _ _ h]; rfl, by rw [cell_of_row _ _ _ _ _ _ h]; rfl⟩
theorem Bx.alloc {w : World} {g sh : Nat} {o : ByteArray} (h : Bx w g sh o) (x : Obj) : Bx (w.alloc x) g sh o := by
  have hb : Below w.heap.size w (w.alloc x) := (Below.refl _ _).alloc (Nat.le_refl _) x
  exact ⟨cell_later hb h.1, cell_later hb h.2⟩
theorem Bx.row {w : World} {g g' sh : Nat} {o : ByteArray} (h : Bx w g sh o) (hne : g ≠ g') (C : Array Value) : Bx (w.setRow g' C) g sh o :=
  ⟨(World.cell?_of_block (w := w) (setRow_other w g' g C hne)).trans h.1, (World.cell?_of_block (w := w) (setRow_other w g' g C hne)).trans h.2⟩
/-- The world after the boxed parts and the bytes have been made. -/
def Ws (w : World) (sh : Nat) (o : ByteArray) (t : TypeId) (N : Nat) : World :=
  (w.alloc (.cells #[.int .i64 (sh : Int), .string o] t)).alloc (.cells (List.replicate N (Value.int .u8 0)).toArray 5)
theorem ws_parts (w : World) (sh : Nat) (o : ByteArray) (t : TypeId) (N : Nat) : Bx (Ws w sh o t N) w.heap.size sh o ∧ By (Ws w sh o t N) (w.heap.size + 1) N [] ∧ Below w.heap.size w (Ws w sh o t N) := by
  refine ⟨(Bx.made w sh o t).alloc _, ⟨Nat.zero_le _, ?_⟩, ((Below.refl _ _).alloc (Nat.le_refl _) _).alloc (by simp) _⟩
  have h : (Ws w sh o t N).heap[(w.alloc (.cells #[.int .i64 (sh : Int), .string o] t)).heap.size]? = some (.cells (List.replicate N (Value.int .u8 0)).toArray 5 (0, 0)) := Deep.blk_alloc_new _ _
  have e : (w.alloc (.cells #[.int .i64 (sh : Int), .string o] t)).heap.size = w.heap.size + 1 := by simp
  rw [e] at h
  exact h
set_option maxRecDepth 100000 in
set_option maxHeartbeats 1000000 in
theorem join_zero (A : Option Addr) (c : Nat) (o : ByteArray) (ho : o.size ≤ 255) (w : World) :
    Calls Try.prog 60 #[.agg #[.int .i64 0, .string o], .slice A 0 c] w fun e w' => Jo w w' e (jn ByteArray.empty 0 o) 0 := by
  have hbg : ∀ w, Calls Try.prog 57 #[.int .i64 0] w fun e w' => e = .returned (.bool true) ∧ ∃ q, w' = w.drewN q := begins_quiet 0 (by omega)
  obtain ⟨hBx, hBy, hB⟩ := ws_parts w 0 o 75 o.size
  have hmk : (Instr.makeSlice 30 (.int .i64 (o.size : Int)) (.int .i64 (o.size : Int))).run Try.prog (w.alloc (.cells #[.int .i64 0, .string o] 75)) = .ok (.slice (some ⟨w.heap.size + 1, 0, none⟩) o.size o.size) (Ws w 0 o 75 o.size) := by
    have := make_bytes o.size (by omega) (w.alloc (.cells #[.int .i64 0, .string o] 75))
    simp only [World.size_alloc] at this
    exact this
  obtain ⟨W1, hW1⟩ : ∃ W1, W1 = Ws w 0 o 75 o.size := ⟨_, rfl⟩
  rw [← hW1] at hBx hBy hB hmk
  obtain ⟨C1, hrun1, hBy1⟩ := copy_by hBy rfl ByteArray.empty (Nat.zero_le _) o.size o.size (Nat.zero_le _) 0 (.inl rfl)
  have hBx1 := hBx.row (g' := w.heap.size + 1) (by omega) C1
  have hB1 := below_row hB (show w.heap.size ≤ w.heap.size + 1 by omega) C1
  obtain ⟨W2, hW2⟩ : ∃ W2, W2 = W1.setRow (w.heap.size + 1) C1 := ⟨_, rfl⟩
  rw [← hW2] at hrun1 hBy1 hBx1 hB1
  obtain ⟨C2, hrun2, hBy2⟩ := copy_by (W := W2.drew) hBy1 rfl o (by simp) o.size o.size (Nat.le_refl _) 0 (.inl rfl)
  have hB2 := below_row hB1.drew (show w.heap.size ≤ w.heap.size + 1 by omega) C2
  obtain ⟨W3, hW3⟩ : ∃ W3, W3 = W2.drew.setRow (w.heap.size + 1) C2 := ⟨_, rfl⟩
  rw [← hW3] at hrun2 hBy2 hB2
  have hcv := by_string hBy2 (by simp)
  have hj : Hid ((⟨([] ++ ByteArray.empty.data.toList ++ o.data.toList).toArray⟩ : ByteArray) = jn ByteArray.empty 0 o) := Lib.hid rfl
  obtain ⟨s, hs⟩ : ∃ s, s = (⟨([] ++ ByteArray.empty.data.toList ++ o.data.toList).toArray⟩ : ByteArray) := ⟨_, rfl⟩
  rw [← hs] at hcv hj
  obtain ⟨hx0, hx1⟩ := hBx1
  obtain ⟨hy0, hy1⟩ := hBx
  have HB := Lib.hid hB2
  clear hBy hB hW1 hBy1 hB1 hW2 hBy2 hB2 hW3 hs
  go_enter Try.func60, Try.ntmps60
  go_wp2_with fail
  go_region
  go_wp2_with fail
  go_quiet ((go_at_call 57; exact Calls.quiet_of (hbg _)))
  (refine (by assumption : ∀ _ _, _ → _) _ _ ?_)
  go_wp2_with fail
  go_ret2
  exact ⟨by rw [← hj.out]; rfl, below_drewN HB.out _⟩
/-- The error of join, where the dictionary is not empty. -/
def jnE (k : Nat) (y : ByteArray) (sh : Nat) (o : ByteArray) : Int :=
  if y.size < sh then 3 else if 255 < sh + o.size then 5 else if bl y (jn y sh o) = false then 8 else if k % 16 ≠ 0 ∧ sh < cm y (jn y sh o) then 3 else 0
set_option maxRecDepth 100000 in
set_option maxHeartbeats 1000000 in
theorem join_form (b off c k : Nat) (y o : ByteArray) (sh : Nat) (hk : 0 < k) (hkl : k ≤ 4096) (_hy : y.size ≤ 255) (_ho : o.size ≤ 255) (_hsh : sh ≤ 255) (w : World) (hc : w.cell? ⟨b, off + (k - 1), none⟩ = some (.string y)) (h : y.size < sh) :
    Calls Try.prog 60 #[.agg #[.int .i64 (sh : Int), .string o], .slice (some ⟨b, off, none⟩) k c] w fun e w' => Jo w w' e ByteArray.empty 3 := by
  have hlt : (k : Int) - 1 < (k : Int) := by omega
  have hlt2 : k - 1 < k := by omega
  have w1 : IntKind.i64.wrap ((k : Int) - 1) = (k : Int) - 1 := by rw [IntWalk.i64_in _ (by omega)]
  have w4 : (1 : Int) ≤ (k : Int) := by omega
  have hc2 : (w.alloc (.cells #[.int .i64 (sh : Int), .string o] 75)).cell? ⟨b, off + (k - 1), none⟩ = some (.string y) := cell_later ((Below.refl _ _).alloc (Nat.le_refl _) _) hc
  clear hc
  go_enter Try.func60, Try.ntmps60
  go_wp2_with fail
  go_ret2
  exact ⟨rfl, (Below.refl _ _).alloc (Nat.le_refl _) _⟩
set_option maxRecDepth 100000 in
set_option maxHeartbeats 1000000 in
theorem join_long (b off c k : Nat) (y o : ByteArray) (sh : Nat) (hk : 0 < k) (hkl : k ≤ 4096) (_hy : y.size ≤ 255) (ho : o.size ≤ 255) (hsh : sh ≤ 255) (w : World) (hc : w.cell? ⟨b, off + (k - 1), none⟩ = some (.string y)) (h : sh ≤ y.size) (h2 : 255 < sh + o.size) :
    Calls Try.prog 60 #[.agg #[.int .i64 (sh : Int), .string o], .slice (some ⟨b, off, none⟩) k c] w fun e w' => Jo w w' e ByteArray.empty 5 := by
  have hlt : (k : Int) - 1 < (k : Int) := by omega
  have hlt2 : k - 1 < k := by omega
  have w1 : IntKind.i64.wrap ((k : Int) - 1) = (k : Int) - 1 := by rw [IntWalk.i64_in _ (by omega)]
  have w4 : (1 : Int) ≤ (k : Int) := by omega
  have hc2 : (w.alloc (.cells #[.int .i64 (sh : Int), .string o] 75)).cell? ⟨b, off + (k - 1), none⟩ = some (.string y) := cell_later ((Below.refl _ _).alloc (Nat.le_refl _) _) hc
  clear hc
  go_enter Try.func60, Try.ntmps60
  go_wp2_with fail
  go_ret2
  exact ⟨rfl, (Below.refl _ _).alloc (Nat.le_refl _) _⟩
set_option maxRecDepth 100000 in
set_option maxHeartbeats 1000000 in
theorem join_more (b off c k : Nat) (y o : ByteArray) (sh : Nat) (hk : 0 < k) (hkl : k ≤ 4096) (hy : y.size ≤ 255) (ho : o.size ≤ 255) (hsh : sh ≤ 255) (w : World) (hc : w.cell? ⟨b, off + (k - 1), none⟩ = some (.string y)) (h : sh ≤ y.size) (h2 : sh + o.size ≤ 255) (hr : 0 < o.size) (_h0 : k % 16 = 0 → sh = 0) :
    Calls Try.prog 60 #[.agg #[.int .i64 (sh : Int), .string o], .slice (some ⟨b, off, none⟩) k c] w fun e w' => Jo w w' e (if jnE k y sh o = 0 then jn y sh o else ByteArray.empty) (jnE k y sh o) := by
  have hne : ¬ o = ByteArray.empty := fun e => by subst e; exact absurd hr (by decide)
  have hlt : (k : Int) - 1 < (k : Int) := by omega
  have hlt2 : k - 1 < k := by omega
  have w1 : IntKind.i64.wrap ((k : Int) - 1) = (k : Int) - 1 := by rw [IntWalk.i64_in _ (by omega)]
  have w4 : (1 : Int) ≤ (k : Int) := by omega
  have hc2 : (w.alloc (.cells #[.int .i64 (sh : Int), .string o] 75)).cell? ⟨b, off + (k - 1), none⟩ = some (.string y) := cell_later ((Below.refl _ _).alloc (Nat.le_refl _) _) hc
  have hbg := begins_quiet k (by omega)
  have hl1 : sh = (([] : List UInt8) ++ (y.extract 0 sh).data.toList).length := by rw [ext_take]; simp; omega
  have hl2 : sh + o.size = (([] : List UInt8) ++ (y.extract 0 sh).data.toList ++ o.data.toList).length := by rw [List.length_append, ← hl1]; simp
  have hxs : (y.extract 0 sh).size = sh := by simp; omega
  obtain ⟨hBx, hBy, hB⟩ := ws_parts w sh o 75 (sh + o.size)
  have hmk : (Instr.makeSlice 30 (.int .i64 ((sh : Int) + (o.size : Int))) (.int .i64 ((sh : Int) + (o.size : Int)))).run Try.prog (w.alloc (.cells #[.int .i64 (sh : Int), .string o] 75)) = .ok (.slice (some ⟨w.heap.size + 1, 0, none⟩) (sh + o.size) (sh + o.size)) (Ws w sh o 75 (sh + o.size)) := by
    have := make_sum sh o.size (by omega) (w.alloc (.cells #[.int .i64 (sh : Int), .string o] 75))
    simp only [World.size_alloc] at this
    exact this
  obtain ⟨W1, hW1⟩ : ∃ W1, W1 = Ws w sh o 75 (sh + o.size) := ⟨_, rfl⟩
  rw [← hW1] at hBx hBy hB hmk
  obtain ⟨C1, hrun1, hBy1⟩ := copy_by (a := 0) hBy rfl (y.extract 0 sh) (by rw [hxs]; omega) (sh + o.size) (sh + o.size) (by rw [hxs]; omega) 0 (.inl rfl)
  rw [hxs] at hrun1
  have hBx1 := hBx.row (g' := w.heap.size + 1) (by omega) C1
  have hB1 := below_row hB (show w.heap.size ≤ w.heap.size + 1 by omega) C1
  obtain ⟨W2, hW2⟩ : ∃ W2, W2 = W1.setRow (w.heap.size + 1) C1 := ⟨_, rfl⟩
  rw [← hW2] at hrun1 hBy1 hBx1 hB1
  obtain ⟨C2, hrun2, hBy2⟩ := copy_by (W := W2.drew) hBy1 hl1 o (Nat.le_refl _) o.size o.size (Nat.le_refl _) sh (.inl rfl)
  have hBx2 : Bx (W2.drew.setRow (w.heap.size + 1) C2) w.heap.size sh o := Bx.row (w := W2.drew) hBx1 (by omega) C2
  have hB2 := below_row hB1.drew (show w.heap.size ≤ w.heap.size + 1 by omega) C2
  obtain ⟨W3, hW3⟩ : ∃ W3, W3 = W2.drew.setRow (w.heap.size + 1) C2 := ⟨_, rfl⟩
  rw [← hW3] at hrun2 hBy2 hB2 hBx2
  have hcv := by_string hBy2 hl2
  have hj : (⟨(([] : List UInt8) ++ (y.extract 0 sh).data.toList ++ o.data.toList).toArray⟩ : ByteArray) = jn y sh o := by rw [ext_take]; rfl
  rw [hj] at hcv
  have hsz := jn_size y sh o h
  have hE : jnE k y sh o = if bl y (jn y sh o) = false then 8 else if k % 16 ≠ 0 ∧ sh < cm y (jn y sh o) then 3 else 0 := by
    unfold jnE; rw [if_neg (by omega), if_neg (by omega)]
  obtain ⟨s, hs⟩ : ∃ s, s = jn y sh o := ⟨_, rfl⟩
  rw [← hs] at hcv hsz hE ⊢
  have hcm := fun q => common_any y s (by omega) (by omega) (W3.drewN q)
  obtain ⟨m, hm⟩ : ∃ m, m = cm y s := ⟨_, rfl⟩
  rw [← hm] at hcm hE
  obtain ⟨E, hEE⟩ : ∃ E, E = jnE k y sh o := ⟨_, rfl⟩
  rw [← hEE] at hE ⊢
  have HE := Lib.hid hE
  obtain ⟨hx0, hx1⟩ := hBx1
  obtain ⟨hy0, hy1⟩ := hBx
  obtain ⟨hz0, _⟩ := hBx2
  have HB := Lib.hid hB2
  clear hBy hB hW1 hBy1 hB1 hW2 hBy2 hB2 hW3 hs hm hEE hE hj hl1 hl2 hxs hc hsz
  rcases tests s y with ⟨h1, h3, h5⟩ | ⟨h1, h3, h5⟩ | ⟨h1, h3, h5⟩
  · rw [h1, if_neg (by decide)] at HE
    clear h1
    by_cases h16 : k % 16 = 0
    · rw [if_neg (fun g => g.1 h16)] at HE
      rw [decide_eq_true h16] at hbg
      have He := HE.out
      subst He
      rw [if_pos rfl]
      clear HE h16 hcm
      go_enter Try.func60, Try.ntmps60
      go_wp2_with fail
      go_region
      go_wp2_with fail
      go_quiet ((go_at_call 57; exact Calls.quiet_of (hbg _)))
      (refine (by assumption : ∀ _ _, _ → _) _ _ ?_)
      go_wp2_with fail
      go_ret2
      exact ⟨rfl, below_drewN HB.out _⟩
    · rw [decide_eq_false h16] at hbg
      by_cases h6 : sh < m
      · rw [if_pos ⟨h16, h6⟩] at HE
        have He := HE.out
        subst He
        rw [if_neg (by decide)]
        clear HE h16
        go_enter Try.func60, Try.ntmps60
        go_wp2_with fail
        go_region
        go_wp2_with fail
        go_quiet (first | (go_at_call 57; exact Calls.quiet_of (hbg _)) | (go_at_call 67; exact Calls.quiet_of (hcm _)))
        (refine (by assumption : ∀ _ _, _ → _) _ _ ?_)
        go_wp2_with fail
        go_ret2
        exact ⟨rfl, below_drewN HB.out _⟩
      · rw [if_neg (fun g => h6 g.2)] at HE
        have He := HE.out
        subst He
        rw [if_pos rfl]
        clear HE h16
        go_enter Try.func60, Try.ntmps60
        go_wp2_with fail
        go_region
        go_wp2_with fail
        go_quiet (first | (go_at_call 57; exact Calls.quiet_of (hbg _)) | (go_at_call 67; exact Calls.quiet_of (hcm _)))
        (refine (by assumption : ∀ _ _, _ → _) _ _ ?_)
        go_wp2_with fail
        go_ret2
        exact ⟨rfl, below_drewN HB.out _⟩
  · rw [h1, if_pos rfl] at HE
    have He := HE.out
    subst He
    rw [if_neg (by decide)]
    clear HE hcm hbg h1
    go_enter Try.func60, Try.ntmps60
    go_wp2_with fail
    go_region
    go_wp2_with fail
    go_ret2
    exact ⟨rfl, HB.out⟩
  · rw [h1, if_pos rfl] at HE
    have He := HE.out
    subst He
    rw [if_neg (by decide)]
    clear HE hcm hbg h1
    go_enter Try.func60, Try.ntmps60
    go_wp2_with fail
    go_region
    go_wp2_with fail
    go_ret2
    exact ⟨rfl, HB.out⟩
set_option maxRecDepth 100000 in
set_option maxHeartbeats 1000000 in
theorem join_less (b off c k : Nat) (y : ByteArray) (sh : Nat) (hk : 0 < k) (hkl : k ≤ 4096) (hy : y.size ≤ 255) (hsh : sh ≤ 255) (w : World) (hc : w.cell? ⟨b, off + (k - 1), none⟩ = some (.string y)) (h : sh ≤ y.size) (_h2 : sh ≤ 255) (_h0 : k % 16 = 0 → sh = 0) :
    Calls Try.prog 60 #[.agg #[.int .i64 (sh : Int), .string ByteArray.empty], .slice (some ⟨b, off, none⟩) k c] w fun e w' => Jo w w' e (if jnE k y sh ByteArray.empty = 0 then jn y sh ByteArray.empty else ByteArray.empty) (jnE k y sh ByteArray.empty) := by
  have he0 : ByteArray.empty.size = 0 := rfl
  have hlt : (k : Int) - 1 < (k : Int) := by omega
  have hlt2 : k - 1 < k := by omega
  have w1 : IntKind.i64.wrap ((k : Int) - 1) = (k : Int) - 1 := by rw [IntWalk.i64_in _ (by omega)]
  have w4 : (1 : Int) ≤ (k : Int) := by omega
  have hc2 : (w.alloc (.cells #[.int .i64 (sh : Int), .string ByteArray.empty] 75)).cell? ⟨b, off + (k - 1), none⟩ = some (.string y) := cell_later ((Below.refl _ _).alloc (Nat.le_refl _) _) hc
  have hbg := begins_quiet k (by omega)
  have hl1 : sh = (([] : List UInt8) ++ (y.extract 0 sh).data.toList).length := by rw [ext_take]; simp; omega
  have hl2 : sh = (([] : List UInt8) ++ (y.extract 0 sh).data.toList ++ ByteArray.empty.data.toList).length := by rw [List.length_append, ← hl1]; simp
  have hxs : (y.extract 0 sh).size = sh := by simp; omega
  obtain ⟨hBx, hBy, hB⟩ := ws_parts w sh ByteArray.empty 75 (sh)
  have hmk : (Instr.makeSlice 30 (.int .i64 (sh : Int)) (.int .i64 (sh : Int))).run Try.prog (w.alloc (.cells #[.int .i64 (sh : Int), .string ByteArray.empty] 75)) = .ok (.slice (some ⟨w.heap.size + 1, 0, none⟩) (sh) (sh)) (Ws w sh ByteArray.empty 75 (sh)) := by
    have := make_bytes sh (by omega) (w.alloc (.cells #[.int .i64 (sh : Int), .string ByteArray.empty] 75))
    simp only [World.size_alloc] at this
    exact this
  obtain ⟨W1, hW1⟩ : ∃ W1, W1 = Ws w sh ByteArray.empty 75 (sh) := ⟨_, rfl⟩
  rw [← hW1] at hBx hBy hB hmk
  obtain ⟨C1, hrun1, hBy1⟩ := copy_by (a := 0) hBy rfl (y.extract 0 sh) (by rw [hxs]; omega) (sh) (sh) (by rw [hxs]; omega) 0 (.inl rfl)
  rw [hxs] at hrun1
  have hBx1 := hBx.row (g' := w.heap.size + 1) (by omega) C1
  have hB1 := below_row hB (show w.heap.size ≤ w.heap.size + 1 by omega) C1
  obtain ⟨W2, hW2⟩ : ∃ W2, W2 = W1.setRow (w.heap.size + 1) C1 := ⟨_, rfl⟩
  rw [← hW2] at hrun1 hBy1 hBx1 hB1
  obtain ⟨C2, hrun2, hBy2⟩ := copy_by (W := W2.drew) hBy1 hl1 ByteArray.empty (Nat.le_refl _) 0 0 (by omega) 0 (.inr ⟨rfl, rfl⟩)
  have hBx2 : Bx (W2.drew.setRow (w.heap.size + 1) C2) w.heap.size sh ByteArray.empty := Bx.row (w := W2.drew) hBx1 (by omega) C2
  have hB2 := below_row hB1.drew (show w.heap.size ≤ w.heap.size + 1 by omega) C2
  obtain ⟨W3, hW3⟩ : ∃ W3, W3 = W2.drew.setRow (w.heap.size + 1) C2 := ⟨_, rfl⟩
  rw [← hW3] at hrun2 hBy2 hB2 hBx2
  have hcv := by_string hBy2 hl2
  have hj : (⟨(([] : List UInt8) ++ (y.extract 0 sh).data.toList ++ ByteArray.empty.data.toList).toArray⟩ : ByteArray) = jn y sh ByteArray.empty := by rw [ext_take]; rfl
  rw [hj] at hcv
  have hsz := jn_size y sh ByteArray.empty h
  have hE : jnE k y sh ByteArray.empty = if bl y (jn y sh ByteArray.empty) = false then 8 else if k % 16 ≠ 0 ∧ sh < cm y (jn y sh ByteArray.empty) then 3 else 0 := by
    unfold jnE; rw [if_neg (by omega), if_neg (by omega)]
  obtain ⟨s, hs⟩ : ∃ s, s = jn y sh ByteArray.empty := ⟨_, rfl⟩
  rw [← hs] at hcv hsz hE ⊢
  have hcm := fun q => common_any y s (by omega) (by omega) (W3.drewN q)
  obtain ⟨m, hm⟩ : ∃ m, m = cm y s := ⟨_, rfl⟩
  rw [← hm] at hcm hE
  obtain ⟨E, hEE⟩ : ∃ E, E = jnE k y sh ByteArray.empty := ⟨_, rfl⟩
  rw [← hEE] at hE ⊢
  have HE := Lib.hid hE
  obtain ⟨hx0, hx1⟩ := hBx1
  obtain ⟨hy0, hy1⟩ := hBx
  obtain ⟨hz0, _⟩ := hBx2
  have HB := Lib.hid hB2
  clear he0 hBy hB hW1 hBy1 hB1 hW2 hBy2 hB2 hW3 hs hm hEE hE hj hl1 hl2 hxs hc hsz
  rcases tests s y with ⟨h1, h3, h5⟩ | ⟨h1, h3, h5⟩ | ⟨h1, h3, h5⟩
  · rw [h1, if_neg (by decide)] at HE
    clear h1
    by_cases h16 : k % 16 = 0
    · rw [if_neg (fun g => g.1 h16)] at HE
      rw [decide_eq_true h16] at hbg
      have He := HE.out
      subst He
      rw [if_pos rfl]
      clear HE h16 hcm
      go_enter Try.func60, Try.ntmps60
      go_wp2_with fail
      go_region
      go_wp2_with fail
      go_quiet ((go_at_call 57; exact Calls.quiet_of (hbg _)))
      (refine (by assumption : ∀ _ _, _ → _) _ _ ?_)
      go_wp2_with fail
      go_ret2
      exact ⟨rfl, below_drewN HB.out _⟩
    · rw [decide_eq_false h16] at hbg
      by_cases h6 : sh < m
      · rw [if_pos ⟨h16, h6⟩] at HE
        have He := HE.out
        subst He
        rw [if_neg (by decide)]
        clear HE h16
        go_enter Try.func60, Try.ntmps60
        go_wp2_with fail
        go_region
        go_wp2_with fail
        go_quiet (first | (go_at_call 57; exact Calls.quiet_of (hbg _)) | (go_at_call 67; exact Calls.quiet_of (hcm _)))
        (refine (by assumption : ∀ _ _, _ → _) _ _ ?_)
        go_wp2_with fail
        go_ret2
        exact ⟨rfl, below_drewN HB.out _⟩
      · rw [if_neg (fun g => h6 g.2)] at HE
        have He := HE.out
        subst He
        rw [if_pos rfl]
        clear HE h16
        go_enter Try.func60, Try.ntmps60
        go_wp2_with fail
        go_region
        go_wp2_with fail
        go_quiet (first | (go_at_call 57; exact Calls.quiet_of (hbg _)) | (go_at_call 67; exact Calls.quiet_of (hcm _)))
        (refine (by assumption : ∀ _ _, _ → _) _ _ ?_)
        go_wp2_with fail
        go_ret2
        exact ⟨rfl, below_drewN HB.out _⟩
  · rw [h1, if_pos rfl] at HE
    have He := HE.out
    subst He
    rw [if_neg (by decide)]
    clear HE hcm hbg h1
    go_enter Try.func60, Try.ntmps60
    go_wp2_with fail
    go_region
    go_wp2_with fail
    go_ret2
    exact ⟨rfl, HB.out⟩
  · rw [h1, if_pos rfl] at HE
    have He := HE.out
    subst He
    rw [if_neg (by decide)]
    clear HE hcm hbg h1
    go_enter Try.func60, Try.ntmps60
    go_wp2_with fail
    go_region
    go_wp2_with fail
    go_ret2
    exact ⟨rfl, HB.out⟩
end Go.Proofs.Ytjkpjcklfpmcnaa
