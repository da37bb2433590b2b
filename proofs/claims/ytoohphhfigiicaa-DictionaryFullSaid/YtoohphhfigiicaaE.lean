/- The program's Codes, Strings and Remap. -/
import Derived.Test.YtoohphhfigiicaaC
import Derived.Laws.MakeOwn
namespace Go.Proofs.Ytoohphhfigiicaa
open Go.ChangeShapes Go.WideShapes Go.ChangeAt Go.RowKit Dp

/-- The first error of a list. -/
def fe {α : Type} (er : α → Int) : List α → Int
  | [] => 0
  | x :: M => if er x = 0 then fe er M else er x
theorem fe_at {α : Type} (er : α → Int) (M : List α) (k : Nat) (h : ∀ j, j < k → ∀ hj : j < M.length, er M[j] = 0) : fe er M = fe er (M.drop k) := by
  induction M generalizing k with
  | nil => simp
  | cons x M ih =>
    cases k with
    | zero => rfl
    | succ k =>
      have h0 : er x = 0 := h 0 (by omega) (by simp)
      show (if er x = 0 then fe er M else er x) = _
      rw [if_pos h0, List.drop_succ_cons]
      exact ih k fun j hj hj2 => h (j + 1) (by omega) (by simpa using hj2)
theorem fe_hit {α : Type} (er : α → Int) (M : List α) (k : Nat) (h : ∀ j, j < k → ∀ hj : j < M.length, er M[j] = 0) (hk : k < M.length) (hne : er M[k] ≠ 0) : fe er M = er M[k] := by
  rw [fe_at er M k h, List.drop_eq_getElem_cons hk]
  show (if er M[k] = 0 then _ else er M[k]) = _
  rw [if_neg hne]
theorem fe_all {α : Type} (er : α → Int) (M : List α) (h : ∀ j, j < M.length → ∀ hj : j < M.length, er M[j] = 0) : fe er M = 0 := by
  rw [fe_at er M M.length h, List.drop_length]; rfl
/-- A slice and an error that a call returns. -/
def Out {α : Type} (enc : α → Value) (w : World) (e : Ending) (R : List α) (E : Int) : Prop :=
  ∃ A c, e = .returned (.tuple #[.slice A R.length c, .int .i64 E]) ∧ R.length ≤ c ∧ Rd enc w A R
def res {α β : Type} (er : α → Int) (val : α → β) (M : List α) : List β := if fe er M = 0 then M.map val else []

/-- Block g, made for n elements, holds L from its head on. -/
def Fi {α : Type} (enc : α → Value) (w : World) (g : Nat) (t : TypeId) (n : Nat) (L : List α) : Prop :=
  ∃ C : Array Value, w.heap[g]? = some (.cells C t (0, 0)) ∧ C.size = n ∧ ∀ j (hj : j < L.length), C[j]? = some (enc L[j])
theorem Fi.lt {α : Type} {enc : α → Value} {w : World} {g : Nat} {t : TypeId} {n : Nat} {L : List α} (h : Fi enc w g t n L) : g < w.heap.size := by
  obtain ⟨C, hg, _⟩ := h
  exact (Array.getElem?_eq_some_iff.1 hg).1
theorem Fi.below {α : Type} {enc : α → Value} {w w' : World} {g : Nat} {t : TypeId} {n : Nat} {L : List α} (h : Fi enc w g t n L) (hb : Below w.heap.size w w') : Fi enc w' g t n L := by
  have hl := h.lt
  obtain ⟨C, hg, h2⟩ := h
  exact ⟨C, (hb.block g hl).trans hg, h2⟩
theorem Fi.new {α : Type} (enc : α → Value) (w : World) (t : TypeId) (n : Nat) (z : Value) : Fi enc (w.alloc (.cells (List.replicate n z).toArray t)) w.heap.size t n ([] : List α) :=
  ⟨_, Deep.blk_alloc_new w _, by simp, fun j hj => absurd hj (by simp)⟩
theorem Fi.cell {α : Type} {enc : α → Value} {w : World} {g : Nat} {t : TypeId} {n : Nat} {L : List α} (h : Fi enc w g t n L) (k : Nat) (hk : k < n) : (∃ u, w.cell? ⟨g, k, none⟩ = some u) ∧ w.frozen? ⟨g, k, none⟩ = false := by
  obtain ⟨C, hg, hs, _⟩ := h
  exact ⟨⟨C[k]'(by omega), by rw [cell_of_row w g k C _ _ hg, Array.getElem?_eq_getElem]⟩, frozen_of_row w g k _ _ hg⟩
theorem Fi.put {α : Type} {enc : α → Value} {w : World} {g : Nat} {t : TypeId} {n : Nat} {L : List α} (h : Fi enc w g t n L) (k : Nat) (hk : k = L.length) (hn : k < n) (x : α) : Fi enc (w.setCell ⟨g, k, none⟩ (enc x)) g t n (L ++ [x]) := by
  obtain ⟨C, hg, hs, hc⟩ := h
  refine ⟨C.setIfInBounds k (enc x), ?_, by simpa using hs, fun j hj => ?_⟩
  · simp only [World.setCell, Array.getElem?_modify, hg]; simp
  · rw [Array.getElem?_setIfInBounds]
    by_cases e : k = j
    · subst e
      rw [if_pos rfl, if_pos (by omega)]
      subst hk
      simp
    · rw [if_neg e]
      have hj' : j < L.length := by rw [List.length_append, List.length_singleton] at hj; omega
      rw [hc j hj', List.getElem_append_left hj']
theorem Fi.rd {α : Type} {enc : α → Value} {w : World} {g : Nat} {t : TypeId} {n : Nat} {L : List α} (h : Fi enc w g t n L) : Rd enc w (some ⟨g, 0, none⟩) L := fun k hk => by
  have hl := h.lt
  obtain ⟨C, hg, hs, hc⟩ := h
  exact ⟨g, 0, rfl, hl, by rw [Nat.zero_add, cell_of_row w g k C _ _ hg]; exact hc k hk⟩
theorem int_info : (Try.prog.info? 3).map (fun i => (i.zero, i.size, i.bytes)) = some (some (.int .i64 0), 1, 8) := by kernel_rfl
theorem str_info : (Try.prog.info? 9).map (fun i => (i.zero, i.size, i.bytes)) = some (some (.string ByteArray.empty), 1, 16) := by kernel_rfl
theorem make_ints (n : Nat) (hn : n ≤ 1000000) (w : World) :
    (Instr.makeSlice 31 (.int .i64 (n : Int)) (.int .i64 (n : Int))).run Try.prog w = .ok (.slice (some ⟨w.heap.size, 0, none⟩) n n) (w.alloc (.cells (List.replicate n (.int .i64 0)).toArray 3)) := by
  obtain ⟨i0, hi0, hz0, hz1, hz2⟩ := info_parts int_info
  have h := run_make w 31 3 i0 _ Try.underlying31 hi0 hz0 .i64 .i64 n n (by omega) (Int.le_refl _) (by rw [hz2]; omega) (by omega)
  rw [Int.toNat_natCast, hz1, Nat.mul_one] at h
  rw [h]
  have e : madeCells (Value.cells (.int .i64 0)) n = (List.replicate n (.int .i64 0)).toArray := by
    have := toList_madeCells_one (.int .i64 0) n
    rw [← this]; rfl
  rw [e]
theorem make_strs (n : Nat) (hn : n ≤ 1000000) (w : World) :
    (Instr.makeSlice 22 (.int .i64 (n : Int)) (.int .i64 (n : Int))).run Try.prog w = .ok (.slice (some ⟨w.heap.size, 0, none⟩) n n) (w.alloc (.cells (List.replicate n (.string ByteArray.empty)).toArray 9)) := by
  obtain ⟨i0, hi0, hz0, hz1, hz2⟩ := info_parts str_info
  have h := run_make w 22 9 i0 _ Try.underlying22 hi0 hz0 .i64 .i64 n n (by omega) (Int.le_refl _) (by rw [hz2]; omega) (by omega)
  rw [Int.toNat_natCast, hz1, Nat.mul_one] at h
  rw [h]
  have e : madeCells (Value.cells (.string ByteArray.empty)) n = (List.replicate n (.string ByteArray.empty)).toArray := by
    have := toList_madeCells_one (.string ByteArray.empty) n
    rw [← this]; rfl
  rw [e]
theorem map_take_succ {α β : Type} (M : List α) (val : α → β) (k : Nat) (hk : k < M.length) : (M.take (k + 1)).map val = (M.take k).map val ++ [val M[k]] := by
  rw [List.take_succ_eq_append_getElem hk, List.map_append]; rfl
theorem map_take_len {α β : Type} (M : List α) (val : α → β) (k : Nat) (hk : k ≤ M.length) : k = ((M.take k).map val).length := by
  rw [List.length_map, List.length_take]; omega

def cdE (L : List ByteArray) (x : ByteArray) : Int := if (fd L x).isSome then 0 else 10
def cdV (L : List ByteArray) (x : ByteArray) : Int := ((fd L x).getD 0 : Nat)
set_option maxHeartbeats 1000000 in
theorem codes_any (A B : Option Addr) (c d : Nat) (L : List ByteArray) (hS : Srt L) (M : List ByteArray) (hL : L.length ≤ 1000000) (hM : M.length ≤ 1000000) (w : World) (hR : Rd Value.string w A L) (hR2 : Rd Value.string w B M) :
    Calls Try.prog 28 #[.slice A L.length c, .slice B M.length d] w fun e w' => Out (Value.int .i64) w' e (res (cdE L) (cdV L) M) (fe (cdE L) M) ∧ Below w.heap.size w w' := by
  have HS := Lib.hid hS
  have HR := Lib.hid hR
  have HR2 := Lib.hid hR2
  have km := make_ints M.length hM w
  clear hS hR hR2
  go_enter Try.func28, Try.ntmps28
  go_wp2_with fail
  clear km
  have hF0 : Hid (Fi (Value.int .i64) (w.alloc (.cells (List.replicate M.length (.int .i64 0)).toArray 3)) w.heap.size 3 M.length ((M.take 0).map (cdV L))) := Lib.hid (Fi.new _ _ _ _ _)
  have hB0 : Hid (Below w.heap.size w (w.alloc (.cells (List.replicate M.length (.int .i64 0)).toArray 3))) := Lib.hid ((Below.refl _ _).alloc (Nat.le_refl _) _)
  go_loopw [16] (fun i wr => ∃ k : Nat, k ≤ M.length ∧ i = .int .i64 k ∧ Hid (Fi (Value.int .i64) wr w.heap.size 3 M.length ((M.take k).map (cdV L))) ∧ Hid (Below w.heap.size w wr) ∧ Hid (∀ j, j < k → ∀ hj : j < M.length, cdE L M[j] = 0)) (fun i _ => M.length - (intOf i).toNat)
  case atStart => exact ⟨0, Nat.zero_le _, rfl, hF0, hB0, Lib.hid (fun j hj => absurd hj (by omega))⟩
  case round =>
    obtain ⟨k, hk, rfl, hF, hB, hall⟩ := hrel
    by_cases hlt : k < M.length
    · obtain ⟨b, off, rfl, hb, hc⟩ := (HR2.out.below hB.out) k hlt
      have HT := Lib.hid (map_take_succ M (cdV L) k hlt)
      have HH := Lib.hid (fe_hit (cdE L) M k hall.out hlt)
      obtain ⟨x, hxe⟩ : ∃ x, x = M[k] := ⟨_, rfl⟩
      have Hx := Lib.hid hxe
      rw [← hxe] at hc HT HH
      clear hxe
      go_wp2_with fail
      refine (find_any A c L HS.out x hL wr (HR.out.below hB.out)).mono ?_
      rintro e w1 ⟨rfl, hB1⟩
      have hF1 := hF.out.below hB1
      obtain ⟨⟨u, hu⟩, hfz⟩ := hF1.cell k hlt
      have HF1 := Lib.hid hF1
      have HB1 := Lib.hid (below_to hB.out hB1)
      clear hB1 hc hF1
      cases hf : fd L x with
      | none =>
        have Hf := Lib.hid hf
        clear hf
        simp only [Option.getD_none, Option.isSome_none]
        go_wp2_with fail
        go_ret2
        have he : fe (cdE L) M = 10 := by
          rw [HH.out (by unfold cdE; rw [Hf.out]; decide)]; unfold cdE; rw [Hf.out]; rfl
        refine ⟨?_, HB1.out⟩
        unfold res
        rw [he, if_neg (by decide)]
        exact ⟨none, 0, rfl, Nat.le_refl _, Rd.nil⟩
      | some m =>
        have Hf := Lib.hid hf
        clear hf
        simp only [Option.getD_some, Option.isSome_some]
        go_wp2_with fail
        go_roundw
        case rel =>
          refine ⟨k + 1, by omega, by go_num, ?_, Lib.hid (HB1.out.setCell (Nat.le_refl _) _), Lib.hid (fun j hj hj2 => ?_)⟩
          · have hv : cdV L x = (m : Int) := by unfold cdV; rw [Hf.out]; rfl
            rw [HT.out, hv]
            exact Lib.hid (HF1.out.put k (map_take_len M (cdV L) k hk) hlt (m : Int))
          · by_cases e : j = k
            · subst e; rw [← Hx.out]; unfold cdE; rw [Hf.out]; rfl
            · exact hall.out j (by omega) hj2
        case measure => simp [intOf]; omega
    · obtain rfl : k = M.length := by omega
      go_wp2_with fail
      go_ret2
      have he : fe (cdE L) M = 0 := fe_all _ _ hall.out
      refine ⟨?_, hB.out⟩
      unfold res
      rw [he, if_pos rfl]
      have h := hF.out.rd
      rw [List.take_length] at h
      exact ⟨_, M.length, by rw [List.length_map]; rfl, by rw [List.length_map]; exact Nat.le_refl _, h⟩
end Go.Proofs.Ytoohphhfigiicaa
