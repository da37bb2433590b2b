/- The program's Lower, Find and Prefix, and the reference's. -/
import Derived.Test.YtoohphhfigiicaaA
import Derived.Test.YtoohphhfigiicaaDq
import Derived.Test.YtoohphhfigiicaaShelf
namespace Go.Proofs.Ytoohphhfigiicaa
open Go.ChangeShapes Go.WideShapes Go.ChangeAt Go.RowKit Dp Go.Sort

theorem below_grow (w : World) (n : Nat) (os : Array Obj) : Below w.heap.size w (grow (w.drewN n) os) :=
  ⟨rfl, rfl, rfl, by show w.heap.size ≤ (w.heap ++ os).size; rw [Array.size_append]; omega, fun i hi => by
    show (w.heap ++ os)[i]? = _
    rw [Array.getElem?_append_left hi]⟩
set_option maxHeartbeats 400000 in
theorem lower1_any (a b : Nat) (A : Option Addr) (cap : Nat) (L : List ByteArray) (s : ByteArray) (k : Nat) (hk : k < L.length) (_hL : L.length ≤ 1000000) (w : World) (h1 : w.cell? ⟨a, 0, none⟩ = some (.slice A L.length cap)) (h2 : w.cell? ⟨b, 0, none⟩ = some (.string s)) (hR : Rd Value.string w A L) :
    Calls Try.prog 52 #[.int .i64 k, .pointer (some ⟨a, 0, none⟩), .pointer (some ⟨b, 0, none⟩)] w fun e w' => e = .returned (.bool (!bl L[k] s)) ∧ ∃ q, w' = w.drewN q := by
  obtain ⟨g, off, rfl, hb, hc⟩ := hR k hk
  obtain ⟨x, hx⟩ : ∃ x, x = L[k] := ⟨_, rfl⟩
  rw [← hx] at hc ⊢
  clear hx hR
  go_enter Try.func52, Try.ntmps52
  go_wp2_with fail
  go_quiet (fail)
  (refine (by assumption : ∀ _ _, _ → _) _ _ ?_)
  go_wp2_with fail
  go_ret
  exact ⟨rfl, _, rfl⟩
set_option maxHeartbeats 400000 in
theorem lower_any (A : Option Addr) (cap : Nat) (L : List ByteArray) (hS : Srt L) (s : ByteArray) (hL : L.length ≤ 1000000) (w : World) (hR : Rd Value.string w A L) :
    Calls Try.prog 24 #[.slice A L.length cap, .string s] w fun e w' => e = .returned (.int .i64 (lw L s : Nat)) ∧ Below w.heap.size w w' := by
  have HS := Lib.hid hS
  have HR := Lib.hid hR
  clear hS hR
  have hp : ∀ W : World, W = (w.alloc (.cells #[.slice A L.length cap] 22)).alloc (.cells #[.string s] 9) → Calls Try.prog 51 #[.int .i64 (L.length : Nat), .func (.func 52) #[] #[.pointer (some ⟨w.heap.size, 0, none⟩), .pointer (some ⟨w.heap.size + 1, 0, none⟩)]] W fun e w' => e = .returned (.int .i64 (lw L s : Nat)) ∧ Below W.heap.size W w' := by
    intro W hW
    have hc1 : W.cell? ⟨w.heap.size, 0, none⟩ = some (.slice A L.length cap) := by rw [hW]; simp [go_sem]
    have hc2 : W.cell? ⟨w.heap.size + 1, 0, none⟩ = some (.string s) := by rw [hW]; simp [go_sem]
    have hl1 : w.heap.size < W.heap.size := by rw [hW]; simp; omega
    have hl2 : w.heap.size + 1 < W.heap.size := by rw [hW]; simp
    have hRW : Rd Value.string W A L := by rw [hW]; exact (HR.out.alloc _).alloc _
    have hcnt : (List.range L.length).countP (fun i => !(!bl (L.getD i ByteArray.empty) s)) = lw L s := countP_lt _ _ _ (lw_le L s) (fun i hi => by
      rw [Bool.not_not]
      have := srt_low HS.out s i hi
      simpa [List.getD, List.getElem?_eq_getElem hi] using this)
    have h := Any.sort_Search Try.search 52 #[.pointer (some ⟨w.heap.size, 0, none⟩), .pointer (some ⟨w.heap.size + 1, 0, none⟩)] L.length (fun i => !bl (L.getD i ByteArray.empty) s) W (enters_of Try.func52 (by kernel_rfl) rfl) (by omega)
      (fun m os i hi => by
        have hB := below_grow W m os
        have hh := lower1_any w.heap.size (w.heap.size + 1) A cap L s i hi (by omega) (grow (W.drewN m) os) ((hB.cell (p := ⟨w.heap.size, 0, none⟩) hl1).trans hc1) ((hB.cell (p := ⟨w.heap.size + 1, 0, none⟩) hl2).trans hc2) (hRW.below hB)
        refine hh.mono ?_
        rintro e w' ⟨rfl, q, rfl⟩
        refine ⟨by simp [List.getD, List.getElem?_eq_getElem hi], q, #[], by rw [grow_empty]⟩)
      (fun x y hxy hy h => by
        have hx : x < L.length := by omega
        simp only [List.getD, List.getElem?_eq_getElem hx, List.getElem?_eq_getElem hy, Option.getD_some] at h ⊢
        rw [srt_low HS.out s x hx] at h
        rw [srt_low HS.out s y hy]
        simp at h ⊢
        omega)
    rw [hcnt] at h
    refine h.mono ?_
    rintro e w' ⟨rfl, q, os, rfl⟩
    exact ⟨rfl, below_grow W q os⟩
  have HP := Lib.hid hp
  clear hp
  go_enter Try.func24, Try.ntmps24
  go_wp2_with fail
  refine (HP.out _ rfl).mono ?_
  rintro e w1 ⟨rfl, hB⟩
  have HB := Lib.hid (Below.trans (((Below.refl w.heap.size w).alloc (Nat.le_refl _) (.cells #[.slice A L.length cap] 22)).alloc (by simp) (.cells #[.string s] 9)) (hB.mono (by simp; omega)))
  clear hB
  go_wp2_with fail
  go_ret
  exact ⟨rfl, HB.out⟩

set_option maxHeartbeats 400000 in
theorem find_any (A : Option Addr) (cap : Nat) (L : List ByteArray) (hS : Srt L) (s : ByteArray) (hL : L.length ≤ 1000000) (w : World) (hR : Rd Value.string w A L) :
    Calls Try.prog 22 #[.slice A L.length cap, .string s] w fun e w' => e = .returned (.tuple #[.int .i64 ((fd L s).getD 0 : Nat), .bool (fd L s).isSome]) ∧ Below w.heap.size w w' := by
  have hlow := lower_any A cap L hS s hL w hR
  have HR := Lib.hid hR
  have hle := lw_le L s
  obtain ⟨m, hm⟩ : ∃ m, m = lw L s := ⟨_, rfl⟩
  rw [← hm] at hlow hle
  have hfd : fd L s = if L[m]? = some s then some m else none := by rw [hm]; rfl
  have Hfd := Lib.hid hfd
  have Hl := Lib.hid hlow
  clear hR hfd hlow hm
  go_enter Try.func22, Try.ntmps22
  go_wp2_with fail
  refine Hl.out.mono ?_
  rintro e w1 ⟨rfl, hB1⟩
  by_cases hlt : m < L.length
  · obtain ⟨b, off, rfl, hb, hc⟩ := (HR.out.below hB1) m hlt
    have HB := Lib.hid hB1
    have hne : (((m : Nat) : Int) == ((L.length : Nat) : Int)) = false := by simp; omega
    obtain ⟨x, hx⟩ : ∃ x, x = L[m] := ⟨_, rfl⟩
    rw [← hx] at hc
    have Hx : Hid (L[m]? = some x) := Lib.hid (by rw [hx, List.getElem?_eq_getElem hlt])
    clear hx hB1
    by_cases he : x = s
    · subst he
      have Hf : Hid (fd L x = some m) := Lib.hid (by rw [Hfd.out, if_pos Hx.out])
      go_wp2_with fail
      go_ret2
      exact ⟨by rw [Hf.out]; rfl, HB.out⟩
    · have hbe : (x.toList == s.toList) = false := (Lib.bytes_beq_false_iff x s).2 he
      have Hf : Hid (fd L s = none) := Lib.hid (by rw [Hfd.out, if_neg (by rw [Hx.out]; intro e; injection e with e; exact he e)])
      clear he
      go_wp2_with fail
      go_ret2
      exact ⟨by rw [Hf.out]; rfl, HB.out⟩
  · obtain rfl : m = L.length := by omega
    have Hf : Hid (fd L s = none) := Lib.hid (by rw [Hfd.out, if_neg (by rw [List.getElem?_eq_none (Nat.le_refl _)]; intro e; cases e)])
    have HB := Lib.hid hB1
    clear hB1
    go_wp2_with fail
    go_ret2
    exact ⟨by rw [Hf.out]; rfl, HB.out⟩

set_option maxHeartbeats 400000 in
theorem rfind_any (A : Option Addr) (cap : Nat) (L : List ByteArray) (s : ByteArray) (hL : L.length ≤ 1000000) (w : World) (hR : Rd Value.string w A L) :
    Calls Try.prog 23 #[.slice A L.length cap, .string s] w fun e w' => e = .returned (.tuple #[.int .i64 ((fd L s).getD 0 : Nat), .bool (fd L s).isSome]) ∧ Below w.heap.size w w' := by
  have hlow : Calls Try.prog 25 #[.slice A L.length cap, .string s] w fun e w' => e = .returned (.int .i64 (lw L s : Nat)) ∧ Below w.heap.size w w' := (rlower_any A cap L (by omega) s w hR).mono fun e w' ⟨h1, h2⟩ => ⟨h1, h2 ▸ Below.refl _ _⟩
  have HR := Lib.hid hR
  have hle := lw_le L s
  obtain ⟨m, hm⟩ : ∃ m, m = lw L s := ⟨_, rfl⟩
  rw [← hm] at hlow hle
  have hfd : fd L s = if L[m]? = some s then some m else none := by rw [hm]; rfl
  have Hfd := Lib.hid hfd
  have Hl := Lib.hid hlow
  clear hR hfd hlow hm
  go_enter Try.func23, Try.ntmps23
  go_wp2_with fail
  refine Hl.out.mono ?_
  rintro e w1 ⟨rfl, hB1⟩
  by_cases hlt : m < L.length
  · obtain ⟨b, off, rfl, hb, hc⟩ := (HR.out.below hB1) m hlt
    have HB := Lib.hid hB1
    have hne : (((m : Nat) : Int) == ((L.length : Nat) : Int)) = false := by simp; omega
    obtain ⟨x, hx⟩ : ∃ x, x = L[m] := ⟨_, rfl⟩
    rw [← hx] at hc
    have Hx : Hid (L[m]? = some x) := Lib.hid (by rw [hx, List.getElem?_eq_getElem hlt])
    clear hx hB1
    by_cases he : x = s
    · subst he
      have Hf : Hid (fd L x = some m) := Lib.hid (by rw [Hfd.out, if_pos Hx.out])
      go_wp2_with fail
      go_ret2
      exact ⟨by rw [Hf.out]; rfl, HB.out⟩
    · have hbe : (x.toList == s.toList) = false := (Lib.bytes_beq_false_iff x s).2 he
      have Hf : Hid (fd L s = none) := Lib.hid (by rw [Hfd.out, if_neg (by rw [Hx.out]; intro e; injection e with e; exact he e)])
      clear he
      go_wp2_with fail
      go_ret2
      exact ⟨by rw [Hf.out]; rfl, HB.out⟩
  · obtain rfl : m = L.length := by omega
    have Hf : Hid (fd L s = none) := Lib.hid (by rw [Hfd.out, if_neg (by rw [List.getElem?_eq_none (Nat.le_refl _)]; intro e; cases e)])
    have HB := Lib.hid hB1
    clear hB1
    go_wp2_with fail
    go_ret2
    exact ⟨by rw [Hf.out]; rfl, HB.out⟩
end Go.Proofs.Ytoohphhfigiicaa
