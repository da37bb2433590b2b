/- The calls of the law of the full dictionary. -/
import Derived.Test.YtoohphhfigiicaaFp
import Derived.Test.YtoohphhfigiicaaM
import Derived.Test.YtoohphhfigiicaaR
namespace Go.Proofs.Ytoohphhfigiicaa
open Go.ChangeShapes Go.WideShapes Go.ChangeAt Go.RowKit Dp

theorem sz_two {L : List ByteArray} (h : ∀ x ∈ L, x.size = 2) : ∀ x ∈ L, x.size ≤ 9223372036854775807 := fun x hx => by rw [h x hx]; decide
theorem build_full (F : List ByteArray) (hlen : F.length = 4096) (hF : ∀ x ∈ F, x.size = 2) (r : Nat) (hr : r ≤ 255) (h : bdE (F ++ F.take r) = 0 ∧ bdV (F ++ F.take r) = F) (A : Option Addr) (c : Nat) (w : World) (hR : Rd Value.string w A (F ++ F.take r)) :
    Calls Try.prog 15 #[.slice A (4096 + r) c] w fun e w' => (∃ A2 c2, e = .returned (.tuple #[.slice A2 4096 c2, .int .i64 0]) ∧ Rd Value.string w' A2 F) ∧ Below w.heap.size w w' := by
  have hl : (F ++ F.take r).length = 4096 + r := by rw [List.length_append, List.length_take, hlen]; omega
  have H := build_any A c (F ++ F.take r) (by omega) (sz_two (fun x hx => (List.mem_append.1 hx).elim (hF x) (fun h => hF x (List.mem_of_mem_take h)))) w hR
  rw [h.1, h.2, hl] at H
  refine H.mono ?_
  rintro e w2 ⟨⟨A2, c2, rfl, _, _, hr2⟩, hb⟩
  rw [hlen]
  exact ⟨⟨A2, c2, rfl, hr2⟩, hb⟩
theorem build_over (M : List ByteArray) (hlen : M.length = 4097) (hM : ∀ x ∈ M, x.size = 2) (h : bdE M = 6 ∧ bdV M = []) (A : Option Addr) (c : Nat) (w : World) (hR : Rd Value.string w A M) :
    Calls Try.prog 15 #[.slice A 4097 c] w fun e w' => (∃ A2 c2, e = .returned (.tuple #[.slice A2 0 c2, .int .i64 6])) ∧ Below w.heap.size w w' := by
  have H := build_any A c M (by omega) (sz_two hM) w hR
  rw [h.1, h.2, hlen] at H
  refine H.mono ?_
  rintro e w2 ⟨⟨A2, c2, rfl, _, _, _⟩, hb⟩
  exact ⟨⟨A2, c2, rfl⟩, hb⟩
theorem check_over (M : List ByteArray) (hlen : M.length = 4097) (hM : ∀ x ∈ M, x.size = 2) (h : chk M = 6) (A : Option Addr) (c : Nat) (w : World) (hR : Rd Value.string w A M) :
    Calls Try.prog 17 #[.slice A 4097 c] w fun e w' => e = .returned (.int .i64 6) ∧ Below w.heap.size w w' := by
  have H := check_any A c M (by omega) (sz_two hM) w hR
  rw [h, hlen] at H
  exact H
theorem merge_over (F : List ByteArray) (x : ByteArray) (hlen : F.length = 4096) (hM : ∀ y ∈ F ++ [x], y.size = 2) (h : bdE (F ++ [x]) = 6 ∧ bdV (F ++ [x]) = []) (A B : Option Addr) (c d : Nat) (hA : Addressed A c) (hB : Addressed B d) (hc : 4096 ≤ c) (hd : 1 ≤ d) (w : World) (hR : Rd Value.string w A F) (hR2 : Rd Value.string w B [x]) :
    Calls Try.prog 20 #[.slice A 4096 c, .slice B 1 d] w fun e w' => (∃ A2 c2 A3 c3 A4 c4, e = .returned (.tuple #[.slice A2 0 c2, .slice A3 0 c3, .slice A4 0 c4, .int .i64 6])) ∧ Below w.heap.size w w' := by
  have H := merge_any A B c d F [x] (by omega) (by simp) (sz_two hM) hA hB (by omega) (by simpa using hd) w hR hR2
  rw [h.1, h.2, hlen] at H
  refine H.mono ?_
  rintro e w2 ⟨⟨A2, c2, A3, c3, A4, c4, rfl, _⟩, hb⟩
  exact ⟨⟨A2, c2, A3, c3, A4, c4, rfl⟩, hb⟩
theorem same_full (F : List ByteArray) (hlen : F.length = 4096) (A B : Option Addr) (c d : Nat) (w : World) (hR : Rd Value.string w A F) (hR2 : Rd Value.string w B F) :
    Calls Try.prog 19 #[.slice A 4096 c, .slice B 4096 d] w fun e w' => e = .returned (.bool true) ∧ Below w.heap.size w w' := by
  have H := same_any A B c d F F (by omega) (by omega) w hR hR2
  rw [hlen, show decide (F = F) = true from decide_eq_true rfl] at H
  exact H
end Go.Proofs.Ytoohphhfigiicaa
