/- keys(): a map's keys in order. -/
import Derived.Test.YtnpjakgdfjaglaaIter
import Derived.Test.YtnpjakgdfjaglaaGf
namespace Go.Proofs.Ytnpjakgdfjaglaa
open Go.ChangeShapes Go.WideShapes Go.ChangeAt Go.RowKit Go.Joins Go.Maps Go.ChangeMaps Go.MapKept Go.Sort Go.Shelf

theorem sortsK (m : Nat) : AnyZ.SortsIn Try.prog Try.sorted61_ren Fence.wide m :=
  ⟨fun blk off cap ss W hH hblk hsz => callsIn_wide.2 (AnyM.slices_Sort_string Try.sort69 blk off cap ss W hH hblk hsz), fun p cap W => callsIn_wide.2 (AnyM.slices_Sort_string_none Try.sort69 p cap W)⟩
/-- The keys as values. -/
def kV (L : List Ct) : List Value := L.map fun p => .string p.1
set_option maxHeartbeats 1000000 in
theorem keys_any (b : Nat) (L : List Ct) (hl : L.length ≤ 1000000) (w : World) (h : Hm w b L) :
    Calls Try.prog 53 #[.map (some b)] w fun e w' => ∃ v, e = .returned v ∧ w'.ownsRow w.heap.size 9 1 v L.length (kV L) ∧ Below w.heap.size w w' := by
  obtain ⟨D, hown, ht, hS⟩ := h
  have hsz := ht.2.1
  have hbl := hown.lt
  have hseq : SeqGives Fence.wide 2 Try.prog 70 #[.pointer (some ⟨w.heap.size, 0, none⟩)] encStr (fun ss => ss.Perm (strKeys D)) (Maps.size D) (w.alloc (.cells #[.map (some b)] 71)) :=
    AnyZ.keys_gives (ρ := Try.keys62_ren) { Try.keys62 with } Fence.wide _ trivial rfl (by omega) w.heap.size b L.length D _ (by simp) (by simp) (by
      obtain ⟨es, clock, hb, Ft, hs, hD⟩ := hown
      exact ⟨es, clock, (Below.heap_alloc _ _ b hbl).trans hb, Ft, hs, hD⟩)
  have hc := AnyZ.sorted_in Try.sorted61 Fence.wide 5 trivial trivial trivial trivial rfl (by omega) (sortsK _) (enters_of Try.func69 (by kernel_rfl) rfl) 70 #[.pointer (some ⟨w.heap.size, 0, none⟩)] trivial (enters_of Try.func70 (by kernel_rfl) rfl) _ _ (by rw [hsz]; unfold maxLen; omega) (by rw [hsz]; omega) _ hseq
  refine (callsIn_wide (n := 6)).1 ?_
  have hfK : Fence.wide.fn 62 := trivial
  have hfS : Fence.wide.fn 61 := trivial
  refine callsIn_of_wp Try.func53 rfl trivial ?_ rfl
  simp only [Try.ntmps53, List.size_toArray, List.length_cons, List.length_nil, Nat.reduceAdd, Nat.reduceSub, Array.replicate_succ, Array.replicate_zero, List.push_toArray, List.append_toArray, List.nil_append, List.cons_append]
  gi_wp2_with (first
    | (gi_at_call 62; refine (AnyZ.keys_in Try.keys62 Fence.wide 5 trivial rfl (some b) _).mono ?_; rintro e w' ⟨rfl, rfl⟩)
    | (gi_at_call 61; refine hc.mono ?_; rintro e w' ⟨v, ss, rfl, hS', hrow, hnil, hb⟩))
  go_ret
  have hk : ∀ es, D = .map es → ∀ p ∈ es, ∃ x, p.1 = .string x := fun es e p hp => by
    obtain ⟨es', hD', hko⟩ := hown.keysOf
    obtain rfl : es = es' := by rw [e] at hD'; simpa using hD'
    obtain ⟨v, hv⟩ := hko p hp
    obtain ⟨x, _, hx, _⟩ := Maps.keyOf_str Try.underlying9 hv
    exact ⟨x, hx⟩
  have hso := tl_keys ht hS hk hS'
  have hlen : ss.length = L.length := by
    have := congrArg List.length hso
    simpa [List.length_mergeSort] using this
  refine ⟨v, rfl, ?_, ((Below.refl _ w).alloc (Nat.le_refl _) _).trans (hb.mono (by simp))⟩
  have hr : w'.ownsRow w.heap.size 9 1 v ss.length ((ss.mergeSort (fun x y => decide (x ≤ y))).map encStr) := ownsRow_base_a hrow (by simp)
  rw [hso, hlen] at hr
  rw [show kV L = (L.map fun p => p.1.data.toList).map encStr by simp [kV, encStr]]
  exact hr
end Go.Proofs.Ytnpjakgdfjaglaa
