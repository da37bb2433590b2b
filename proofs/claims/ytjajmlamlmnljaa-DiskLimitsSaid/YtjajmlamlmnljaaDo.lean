/- names, List. -/
import Derived.Test.YtjajmlamlmnljaaIter
import Derived.Test.YtjajmlamlmnljaaDn
namespace Go.Proofs.Ytjajmlamlmnljaa
open Go.ChangeShapes Go.WideShapes Go.ChangeAt Go.RowKit Go.Joins Go.Maps Go.ChangeMaps Go.MapKept Go.Sort Go.Shelf

theorem sortsK (m : Nat) : AnyZ.SortsIn Try.prog Try.sortedB_ren Fence.wide m :=
  ⟨fun blk off cap ss W hH hblk hsz => callsIn_wide.2 (AnyM.slices_Sort_string Try.sortC blk off cap ss W hH hblk hsz), fun p cap W => callsIn_wide.2 (AnyM.slices_Sort_string_none Try.sortC p cap W)⟩
/-- The names as values. -/
def kV {β : Type} (L : List (Ct β)) : List Value := L.map fun p => .string p.1
theorem kV_mv {β γ : Type} (f : β → γ) (L : List (Ct β)) : kV (mv f L) = kV L := by unfold kV mv; rw [List.map_map]; rfl
set_option maxRecDepth 100000 in
set_option maxHeartbeats 2000000 in
theorem names_some (B p : Nat) (S : Ds) (hl : S.fs.length ≤ 1000000) (w : World) (hD : Dk w B p S) (b : Nat) (hb : S.mp = some b) :
    Calls Try.prog 40 #[.pointer (some ⟨p, 0, none⟩)] w fun e w' => ∃ v, e = .returned v ∧ w'.ownsRow w.heap.size 9 1 v S.fs.length (kV S.fs) ∧ Below w.heap.size w w' := by
  obtain ⟨D, hown, ht, hS⟩ := (hD.map b hb).2
  have hLl : (mv Prod.fst S.fs).length = S.fs.length := by simp [mv]
  have hsz := ht.2.1
  have hbl := hown.lt
  have c1 := cell_of_row _ _ 1 _ _ _ hD.blk
  simp [Ds.row] at c1
  rw [hb] at c1
  have hseq : SeqGives Fence.wide 2 Try.prog 61 #[.pointer (some ⟨w.heap.size, 0, none⟩)] encStr (fun ss => ss.Perm (strKeys D)) (Maps.size D) (w.alloc (.cells #[.map (some b)] 63)) :=
    AnyZ.keys_gives (ρ := Try.keysA_ren) { Try.keysA with } Fence.wide _ trivial rfl (by omega) w.heap.size b (mv Prod.fst S.fs).length D _ (by simp) (by simp) (by
      obtain ⟨es, clock, hb, Ft, hs, hD⟩ := hown
      exact ⟨es, clock, (Below.heap_alloc _ _ b hbl).trans hb, Ft, hs, hD⟩)
  have hc := AnyZ.sorted_in Try.sortedB Fence.wide 5 trivial trivial trivial trivial rfl (by omega) (sortsK _) (enters_of Try.func60 (by kernel_rfl) rfl) 61 #[.pointer (some ⟨w.heap.size, 0, none⟩)] trivial (enters_of Try.func61 (by kernel_rfl) rfl) _ _ (by rw [hsz, hLl]; unfold maxLen; omega) (by rw [hsz, hLl]; omega) _ hseq
  refine (callsIn_wide (n := 6)).1 ?_
  have hfK : Fence.wide.fn 56 := trivial
  have hfS : Fence.wide.fn 55 := trivial
  refine callsIn_of_wp Try.func40 rfl trivial ?_ rfl
  simp only [Try.ntmps40, List.size_toArray, List.length_cons, List.length_nil, Nat.reduceAdd, Nat.reduceSub, Array.replicate_succ, Array.replicate_zero, List.push_toArray, List.append_toArray, List.nil_append, List.cons_append]
  gi_wp2_with (first
    | (gi_at_call 56; refine (AnyZ.keys_in Try.keysA Fence.wide 5 trivial rfl (some b) _).mono ?_; rintro e w' ⟨rfl, rfl⟩)
    | (gi_at_call 55; refine hc.mono ?_; rintro e w' ⟨v, ss, rfl, hS', hrow, hnil, hb⟩))
  go_ret
  have hk : ∀ es, D = .map es → ∀ p ∈ es, ∃ x, p.1 = .string x := fun es e p hp => by
    obtain ⟨es', hD', hko⟩ := hown.keysOf
    obtain rfl : es = es' := by rw [e] at hD'; simpa using hD'
    obtain ⟨v, hv⟩ := hko p hp
    obtain ⟨x, _, hx, _⟩ := Maps.keyOf_str Try.underlying9 hv
    exact ⟨x, hx⟩
  have hso := tl_keys ht hS hk hS'
  have hlen : ss.length = S.fs.length := by
    have := congrArg List.length hso
    simp only [List.length_mergeSort, List.length_map] at this
    rw [this, hLl]
  refine ⟨v, rfl, ?_, ((Below.refl _ w).alloc (Nat.le_refl _) _).trans (hb.mono (by simp))⟩
  have hr : w'.ownsRow w.heap.size 9 1 v ss.length ((ss.mergeSort (fun x y => decide (x ≤ y))).map encStr) := ownsRow_base_a hrow (by simp)
  rw [hso, hlen] at hr
  rw [← kV_mv Prod.fst S.fs, show kV (mv Prod.fst S.fs) = ((mv Prod.fst S.fs).map fun p => p.1.data.toList).map encStr by simp [kV, encStr]]
  exact hr
set_option maxRecDepth 100000 in
set_option maxHeartbeats 2000000 in
theorem names_none (B p : Nat) (S : Ds) (w : World) (hD : Dk w B p S) (hb : S.mp = none) :
    Calls Try.prog 40 #[.pointer (some ⟨p, 0, none⟩)] w fun e w' => ∃ v, e = .returned v ∧ w'.ownsRow w.heap.size 9 1 v S.fs.length (kV S.fs) ∧ Below w.heap.size w w' := by
  have c1 := cell_of_row _ _ 1 _ _ _ hD.blk
  simp [Ds.row] at c1
  rw [hb] at c1
  have hnil0 := hD.non hb
  have hseq : SeqGives Fence.wide 2 Try.prog 61 #[.pointer (some ⟨w.heap.size, 0, none⟩)] encStr (fun ss : List (List UInt8) => ss = []) 0 (w.alloc (.cells #[.map none] 63)) :=
    AnyZ.keys_gives_nil (ρ := Try.keysA_ren) { Try.keysA with } Fence.wide _ trivial rfl w.heap.size _ (by simp) (by simp)
  have hc := AnyZ.sorted_in Try.sortedB Fence.wide 5 trivial trivial trivial trivial rfl (by omega) (sortsK _) (enters_of Try.func60 (by kernel_rfl) rfl) 61 #[.pointer (some ⟨w.heap.size, 0, none⟩)] trivial (enters_of Try.func61 (by kernel_rfl) rfl) _ _ (by unfold maxLen; omega) (by omega) _ hseq
  refine (callsIn_wide (n := 6)).1 ?_
  have hfK : Fence.wide.fn 56 := trivial
  have hfS : Fence.wide.fn 55 := trivial
  refine callsIn_of_wp Try.func40 rfl trivial ?_ rfl
  simp only [Try.ntmps40, List.size_toArray, List.length_cons, List.length_nil, Nat.reduceAdd, Nat.reduceSub, Array.replicate_succ, Array.replicate_zero, List.push_toArray, List.append_toArray, List.nil_append, List.cons_append]
  gi_wp2_with (first
    | (gi_at_call 56; refine (AnyZ.keys_in Try.keysA Fence.wide 5 trivial rfl none _).mono ?_; rintro e w' ⟨rfl, rfl⟩)
    | (gi_at_call 55; refine hc.mono ?_; rintro e w' ⟨v, ss, rfl, hS', hrow, hnil, hb⟩))
  go_ret
  refine ⟨v, rfl, ?_, ((Below.refl _ w).alloc (Nat.le_refl _) _).trans (hb.mono (by simp))⟩
  have hr : w'.ownsRow w.heap.size 9 1 v ss.length ((ss.mergeSort (fun x y => decide (x ≤ y))).map encStr) := ownsRow_base_a hrow (by simp)
  rw [hS'] at hr
  rw [hnil0]
  simpa [kV] using hr
theorem names_any (B p : Nat) (S : Ds) (hl : S.fs.length ≤ 1000000) (w : World) (hD : Dk w B p S) :
    Calls Try.prog 40 #[.pointer (some ⟨p, 0, none⟩)] w fun e w' => ∃ v, e = .returned v ∧ w'.ownsRow w.heap.size 9 1 v S.fs.length (kV S.fs) ∧ Below w.heap.size w w' := by
  have hor : S.mp = none ∨ ∃ b, S.mp = some b := by cases S.mp <;> simp
  rcases hor with hm | ⟨b, hm⟩
  · exact names_none B p S w hD hm
  · exact names_some B p S hl w hD b hm
end Go.Proofs.Ytjajmlamlmnljaa
