/- slices.SortFunc at intervals, by their beginnings. -/
import Derived.Test.YtkjpficpkpfkdaaNm
import Derived.Test.YtkjpficpkpfkdaaSrt
import Derived.Shelf.SlSortCmp.WholeK
import Derived.Test.YtkjpficpkpfkdaaShelf
namespace Go.Proofs.Ytkjpficpkpfkdaa
open Go.ChangeShapes Go.WideShapes Go.ChangeAt Go.RowKit Ts Go.Sort Go.Lib Go.Shelf

abbrev cfI : Iv → Iv → Int := fun x y => Lib.compareInt x.1 y.1
theorem lt_cf (x y : Iv) : ltOf cfI x y = decide (x.1 < y.1) := by
  unfold ltOf cfI Lib.compareInt
  by_cases h1 : x.1 < y.1
  · simp [h1]
  · by_cases h2 : y.1 < x.1 <;> simp [h1, h2]
theorem swo_cf : SWO (ltOf cfI) where
  irrefl x := by rw [lt_cf]; simp
  trans x y z h1 h2 := by rw [lt_cf] at *; simp at *; omega
  ntrans x y z h1 h2 := by rw [lt_cf] at *; simp at *; omega
set_option maxHeartbeats 1000000 in
theorem sort_cl (x y : Iv) (W : World) : Calls Try.prog 52 #[.agg #[.int .i64 x.1, .int .i64 x.2], .agg #[.int .i64 y.1, .int .i64 y.2]] W fun e w' => e = .returned (.int .i64 (Lib.compareInt x.1 y.1)) ∧ ∃ q os', w' = grow (W.drewN q) os' := by
  have hcon := fun W' => Try.cmp_Compare_int x.1 y.1 W'
  generalize Lib.compareInt x.1 y.1 = r at hcon ⊢
  go_enter Try.func52, Try.ntmps52
  go_wp2_with (go_at_call 53; refine (hcon _).mono ?_; rintro e w' ⟨rfl, rfl⟩)
  go_ret
  exact ⟨rfl, 0, _, by rw [alloc_eq_grow, alloc_eq_grow, grow_grow]; rfl⟩
theorem flat_iv (L : List Iv) (j : Nat) (hj : j < L.length * 2) : (ivCells L)[j]? = some ((flatK ivC 2 L.toArray)[j]!) := by
  have h := flat_get ivC 2 (fun _ => rfl) L (j / 2) (by omega) (j % 2) (Nat.mod_lt _ (by decide))
  rw [show j / 2 * 2 + j % 2 = j by omega] at h
  unfold ivCells
  rw [h, get_flatK _ _ _ _ (by simpa using hj)]
  have e : L.toArray[j / 2]! = L[j / 2]'(by omega) := by simp [getElem!_pos, show j / 2 < L.length by omega]
  rw [e]
  rcases Nat.mod_two_eq_zero_or_one j with h2 | h2 <;> rw [h2] <;> rfl
theorem grown_sort {w : World} {g n : Nat} {os : Array Obj} (d : Array Iv) : w.grownBy (sortWorldK ivC 2 w g 0 n d os) (some g) := by
  unfold sortWorldK putRowK
  refine ⟨rfl, rfl, rfl, by simp, fun k hk hne => ?_⟩
  rw [heap_grow_old _ _ (by simpa using hk)]
  have : g ≠ k := fun e => hne (by rw [e])
  simp [putRow, mapBlock, Sort.ahead, Array.getElem?_modify, this]
set_option maxHeartbeats 1000000 in
theorem sort_any (base : Nat) (g cap : Nat) (L : List Iv) (hl : L.length ≤ 1000000) (w : World) (hown : w.ownsRow base 25 2 (.slice (some ⟨g, 0, none⟩) L.length cap) L.length (ivCells L)) :
    Calls Try.prog 51 #[.slice (some ⟨g, 0, none⟩) L.length cap, .func (.func 52) #[] #[]] w fun e w' => e = .returned (.tuple #[]) ∧ ∃ D : List Iv, D.Perm L ∧ D.Pairwise (fun x y => x.1 ≤ y.1) ∧ Rs w' w'.heap.size (some ⟨g, 0, none⟩) (ivCells D) ∧ w.grownBy w' (some g) := by
  have eg : ∀ args w, (callFunc 52 args).run Try.prog w = .ok (.enter 52 args) w := enters_of Try.func52 (by kernel_rfl) rfl
  obtain ⟨A, c, e, hnc, hR, _⟩ := rs_own hown
  injection e with e1 e2 e3
  subst e1 e3
  have hblk : g < w.heap.size := by
    rcases hown.2 with ⟨h, _⟩ | ⟨g', cap', cur, h, _, hg, _⟩
    · cases h
    · cases h; exact (Array.getElem?_eq_some_iff.1 hg).1
  have hH : HoldsK ivC 2 w g 0 L.toArray := fun j hj => by
    have hj2 : j < L.length * 2 := by simpa using hj
    have h1 := flat_iv L j hj2
    obtain ⟨hlt, he⟩ := List.getElem?_eq_some_iff.1 h1
    obtain ⟨b, off, eA, hb, hc⟩ := hR j hlt
    cases eA
    exact ⟨by rw [hc, he]; rfl, by rw [Nat.zero_add]; exact hown.frozenAt j⟩
  have hcmp : CmpLays Try.prog 52 #[] ivC 2 cfI g 0 L.toArray.size w := fun _ _ _ _ x y => sort_cl x y _
  have hcon := AnyQ.slices_SortFunc Try.sortIv 2 Try.isAgg25 Try.sizeOf25 ivC (fun _ => rfl) (fun x v hv => by simp [ivC] at hv; rcases hv with rfl | rfl <;> rfl) cfI swo_cf 52 #[] g 0 cap L.toArray w eg hcmp hH hblk (by simp; omega)
  change Calls Try.prog 51 #[.slice (some ⟨g, 0, none⟩) L.toArray.size cap, .func (.func 52) #[] #[]] _ _ at hcon
  rw [List.size_toArray] at hcon
  refine hcon.mono ?_
  rintro e w' ⟨rfl, d', n, os, hp, hs, rfl⟩
  have hsz : d'.size = L.length := by have := hp.1; simpa using this
  refine ⟨rfl, d'.toList, ?_, ?_, ?_, grown_sort d'⟩
  · have h := hp.2.2
    have e : d'.toList.take L.length = d'.toList := List.take_of_length_le (by simp [hsz])
    simp at h
    rwa [e] at h
  · refine List.pairwise_iff_getElem.2 (fun i j hi hj hij => ?_)
    have h := hs i j (Nat.zero_le _) hij (by simpa [hsz] using hj)
    rw [lt_cf, getElem!_pos d' j (by simpa using hj), getElem!_pos d' i (by simpa using hi)] at h
    simp at h ⊢
    omega
  · intro j hj
    have hj2 : j < d'.toList.length * 2 := by rw [← iv_cells_len]; exact hj
    have h1 := flat_iv d'.toList j hj2
    obtain ⟨hlt, he⟩ := List.getElem?_eq_some_iff.1 h1
    refine ⟨g, 0, rfl, by have := (grown_sort (w := w) (g := g) (n := n) (os := os) d').size; omega, ?_⟩
    have h2 := cell?_putRow id (Sort.ahead w n) g 0 (flatK ivC 2 L.toArray) (flatK ivC 2 d') hH (by simp [hsz]) j (by simp; simpa using hj2)
    rw [he, Array.toArray_toList]
    have h3 : (sortWorldK ivC 2 w g 0 n d' os).cell? ⟨g, 0 + j, none⟩ = (putRowK ivC 2 (Sort.ahead w n) g 0 d').cell? ⟨g, 0 + j, none⟩ := World.cell?_of_block (a := ⟨g, 0 + j, none⟩) (heap_grow_old _ _ (by unfold putRowK; simpa using hblk))
    rw [h3]
    exact h2
set_option maxRecDepth 100000 in
set_option maxHeartbeats 1000000 in
theorem insertion_none (p : Option Addr) (cap : Nat) (w : World) :
    Calls Try.prog 75 #[.slice p 0 cap, .int .i64 0, .int .i64 0, .func (.func 52) #[] #[]] w fun e w' => e = .returned (.tuple #[]) ∧ w' = w := by
  go_enter Try.func75, Try.ntmps75
  go_wp2_with fail
  refine wp_loop_rounds 1 ?_
  rw [rounds_succ]
  go_wp2_with fail
  go_end0
  exact ⟨rfl, rfl⟩
set_option maxRecDepth 100000 in
set_option maxHeartbeats 1000000 in
theorem pdq_none (p : Option Addr) (cap : Nat) (lim : Int) (w : World) :
    Calls Try.prog 69 #[.slice p 0 cap, .int .i64 0, .int .i64 0, .int .i64 lim, .func (.func 52) #[] #[]] w fun e w' => e = .returned (.tuple #[]) ∧ w' = w := by
  go_enter Try.func69, Try.ntmps69
  go_wp2_with fail
  refine wp_loop_rounds 1 ?_
  rw [rounds_succ]
  go_wp2_with fail
  refine (insertion_none p cap _).mono ?_
  rintro e w' ⟨rfl, rfl⟩
  go_wp2_with fail
  (try simp only [Exit.inBlock, Exit.then]); refine bodyPost_ret (results_none rfl _ _ _) rfl ?_
  exact ⟨rfl, rfl⟩
set_option maxRecDepth 100000 in
set_option maxHeartbeats 1000000 in
theorem sort_none (p : Option Addr) (cap : Nat) (w : World) :
    Calls Try.prog 51 #[.slice p 0 cap, .func (.func 52) #[] #[]] w fun e w' => e = .returned (.tuple #[]) ∧ w' = w := by
  have hbl := Lib.hid (Try.bits_Len (0 : Int) w (by omega) (by omega))
  go_enter Try.func51, Try.ntmps51
  go_wp2_with fail
  refine hbl.out.mono ?_
  rintro e w1 ⟨rfl, rfl⟩
  go_wp2_with fail
  refine (pdq_none p cap _ _).mono ?_
  rintro e w' ⟨rfl, rfl⟩
  go_wp2_with fail
  go_end0
  exact ⟨rfl, rfl⟩
end Go.Proofs.Ytkjpficpkpfkdaa
