/- slices.SortFunc of counters by ranked's closure; SortedFunc; ranked. -/
import Derived.Test.YtnpjakgdfjaglaaGo
import Derived.Test.YtnpjakgdfjaglaaSrt
import Derived.Shelf.SlSortCmp.WholeK
namespace Go.Proofs.Ytnpjakgdfjaglaa
open Go.ChangeShapes Go.WideShapes Go.ChangeAt Go.RowKit Go.Joins Go.Sort Go.Lib Go.Shelf

theorem rk_iff (a b : Ct) : rkl a b = true ↔ b.2 < a.2 ∨ (a.2 = b.2 ∧ bl a.1 b.1 = true) := by unfold rkl; simp
theorem rk_irrefl (a : Ct) : rkl a a = false := by
  cases h : rkl a a with
  | false => rfl
  | true =>
    rcases (rk_iff _ _).1 h with h | ⟨_, h⟩
    · omega
    · rw [bl_irrefl] at h; cases h
theorem rk_trans {a b c : Ct} (h : rkl a b = true) (k : rkl b c = true) : rkl a c = true := by
  rw [rk_iff] at *
  rcases h with h | ⟨e, h⟩ <;> rcases k with k | ⟨f, k⟩
  · exact .inl (by omega)
  · exact .inl (by omega)
  · exact .inl (by omega)
  · exact .inr ⟨e.trans f, bl_trans h k⟩
theorem rk_tri (a b : Ct) : rkl a b = true ∨ a = b ∨ rkl b a = true := by
  rw [rk_iff, rk_iff]
  by_cases h1 : b.2 < a.2
  · exact .inl (.inl h1)
  · by_cases h2 : a.2 < b.2
    · exact .inr (.inr (.inl h2))
    · have e : a.2 = b.2 := by omega
      rcases bl_tri a.1 b.1 with h | h | h
      · exact .inl (.inr ⟨e, h⟩)
      · exact .inr (.inl (Prod.ext h e))
      · exact .inr (.inr (.inr ⟨e.symm, h⟩))
theorem lt_rk (x y : Ct) : ltOf rkI x y = rkl x y := by
  unfold ltOf
  cases h : rkl x y with
  | true => simpa using rk_lt.2 h
  | false =>
    have : ¬ rkI x y < 0 := fun e => by rw [rk_lt.1 e] at h; cases h
    simpa using this
theorem swo_rk : SWO (ltOf rkI) where
  irrefl x := by rw [lt_rk]; exact rk_irrefl x
  trans x y z h1 h2 := by rw [lt_rk] at *; exact rk_trans h1 h2
  ntrans x y z h1 h2 := by
    rw [lt_rk] at *
    cases h : rkl x z with
    | false => rfl
    | true =>
      rcases rk_tri x y with h3 | h3 | h3
      · rw [h3] at h1; cases h1
      · subst h3; rw [h] at h2; cases h2
      · have := rk_trans h3 h; rw [this] at h2; cases h2
theorem flat_ct (L : List Ct) (j : Nat) (hj : j < L.length * 2) : (ctCells L)[j]? = some ((flatK ctC 2 L.toArray)[j]!) := by
  have h := flat_get ctC 2 (fun _ => rfl) L (j / 2) (by omega) (j % 2) (Nat.mod_lt _ (by decide))
  rw [show j / 2 * 2 + j % 2 = j by omega] at h
  unfold ctCells
  rw [h, get_flatK _ _ _ _ (by simpa using hj)]
  have e : L.toArray[j / 2]! = L[j / 2]'(by omega) := by simp [getElem!_pos, show j / 2 < L.length by omega]
  rw [e]
  rcases Nat.mod_two_eq_zero_or_one j with h2 | h2 <;> rw [h2] <;> rfl
theorem grown_sort {w : World} {g n : Nat} {os : Array Obj} (d : Array Ct) : w.grownBy (sortWorldK ctC 2 w g 0 n d os) (some g) := by
  unfold sortWorldK putRowK
  refine ⟨rfl, rfl, rfl, by simp, fun k hk hne => ?_⟩
  rw [heap_grow_old _ _ (by simpa using hk)]
  have : g ≠ k := fun e => hne (by rw [e])
  simp [putRow, mapBlock, Sort.ahead, Array.getElem?_modify, this]
set_option maxHeartbeats 1000000 in
theorem sortc_any (base : Nat) (g cap : Nat) (L : List Ct) (hl : L.length ≤ 1000000) (w : World) (hown : w.ownsRow base 27 2 (.slice (some ⟨g, 0, none⟩) L.length cap) L.length (ctCells L)) :
    Calls Try.prog 64 #[.slice (some ⟨g, 0, none⟩) L.length cap, .func (.func 57) #[] #[]] w fun e w' => e = .returned (.tuple #[]) ∧ ∃ D : List Ct, D.Perm L ∧ D.Pairwise (fun x y => rkl y x = false) ∧ Rs w' w'.heap.size (some ⟨g, 0, none⟩) (ctCells D) ∧ w.grownBy w' (some g) := by
  have eg : ∀ args w, (callFunc 57 args).run Try.prog w = .ok (.enter 57 args) w := enters_of Try.func57 (by kernel_rfl) rfl
  obtain ⟨A, c, e, hnc, hR, _⟩ := rs_own hown
  injection e with e1 e2 e3
  subst e1 e3
  have hblk : g < w.heap.size := by
    rcases hown.2 with ⟨h, _⟩ | ⟨g', cap', cur, h, _, hg, _⟩
    · cases h
    · cases h; exact (Array.getElem?_eq_some_iff.1 hg).1
  have hH : HoldsK ctC 2 w g 0 L.toArray := fun j hj => by
    have hj2 : j < L.length * 2 := by simpa using hj
    have h1 := flat_ct L j hj2
    obtain ⟨hlt, he⟩ := List.getElem?_eq_some_iff.1 h1
    obtain ⟨b, off, eA, hb, hc⟩ := hR j hlt
    cases eA
    exact ⟨by rw [hc, he]; rfl, by rw [Nat.zero_add]; exact hown.frozenAt j⟩
  have hcmp : CmpLays Try.prog 57 #[] ctC 2 rkI g 0 L.toArray.size w := fun _ _ _ _ x y => rk_any x.2 y.2 x.1 y.1 _
  have hcon := AnyQ.slices_SortFunc Try.sortIv 2 Try.isAgg27 Try.sizeOf27 ctC (fun _ => rfl) (fun x v hv => by simp [ctC] at hv; rcases hv with rfl | rfl <;> rfl) rkI swo_rk 57 #[] g 0 cap L.toArray w eg hcmp hH hblk (by simp; omega)
  change Calls Try.prog 64 #[.slice (some ⟨g, 0, none⟩) L.toArray.size cap, .func (.func 57) #[] #[]] _ _ at hcon
  rw [List.size_toArray] at hcon
  refine hcon.mono ?_
  rintro e w' ⟨rfl, d', n, os, hp, hs, rfl⟩
  have hsz : d'.size = L.length := by have := hp.1; simpa using this
  refine ⟨rfl, d'.toList, ?_, ?_, ?_, grown_sort d'⟩
  · have h := hp.2.2
    have e : d'.toList.take L.length = d'.toList := List.take_of_length_le (by simp [hsz])
    simp at h
    rwa [e] at h
  · refine List.pairwise_iff_getElem.2 (fun i j hi hj hij => ?_)
    have h := hs i j (Nat.zero_le _) hij (by simpa [hsz] using hj)
    rw [lt_rk, getElem!_pos d' j (by simpa using hj), getElem!_pos d' i (by simpa using hi)] at h
    simpa using h
  · intro j hj
    have hj2 : j < d'.toList.length * 2 := by rw [← ct_len]; exact hj
    have h1 := flat_ct d'.toList j hj2
    obtain ⟨hlt, he⟩ := List.getElem?_eq_some_iff.1 h1
    refine ⟨g, 0, rfl, by have := (grown_sort (w := w) (g := g) (n := n) (os := os) d').size; omega, ?_⟩
    have h2 := cell?_putRow id (Sort.ahead w n) g 0 (flatK ctC 2 L.toArray) (flatK ctC 2 d') hH (by simp [hsz]) j (by simp; simpa using hj2)
    rw [he, Array.toArray_toList]
    have h3 : (sortWorldK ctC 2 w g 0 n d' os).cell? ⟨g, 0 + j, none⟩ = (putRowK ctC 2 (Sort.ahead w n) g 0 d').cell? ⟨g, 0 + j, none⟩ := World.cell?_of_block (a := ⟨g, 0 + j, none⟩) (heap_grow_old _ _ (by unfold putRowK; simpa using hblk))
    rw [h3]
    exact h2
theorem collect_any (Bs : Nat) (A : Option Addr) (c : Nat) (L : List Ct) (hl : L.length ≤ 1000000) (w : World) (hb : Bs < w.heap.size) (hBs : w.cell? ⟨Bs, 0, none⟩ = some (.slice A L.length c)) (hR : CR w A L) :
    Calls Try.prog 63 #[.func (.func 65) #[] #[.pointer (some ⟨Bs, 0, none⟩)]] w fun e W' => ∃ v, e = .returned v ∧ W'.ownsRow w.heap.size 27 2 v L.length (ctCells L) ∧ Below w.heap.size w W' := by
  have HA := Lib.hid (append_in Bs A c L hl w hb hBs hR)
  clear hBs hR
  go_enter Try.func63, Try.ntmps63
  go_wp2_with fail
  refine HA.out.mono ?_
  rintro e w1 ⟨v, rfl, h1, h2⟩
  go_wp2_with fail
  go_ret
  exact ⟨v, rfl, h1, h2⟩
end Go.Proofs.Ytnpjakgdfjaglaa
