/- Reading a sketch: Size, Seed, Exact, Least, Keys, Clone; an exact sketch's Distinct. -/
import Derived.Test.YtajainkaomkbjaaBk
namespace Go.Proofs.Ytajainkaomkbjaa
open Go.ChangeShapes Go.WideShapes Go.ChangeAt Go.RowKit Go.Joins Bt

section
variable {g : Nat} {n sd : Int} {x : List Ky × Bool}
theorem size_any (w : World) (h : Sk w g n sd x) : Calls Try.prog 37 #[.pointer (some ⟨g, 0, none⟩)] w fun e w' => e = .returned (.int .i64 n) ∧ w = w' := by
  obtain ⟨v, _, h⟩ := h
  have c := cell_of_row w g 0 _ _ _ h
  have hl := (Array.getElem?_eq_some_iff.1 h).1
  simp at c
  clear h
  go_enter Try.func37, Try.ntmps37
  go_wp2_with fail
  go_ret
  exact ⟨rfl, rfl⟩
theorem seed_any (w : World) (h : Sk w g n sd x) : Calls Try.prog 38 #[.pointer (some ⟨g, 0, none⟩)] w fun e w' => e = .returned (.int .i64 sd) ∧ w = w' := by
  obtain ⟨v, _, h⟩ := h
  have c := cell_of_row w g 1 _ _ _ h
  have hl := (Array.getElem?_eq_some_iff.1 h).1
  simp at c
  clear h
  go_enter Try.func38, Try.ntmps38
  go_wp2_with fail
  go_ret
  exact ⟨rfl, rfl⟩
theorem exact_any (w : World) (h : Sk w g n sd x) : Calls Try.prog 31 #[.pointer (some ⟨g, 0, none⟩)] w fun e w' => e = .returned (.bool (!x.2)) ∧ w = w' := by
  obtain ⟨v, _, h⟩ := h
  have c := cell_of_row w g 3 _ _ _ h
  have hl := (Array.getElem?_eq_some_iff.1 h).1
  simp at c
  clear h
  go_enter Try.func31, Try.ntmps31
  go_wp2_with fail
  go_ret
  exact ⟨rfl, rfl⟩
theorem least_any (w : World) (h : Sk w g n sd x) (hl : x.1.length ≤ 1000000) : Calls Try.prog 30 #[.pointer (some ⟨g, 0, none⟩)] w fun e w' => e = .returned (.int .i64 ((x.1.length : Int) + if x.2 = true then 1 else 0)) ∧ w = w' := by
  obtain ⟨L, m⟩ := x
  obtain ⟨v, ⟨A, c, rfl, _, _, _⟩, h⟩ := h
  dsimp only at h hl ⊢
  have c3 := cell_of_row w g 3 _ _ _ h
  have c2 := cell_of_row w g 2 _ _ _ h
  have hg := (Array.getElem?_eq_some_iff.1 h).1
  simp at c3 c2
  have hw1 : IntKind.i64.wrap ((L.length : Int) + 1) = (L.length : Int) + 1 := by simp only [IntKind.wrap_i64]; omega
  clear h
  cases m with
  | true =>
    go_enter Try.func30, Try.ntmps30
    go_wp2_with fail
    go_ret
    exact ⟨ret_int (by simp), rfl⟩
  | false =>
    go_enter Try.func30, Try.ntmps30
    go_wp2_with fail
    go_ret
    exact ⟨ret_int (by simp), rfl⟩
theorem distinct_exact (w : World) (h : Sk w g n sd x) (hm : x.2 = false) : Calls Try.prog 28 #[.pointer (some ⟨g, 0, none⟩)] w fun e w' => e = .returned (.int .i64 (x.1.length : Int)) ∧ w = w' := by
  have HE := Lib.hid (fun W h => exact_any (g := g) (n := n) (sd := sd) (x := x) W h)
  have HK := Lib.hid h
  obtain ⟨L, m⟩ := x
  obtain ⟨v, ⟨A, c, rfl, _, _, _⟩, h⟩ := h
  dsimp only at h hm HE ⊢
  subst hm
  have c2 := cell_of_row w g 2 _ _ _ h
  have hg := (Array.getElem?_eq_some_iff.1 h).1
  simp at c2
  clear h
  go_enter Try.func28, Try.ntmps28
  go_wp2_with fail
  refine (HE.out _ HK.out).mono ?_
  rintro e w1 ⟨rfl, rfl⟩
  go_wp2_with fail
  go_ret
  exact ⟨rfl, rfl⟩
end
set_option maxRecDepth 100000 in
/-- slices.Clone of keys. -/
theorem cloneS_any (v : Value) (L : List Ky) (hL : L.length ≤ 1000000) (w : World) (h : SlV w v L) :
    Calls Try.prog 52 #[v] w fun e w' => (∃ v', e = .returned v' ∧ w'.ownsRow w.heap.size 50 2 v' L.length (kyCells L)) ∧ Below w.heap.size w w' := by
  obtain ⟨A, c, rfl, hlc, hnl, hR⟩ := h
  have q26 : ∀ (w : World) (a : Option Addr) (n c n' c' : Nat), (binOp .eql 26 (.slice a n c) (.slice none n' c')).run Try.prog w = .ok (.bool a.isNone) w := fun w a n c n' c' => Lib.run_eql_slice_nil w _ _ a n c n' c' Try.underlying26
  cases A with
  | none =>
    obtain rfl : c = 0 := hnl rfl
    obtain rfl : L = [] := List.eq_nil_of_length_eq_zero (by omega)
    clear hnl hlc hR hL
    go_enter Try.func52, Try.ntmps52
    go_wp2_with fail
    go_ret
    exact ⟨⟨_, rfl, own_nilk _ _⟩, Below.refl _ _⟩
  | some a =>
    have HR := Lib.hid hR
    have HB : Hid (Below w.heap.size w (w.alloc (.cells #[] 50))) := Lib.hid ((Below.refl _ _).alloc (Nat.le_refl _) _)
    have HO : Hid ((w.alloc (.cells #[] 50)).ownsRow w.heap.size 50 2 (.slice (some ⟨w.heap.size, 0, none⟩) 0 0) 0 (kyCells [])) := Lib.hid ⟨rfl, .inr ⟨w.heap.size, 0, #[], rfl, Nat.le_refl _, Deep.blk_alloc_new w _, Nat.le_refl _, by decide, rfl, rfl⟩⟩
    have HL : Hid (∀ l, L.length = l → ∀ (W : World) v, W.ownsRow w.heap.size 50 2 v (0 + l) (kyCells ([] ++ L)) → W.ownsRow w.heap.size 50 2 v l (kyCells L)) := Lib.hid (fun l e W v h => by rw [Nat.zero_add] at h; exact h)
    obtain ⟨l, hl⟩ : ∃ l, L.length = l := ⟨_, rfl⟩
    have Hl := Lib.hid hl
    rw [hl] at hL hlc ⊢
    clear hR hnl hl
    go_enter Try.func52, Try.ntmps52
    go_wp2_with (at_builtin; refine wpList_append_ky rfl (.tmp 5) (.tmp 6) rfl w.heap.size _ 0 [] rfl HO.out (some a) l c rfl L Hl.out (fun e => nomatch e) hlc (HR.out.below HB.out) (by omega) (by simp) ?_; intro v2 w2 hown hg; have HB2 := Lib.hid (below_grownk (B := w.heap.size) (a := w) HB.out HO.out hg (Nat.le_refl _) (Nat.le_refl _)); have HO2 := Lib.hid (HL.out _ Hl.out _ _ hown); clear hown hg)
    go_ret
    exact ⟨⟨_, rfl, HO2.out⟩, HB2.out⟩
theorem keys_any (g : Nat) (n sd : Int) (x : List Ky × Bool) (hL : x.1.length ≤ 1000000) (w : World) (h : Sk w g n sd x) :
    Calls Try.prog 25 #[.pointer (some ⟨g, 0, none⟩)] w fun e w' => (∃ v', e = .returned v' ∧ w'.ownsRow w.heap.size 50 2 v' x.1.length (kyCells x.1)) ∧ Below w.heap.size w w' := by
  obtain ⟨v, hv, h⟩ := h
  have c2 := cell_of_row w g 2 _ _ _ h
  have hg := (Array.getElem?_eq_some_iff.1 h).1
  simp at c2
  have HC := Lib.hid (cloneS_any v x.1 hL w hv)
  obtain ⟨A, c, rfl, _, _, _⟩ := hv
  clear h hL
  go_enter Try.func25, Try.ntmps25
  go_wp2_with fail
  refine HC.out.mono ?_
  rintro e w1 ⟨⟨v, rfl, ho⟩, hb⟩
  have HO := Lib.hid ho
  have HB := Lib.hid hb
  clear ho hb
  go_wp2_with fail
  go_ret
  exact ⟨⟨_, rfl, HO.out⟩, HB.out⟩
/-- Clone: a new box with the same. -/
theorem clone_any (g : Nat) (n sd : Int) (x : List Ky × Bool) (w : World) (h : Sk w g n sd x) :
    Calls Try.prog 22 #[.pointer (some ⟨g, 0, none⟩)] w fun e w' => e = .returned (.pointer (some ⟨w.heap.size, 0, none⟩)) ∧ Sk w' w.heap.size n sd x ∧ Below w.heap.size w w' := by
  have HK := Lib.hid h
  obtain ⟨v, hv, h⟩ := h
  have c0 := cell_of_row w g 0 _ _ _ h
  have c1 := cell_of_row w g 1 _ _ _ h
  have c2 := cell_of_row w g 2 _ _ _ h
  have c3 := cell_of_row w g 3 _ _ _ h
  have hg := (Array.getElem?_eq_some_iff.1 h).1
  simp at c0 c1 c2 c3
  have HV := Lib.hid hv
  obtain ⟨A, c, rfl, _, _, _⟩ := hv
  clear h
  go_enter Try.func22, Try.ntmps22
  go_wp2_with fail
  go_ret
  refine ⟨rfl, ⟨_, HV.out.below ?_, Deep.blk_alloc_new w _⟩, ?_⟩ <;> exact (Below.refl _ _).alloc (Nat.le_refl _) _
end Go.Proofs.Ytajainkaomkbjaa
