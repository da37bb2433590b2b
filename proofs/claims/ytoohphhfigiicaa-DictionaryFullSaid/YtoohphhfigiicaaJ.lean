/- The program's Build. -/
import Derived.Test.YtoohphhfigiicaaI
import Derived.Sort.OwnSorted
namespace Go.Proofs.Ytoohphhfigiicaa
open Go.ChangeShapes Go.WideShapes Go.ChangeAt Go.RowKit Dp Go.Sort

/-- A dictionary and an error that a call returns. -/
def OutD (w : World) (e : Ending) (R : List ByteArray) (E : Int) : Prop :=
  ∃ A c, e = .returned (.tuple #[.slice A R.length c, .int .i64 E]) ∧ R.length ≤ c ∧ Addressed A c ∧ Rd Value.string w A R
def long (x : ByteArray) : Bool := decide (255 < x.size)
def bdE (L : List ByteArray) : Int := if L.any long = true then 5 else if 4096 < (bld L).length then 6 else 0
def bdV (L : List ByteArray) : List ByteArray := if bdE L = 0 then bld L else []
theorem enc_map (L : List ByteArray) : (L.map fun x => x.data.toList).map encStr = L.map Value.string := by
  rw [List.map_map]; rfl
theorem build1_any (x : ByteArray) (w : World) (hx : x.size ≤ 9223372036854775807) : Calls Try.prog 45 #[.string x] w fun e w' => e = .returned (.bool (long x)) ∧ w' = w := by
  unfold long
  go_enter Try.func45, Try.ntmps45
  go_wp2
  go_ret
  exact ⟨by simp; omega, rfl⟩
theorem rd_getD {w : World} {A : Option Addr} {L : List ByteArray} (h : Rd Value.string w A L) (b off : Nat) (e : A = some ⟨b, off, none⟩) : ∀ j, j < L.length → w.cell? ⟨b, off + j, none⟩ = some (.string (L.getD j ByteArray.empty)) := by
  intro j hj
  obtain ⟨b', off', e2, _, hc⟩ := h j hj
  rw [e] at e2
  injection e2 with e2
  injection e2 with e3 e4
  subst e3 e4
  rw [hc]
  simp [List.getD, List.getElem?_eq_getElem hj]
theorem clone_any (A : Option Addr) (c : Nat) (L : List ByteArray) (hL : L.length ≤ 1000000) (w : World) (hR : Rd Value.string w A L) :
    Calls Try.prog 46 #[.slice A L.length c] w fun e w' => (∃ v, e = .returned v ∧ w'.ownsRow w.heap.size 9 1 v L.length (L.map Value.string)) ∧ Below w.heap.size w w' := by
  by_cases h0 : L.length = 0
  · obtain rfl : L = [] := List.eq_nil_of_length_eq_zero h0
    cases A with
    | none =>
      refine (Try.slices_Clone_string_nil 0 c w).mono ?_
      rintro e w' ⟨rfl, rfl⟩
      exact ⟨⟨_, rfl, own_nil _ _⟩, Below.refl _ _⟩
    | some a =>
      refine (Try.slices_Clone_string_zero a c w).mono ?_
      rintro e w' ⟨v, rfl, ho, _, hb⟩
      exact ⟨⟨v, rfl, ho⟩, hb⟩
  · obtain ⟨b, off, rfl, _, _⟩ := hR 0 (by omega)
    refine (Try.slices_Clone_string b off L.length c L w (Nat.le_refl _) (by omega) (rd_getD hR b off rfl)).mono ?_
    rintro e w' ⟨v, rfl, ho, _, hb⟩
    rw [List.take_length] at ho
    exact ⟨⟨v, rfl, ho⟩, hb⟩
theorem grown_refl' (w : World) (o : Option Nat) : w.grownBy w o := ⟨rfl, rfl, rfl, Nat.le_refl _, fun _ _ _ => rfl⟩
theorem sort_any (base : Nat) (v : Value) (ss : List (List UInt8)) (hn : ss.length ≤ 1000000) (w : World) (h : w.ownsRow base 9 1 v ss.length (ss.map encStr)) :
    Calls Try.prog 47 #[v] w fun e w' => e = .returned (.tuple #[]) ∧ w'.ownsRow base 9 1 v ss.length ((ss.mergeSort fun x y => decide (x ≤ y)).map encStr) ∧ w.grownBy w' v.ownBlock := by
  have hh := h
  rcases h.2 with ⟨rfl, h0⟩ | ⟨g, cap, cur, rfl, hbase, hb, h1, h2, h3, h4⟩
  · obtain rfl : ss = [] := List.eq_nil_of_length_eq_zero h0
    refine (Try.slices_Sort_string_none none 0 w).mono ?_
    rintro e w' ⟨rfl, rfl⟩
    exact ⟨rfl, by simpa using hh, grown_refl' _ _⟩
  · refine (Try.slices_Sort_string g 0 cap ss w (holds_of_block hb (by simpa using h4)) (Array.getElem?_eq_some_iff.1 hb).1 (by omega)).mono ?_
    rintro e w' ⟨rfl, q, os, rfl⟩
    exact ⟨rfl, ownsRow_sorted (by simp) hbase hb h1 h2 h3, grownBy_sorted _⟩
theorem compact_any (base : Nat) (v : Value) (ss : List (List UInt8)) (hn : ss.length ≤ 1000000) (w : World) (h : w.ownsRow base 9 1 v ss.length (ss.map encStr)) :
    Calls Try.prog 48 #[v] w fun e w' => (∃ A c, e = .returned (.slice A (Lib.compact ss).length c) ∧ (Lib.compact ss).length ≤ c ∧ Addressed A c ∧ Rd encStr w' A (Lib.compact ss)) ∧ w.grownBy w' v.ownBlock := by
  rcases h.2 with ⟨rfl, h0⟩ | ⟨g, cap, cur, rfl, hbase, hb, h1, h2, h3, h4⟩
  · obtain rfl : ss = [] := List.eq_nil_of_length_eq_zero h0
    refine (Try.slices_Compact_string_empty none 0 w).mono ?_
    rintro e w' ⟨rfl, rfl⟩
    have e : Lib.compact ([] : List (List UInt8)) = [] := rfl
    rw [e]
    exact ⟨⟨none, 0, rfl, Nat.le_refl _, .inl ⟨rfl, rfl⟩, Rd.nil⟩, grown_refl' _ _⟩
  · have hcl : (Lib.compact ss).length ≤ ss.length := by
      have := List.length_filter_le (Lib.keeps ss.toArray) (List.range ss.length)
      unfold Lib.compact Lib.compactUpTo
      simpa using this
    unfold maxLen at h2
    refine (Try.slices_Compact_string g 0 cap ss w (holds_of_block hb (by simpa using h4)) (by omega) h1).mono ?_
    rintro e w' ⟨rfl, q, rfl⟩
    have ho := ownsRow_sorted (w := w) (base := base) (g := g) (cap := cap) (n := q) (e := 9) (os := #[]) (cur := cur) (ss := ss) (ts := Lib.compact ss ++ List.replicate (ss.length - (Lib.compact ss).length) []) (by simp; omega) hbase hb h1 (by unfold maxLen; omega) h3
    have hg := grownBy_sorted (w := w) (g := g) (n := q) (os := #[]) (Lib.compact ss ++ List.replicate (ss.length - (Lib.compact ss).length) []).toArray
    rw [grow_empty] at ho hg
    refine ⟨⟨_, cap, rfl, by omega, .inr ⟨_, _, rfl⟩, ?_⟩, hg⟩
    have hr := Rd.own ho
    intro k hk
    obtain ⟨b, off, e, hlt, hc⟩ := hr k (by rw [List.length_append]; omega)
    refine ⟨b, off, e, hlt, ?_⟩
    rw [hc, List.getElem_append_left hk]
theorem compact_bld (L : List ByteArray) : Lib.compact ((L.map fun x => x.data.toList).mergeSort fun x y => decide (x ≤ y)) = (bld L).map fun x => x.data.toList := by
  rw [← cmpL_bld]
  rfl
theorem rd_bytes {w : World} {A : Option Addr} {L : List ByteArray} (h : Rd encStr w A (L.map fun x => x.data.toList)) : Rd Value.string w A L := fun k hk => by
  obtain ⟨b, off, e, hlt, hc⟩ := h k (by rw [List.length_map]; exact hk)
  refine ⟨b, off, e, hlt, ?_⟩
  rw [hc, List.getElem_map]
set_option maxHeartbeats 1000000 in
theorem build_any (A : Option Addr) (c : Nat) (L : List ByteArray) (hL : L.length ≤ 1000000) (hsz : ∀ x ∈ L, x.size ≤ 9223372036854775807) (w : World) (hR : Rd Value.string w A L) :
    Calls Try.prog 15 #[.slice A L.length c] w fun e w' => OutD w' e (bdV L) (bdE L) ∧ Below w.heap.size w w' := by
  have HR := Lib.hid hR
  have hany : ∀ W : World, Below w.heap.size w W → Calls Try.prog 44 #[.slice A L.length c, .func (.func 45) #[] #[]] W fun e w' => e = .returned (.bool (L.any long)) ∧ Below W.heap.size W w' := by
    intro W hW
    by_cases h0 : L.length = 0
    · obtain rfl : L = [] := List.eq_nil_of_length_eq_zero h0
      refine (Try.slices_ContainsFunc_empty (α := Nat) A c _ W).mono ?_
      rintro e w' ⟨rfl, rfl⟩
      exact ⟨rfl, Below.refl _ _⟩
    · have hRW := HR.out.below hW
      obtain ⟨b, off, rfl, _, _⟩ := hRW 0 (by omega)
      have hp : PredAt Try.prog 45 #[] (fun x : {x : ByteArray // x.size ≤ 9223372036854775807} => Value.string x.1) (fun x => long x.1) W := fun W' x _ => (build1_any x.1 W' x.2).mono fun e w' ⟨he, hw⟩ => ⟨he, 0, by rw [hw]; rfl⟩
      haveI : Inhabited {x : ByteArray // x.size ≤ 9223372036854775807} := ⟨⟨ByteArray.empty, by decide⟩⟩
      have h := Try.slices_ContainsFunc (fun x : {x : ByteArray // x.size ≤ 9223372036854775807} => Value.string x.1) (fun x => long x.1) 45 #[] (enters_of Try.func45 (by kernel_rfl) rfl) b off L.length c (L.attach.map fun x => ⟨x.1, hsz x.1 x.2⟩) W hp (by simp) (by omega) (fun j hj => by
        have hj' : j < L.length := by simpa using hj
        rw [rd_getD hRW b off rfl j hj', getElem!_pos _ j hj]
        simp [List.getD, List.getElem?_eq_getElem hj'])
      refine h.mono ?_
      rintro e w' ⟨rfl, q, rfl⟩
      refine ⟨?_, below_drewN (Below.refl _ _) q⟩
      congr 2
      rw [List.take_of_length_le (by simp), List.any_map]
      have : ((fun x : {x : ByteArray // x.size ≤ 9223372036854775807} => long x.1) ∘ fun x : {x // x ∈ L} => (⟨x.1, hsz x.1 x.2⟩ : {x : ByteArray // x.size ≤ 9223372036854775807})) = fun x => long x.1 := rfl
      rw [this]
      have h2 := List.any_map (f := fun x : {x // x ∈ L} => x.1) (l := L.attach) (p := long)
      rw [List.attach_map_subtype_val] at h2
      exact h2.symm
  have HAny := Lib.hid hany
  clear hR hany
  cases hl : L.any long with
  | true =>
    have hE : bdE L = 5 := by unfold bdE; rw [if_pos hl]
    have hV : bdV L = [] := by unfold bdV; rw [hE]; rfl
    have HE := Lib.hid hE
    have HV := Lib.hid hV
    rw [hl] at HAny
    clear hE hV hl
    go_enter Try.func15, Try.ntmps15
    go_wp2_with fail
    refine (HAny.out w (Below.refl _ _)).mono ?_
    rintro e w1 ⟨rfl, hB1⟩
    have HB1 := Lib.hid hB1
    clear hB1
    go_wp2_with fail
    go_ret2
    refine ⟨?_, HB1.out⟩
    rw [HE.out, HV.out]
    exact ⟨none, 0, rfl, Nat.le_refl _, .inl ⟨rfl, rfl⟩, Rd.nil⟩
  | false =>
    have hE : bdE L = if 4096 < (bld L).length then 6 else 0 := by unfold bdE; rw [if_neg (by rw [hl]; decide)]
    have HE := Lib.hid hE
    have hblen := bld_len L
    have Hcb : Hid (Lib.compact ((L.map fun x => x.data.toList).mergeSort fun x y => decide (x ≤ y)) = (bld L).map fun x => x.data.toList) := Lib.hid (compact_bld L)
    have Hsl : Hid (((L.map fun x => x.data.toList).mergeSort fun x y => decide (x ≤ y)).length = L.length) := Lib.hid (by simp)
    rw [hl] at HAny
    clear hE hl
    go_enter Try.func15, Try.ntmps15
    go_wp2_with fail
    refine (HAny.out w (Below.refl _ _)).mono ?_
    rintro e w1 ⟨rfl, hB1⟩
    have HB1 := Lib.hid hB1
    have HR1 := Lib.hid (HR.out.below hB1)
    clear hB1
    go_wp2_with fail
    refine (clone_any A c L hL w1 HR1.out).mono ?_
    rintro e w2 ⟨⟨v, rfl, hown2⟩, hB2⟩
    have HB2 := Lib.hid (below_to HB1.out hB2)
    have HO2 : Hid (w2.ownsRow w1.heap.size 9 1 v (L.map fun x => x.data.toList).length ((L.map fun x => x.data.toList).map encStr)) := Lib.hid (by rw [enc_map, List.length_map]; exact hown2)
    clear hB2 hown2
    go_wp2_with fail
    refine (sort_any w1.heap.size v _ (by rw [List.length_map]; exact hL) w2 HO2.out).mono ?_
    rintro e w3 ⟨rfl, hown3, hg3⟩
    have HB3 := Lib.hid (below_grownBy (B := w.heap.size) (a := w) HB2.out HO2.out hg3 HB1.out.size (Nat.le_refl _))
    have HO3 : Hid (w3.ownsRow w1.heap.size 9 1 v ((L.map fun x => x.data.toList).mergeSort fun x y => decide (x ≤ y)).length (((L.map fun x => x.data.toList).mergeSort fun x y => decide (x ≤ y)).map encStr)) := Lib.hid (by rw [Hsl.out]; rw [List.length_map] at hown3; exact hown3)
    clear hown3 hg3
    go_wp2_with fail
    refine (compact_any w1.heap.size v _ (by rw [Hsl.out]; exact hL) w3 HO3.out).mono ?_
    rintro e w4 ⟨⟨A4, c4, he4, hc4, hA4, hr4⟩, hg4⟩
    rw [Hcb.out] at hr4
    rw [Hcb.out, List.length_map] at he4 hc4
    subst he4
    have HB4 := Lib.hid (below_grownBy (B := w.heap.size) (a := w) HB3.out HO3.out hg4 HB1.out.size (Nat.le_refl _))
    have HR4 := Lib.hid (rd_bytes hr4)
    have HA4 := Lib.hid hA4
    clear hr4 hg4 hA4
    by_cases h4 : 4096 < (bld L).length
    · have hE2 : bdE L = 6 := by rw [HE.out, if_pos h4]
      have hV2 : bdV L = [] := by unfold bdV; rw [hE2]; rfl
      have HE2 := Lib.hid hE2
      have HV2 := Lib.hid hV2
      clear hE2 hV2
      go_wp2_with fail
      go_ret2
      refine ⟨?_, HB4.out⟩
      rw [HE2.out, HV2.out]
      exact ⟨none, 0, rfl, Nat.le_refl _, .inl ⟨rfl, rfl⟩, Rd.nil⟩
    · have hE2 : bdE L = 0 := by rw [HE.out, if_neg h4]
      have hV2 : bdV L = bld L := by unfold bdV; rw [hE2]; rfl
      have HE2 := Lib.hid hE2
      have HV2 := Lib.hid hV2
      clear hE2 hV2
      go_wp2_with fail
      go_ret2
      refine ⟨?_, HB4.out⟩
      rw [HE2.out, HV2.out]
      exact ⟨A4, c4, rfl, hc4, HA4.out, HR4.out⟩
end Go.Proofs.Ytoohphhfigiicaa
