/- slices.Grow and slices.Concat of keys; appending keys. -/
import Derived.Test.YtajainkaomkbjaaBd
import Derived.Shelf.Spec.SlicesGrow
import Derived.Laws.AppendOwnNone
import Derived.Deep.RegionLaw
import Derived.Deep.RegionLawGrows
namespace Go.Proofs
def Try.growS_ren : Go.Shelf.Ren := ⟨fun | 4 => 92 | n => n, fun | 22 => 26 | 25 => 50 | 3 => 3 | 4 => 4 | 9 => 9 | 20 => 20 | 0 => 0 | n => n, fun | n => n⟩
theorem Try.growS : Go.Proofs.Lays8.n4 Try.prog Try.growS_ren := {
  mixed := by kernel_rfl
  f4 := ⟨Try.f92.name, by decide, Try.func92.trans (congrArg some (by kernel_rfl))⟩
  t0 := Try.underlying0
  a0 := Try.isAgg0
  z0 := Try.sizeOf0
  v0 := Try.zeroValue0
  t3 := Try.underlying3
  a3 := Try.isAgg3
  z3 := Try.sizeOf3
  v3 := Try.zeroValue3
  t4 := Try.underlying4
  a4 := Try.isAgg4
  z4 := Try.sizeOf4
  v4 := Try.zeroValue4
  t9 := Try.underlying9
  a9 := Try.isAgg9
  z9 := Try.sizeOf9
  v9 := Try.zeroValue9
  t20 := Try.underlying20
  a20 := Try.isAgg20
  z20 := Try.sizeOf20
  v20 := Try.zeroValue20
  t22 := Try.underlying26
  a22 := Try.isAgg26
  z22 := Try.sizeOf26
  v22 := Try.zeroValue26 }
end Go.Proofs
namespace Go.Proofs.Ytajainkaomkbjaa
open Go.ChangeShapes Go.WideShapes Go.ChangeAt Go.RowKit Go.Joins Bt

theorem ky_info : (Try.prog.info? 50).map (fun i => (i.zero, i.size, i.bytes)) = some (some (.agg #[.int .i64 0, .string ByteArray.empty]), 2, 24) := by kernel_rfl
theorem kr_cells {w : World} {A : Option Addr} {L : List Ky} (h : KR w A L) : ∀ ad, A = some ad → ∀ j u, (kyCells L)[j]? = some u → w.cell? (ad.add j) = some u := by
  intro ad e j u hu
  have hlt := (List.getElem?_eq_some_iff.1 hu).1
  rw [ky_len] at hlt
  have hj : j / 2 < L.length := by omega
  obtain ⟨b, off, e2, hb, h0, h1⟩ := h.at (j / 2) hj
  obtain ⟨k0, k1⟩ := ky_get L (j / 2) hj
  rw [e] at e2
  injection e2 with e2
  subst e2
  rw [add_flat]
  rcases Nat.mod_two_eq_zero_or_one j with hm | hm
  · have ej : j = j / 2 * 2 := by omega
    rw [ej] at hu ⊢
    rw [k0] at hu; rw [h0]; exact hu
  · have ej : j = j / 2 * 2 + 1 := by omega
    rw [ej] at hu ⊢
    rw [k1] at hu; rw [← Nat.add_assoc, h1]; exact hu
section
variable {w : World}
/-- append of some keys to a row of the call's own. -/
theorem wpList_append_ky {ops : Array Oper} {rest : List Oper} {o : Oper} {a : Act} {Q : Exit → Act → World → Prop} (hg : o.guard = none) (s x : Operand)
    (ho : o.op = .call { callee := .builtin .append, args := #[s, x], argTypes := #[26, 26] })
    (base : Nat) (v : Value) (n : Nat) (L : List Ky) (hs : a.eval s = v) (hown : w.ownsRow base 50 2 v n (kyCells L))
    (ao : Option Addr) (m c : Nat) (hx : a.eval x = .slice ao m c) (M : List Ky) (hm : M.length = m) (hnone : ao = none → c = 0) (hmc : m ≤ c) (hR : KR w ao M)
    (hn : n + m ≤ 1000000) (hbase : base ≤ w.heap.size)
    (h : ∀ v' w', w'.ownsRow base 50 2 v' (n + m) (kyCells (L ++ M)) → w.grownBy w' v.ownBlock → wpList Try.prog ops Q rest (a.put o.dst v') w') : wpList Try.prog ops Q (o :: rest) a w := by
  obtain ⟨i0, hi0, hz0, hz1, hz2⟩ := info_parts2 ky_info
  cases ao with
  | some ad =>
    refine wpList_append_own w hg s x 26 ho base 50 i0 _ 2 24 Try.underlying26 hi0 hz0 hz1 hz2 rfl (by omega) v n (kyCells L) hs hown ad m c (kyCells M) hx (by rw [ky_len, hm]) (kr_cells hR ad rfl) (ky_one M) (by unfold maxLen; omega) (by omega) hbase (fun v' w' h2 h3 _ => h v' w' (by rw [ky_app]; exact h2) h3)
  | none =>
    obtain rfl := hnone rfl
    obtain rfl : m = 0 := by omega
    obtain rfl : M = [] := List.eq_nil_of_length_eq_zero hm
    exact wpList_append_own_none hg s x 26 ho base 50 i0 2 Try.underlying26 hi0 v n (kyCells L) hs hown hx (h v w (by simpa using hown) ⟨rfl, rfl, rfl, Nat.le_refl _, fun _ _ _ => rfl⟩)
/-- .. as a step of a region that draws. -/
theorem step_append_ky {ops : Array Oper} {o : Oper} {a : Act} {K : Act → World → Prop} {Q : Exit → Act → World → Prop} {E : Prop} (hg : o.guard = none) (s x : Operand)
    (ho : o.op = .call { callee := .builtin .append, args := #[s, x], argTypes := #[26, 26] })
    (base : Nat) (v : Value) (n : Nat) (L : List Ky) (hs : a.eval s = v) (hown : w.ownsRow base 50 2 v n (kyCells L))
    (ao : Option Addr) (m c : Nat) (hx : a.eval x = .slice ao m c) (M : List Ky) (hm : M.length = m) (hnone : ao = none → c = 0) (hmc : m ≤ c) (hR : KR w ao M)
    (hn : n + m ≤ 1000000) (hbase : base ≤ w.heap.size)
    (h : ∀ v' w', w'.ownsRow base 50 2 v' (n + m) (kyCells (L ++ M)) → w.grownBy w' v.ownBlock → K (a.put o.dst v') w') :
    if Region.wanted o (yielded ops a.tmps) = true then Oper.wp Try.prog o a w K Q else E := by
  have hw : Region.wanted o (yielded ops a.tmps) = true := by simp [Region.wanted, hg]
  rw [if_pos hw]
  obtain ⟨i0, hi0, hz0, hz1, hz2⟩ := info_parts2 ky_info
  cases ao with
  | some ad =>
    refine wp_append_own w s x 26 ho base 50 i0 _ 2 24 Try.underlying26 hi0 hz0 hz1 hz2 rfl (by omega) v n (kyCells L) hs hown ad m c (kyCells M) hx (by rw [ky_len, hm]) (kr_cells hR ad rfl) (ky_one M) (by unfold maxLen; omega) (by omega) hbase (fun v' w' h2 h3 _ => h v' w' (by rw [ky_app]; exact h2) h3)
  | none =>
    obtain rfl := hnone rfl
    obtain rfl : m = 0 := by omega
    obtain rfl : M = [] := List.eq_nil_of_length_eq_zero hm
    have hrun := run_append_owned_none (P := Try.prog) (w := w) base 26 o.type 50 i0 2 Try.underlying26 hi0 v n (kyCells L) hown
    unfold Oper.wp
    simp [execOp, ho, resolve, invoke, builtin, hs, hx, hrun, Result.andThen]
    exact h v w (by simpa using hown) ⟨rfl, rfl, rfl, Nat.le_refl _, fun _ _ _ => rfl⟩
end
/-- A slice value that reads as keys. -/
def SlV (w : World) (v : Value) (L : List Ky) : Prop := ∃ A c, v = .slice A L.length c ∧ L.length ≤ c ∧ (A = none → c = 0) ∧ KR w A L
theorem SlV.own {w : World} {base n : Nat} {v : Value} {L : List Ky} (h : w.ownsRow base 50 2 v n (kyCells L)) : SlV w v L := by
  have hl := h.1
  rw [ky_len] at hl
  obtain rfl : n = L.length := by omega
  rcases h.2 with ⟨rfl, h0⟩ | ⟨g, cap, cur, rfl, hbase, hg, hn, hcap, hsz, htake⟩
  · obtain rfl : L = [] := List.eq_nil_of_length_eq_zero h0
    exact ⟨none, 0, rfl, Nat.le_refl _, fun _ => rfl, KR.nil⟩
  · exact ⟨_, cap, rfl, hn, (fun e => nomatch e), KR.own h⟩
theorem own_nilk (w : World) (base : Nat) : w.ownsRow base 50 2 (.slice none 0 0) 0 (kyCells []) := ⟨rfl, .inl ⟨rfl, rfl⟩⟩
/-- slices.Grow of nil. -/
theorem grow_any (n : Nat) (hn : n ≤ 1000000) (w : World) :
    Calls Try.prog 92 #[.slice none 0 0, .int .i64 (n : Int)] w fun e w' => (∃ v, e = .returned v ∧ w'.ownsRow w.heap.size 50 2 v 0 (kyCells [])) ∧ Below w.heap.size w w' := by
  obtain ⟨i0, hi0, hz0, hz1, hz2⟩ := info_parts2 ky_info
  by_cases h0 : n = 0
  · subst h0
    refine (Any8.slices_Grow_room Try.growS none 0 0 0 w (Nat.le_refl _) (by omega) (by omega) (Nat.le_refl _)).mono ?_
    rintro e w' ⟨rfl, rfl⟩
    exact ⟨⟨_, rfl, own_nilk _ _⟩, Below.refl _ _⟩
  · refine (Any8.slices_Grow_grow Try.growS i0 _ hi0 hz0 (by rw [hz1]; decide) none 0 0 n [] w (Nat.le_refl _) (by omega) (by rw [hz2]; omega) (by omega) (by simp) (fun _ => rfl) (fun a e => nomatch e)).mono ?_
    rintro e w' ⟨rfl, rfl⟩
    refine ⟨⟨_, rfl, by simp [kyCells], .inr ⟨w.heap.size, _, _, rfl, Nat.le_refl _, Deep.blk_alloc_new w.drew _, Nat.zero_le _, grownCap_le_maxLen w (0 + n) 0 _ (by unfold maxLen; omega), ?_, by simp [kyCells]⟩⟩, ?_⟩
    · have hge := grownCap_ge w (0 + n) 0 (Try.growS_ren.t 25)
      simp [size_zeroCells, Value.cells] at hge ⊢
      omega
    · exact (Below.drew (Below.refl _ _)).alloc (Nat.le_refl _) _
end Go.Proofs.Ytajainkaomkbjaa
