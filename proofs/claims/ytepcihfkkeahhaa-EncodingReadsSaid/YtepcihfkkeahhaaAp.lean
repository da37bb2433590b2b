/- appendList of attributes, of references. -/
import Derived.Test.YtepcihfkkeahhaaAo
namespace Go.Proofs.Ytepcihfkkeahhaa
open Go.ChangeShapes Go.WideShapes Go.ChangeAt Go.RowKit En

theorem take_snocA (l : List At) (k : Nat) (h : k < l.length) : l.take (k + 1) = l.take k ++ [l[k]] := by
  rw [List.take_add_one, List.getElem?_eq_getElem h]; rfl
theorem atForms_take (L : List At) (k : Nat) : (atForms (L.take k)).length ≤ (atForms L).length := by
  have : atForms L = atForms (L.take k) ++ atForms (L.drop k) := by
    rw [atForms, atForms, atForms, ← List.flatMap_append, List.take_append_drop]
  rw [this, List.length_append]; omega
theorem at_cells {w : World} {B : Nat} {A : Option Addr} {L : List At} (h : Rs w B A (atCells L)) (k : Nat) (hk : k < L.length) : ∃ b off, A = some ⟨b, off, none⟩ ∧ b < B ∧ w.cell? ⟨b, off + k * 4, none⟩ = some (.string (L[k]).key) ∧ w.cell? ⟨b, off + k * 4 + 1, none⟩ = some (.int .i64 (L[k]).kind) ∧ w.cell? ⟨b, off + k * 4 + 2, none⟩ = some (.string (L[k]).text) ∧ w.cell? ⟨b, off + k * 4 + 3, none⟩ = some (.int .i64 (L[k]).int) := by
  have hl := atCells_len L
  have g : ∀ j, j < 4 → ∃ v, (L[k]).cells[j]? = some v ∧ ∃ b off, A = some ⟨b, off, none⟩ ∧ b < B ∧ w.cell? ⟨b, off + (k * 4 + j), none⟩ = some v := fun j hj => by
    have hlt : k * 4 + j < (atCells L).length := by omega
    obtain ⟨b, off, e, hb, hc⟩ := h (k * 4 + j) hlt
    have hg := atCells_get L k hk j hj
    rw [List.getElem?_eq_getElem hlt] at hg
    exact ⟨_, hg.symm, b, off, e, hb, hc⟩
  obtain ⟨v0, e0, b, off, rfl, hb, h0⟩ := g 0 (by omega)
  obtain ⟨v1, e1, b1, off1, ea1, _, h1⟩ := g 1 (by omega)
  obtain ⟨v2, e2, b2, off2, ea2, _, h2⟩ := g 2 (by omega)
  obtain ⟨v3, e3, b3, off3, ea3, _, h3⟩ := g 3 (by omega)
  simp only [Option.some.injEq, Addr.mk.injEq, and_true] at ea1 ea2 ea3
  obtain ⟨rfl, rfl⟩ := ea1
  obtain ⟨rfl, rfl⟩ := ea2
  obtain ⟨rfl, rfl⟩ := ea3
  simp [At.cells] at e0 e1 e2 e3
  subst e0 e1 e2 e3
  exact ⟨_, _, rfl, hb, by simpa using h0, by simpa [Nat.add_assoc] using h1, by simpa [Nat.add_assoc] using h2, by simpa [Nat.add_assoc] using h3⟩

set_option maxHeartbeats 1000000 in
set_option maxRecDepth 100000 in
theorem append_attrs (base : Nat) (v : Value) (len : Nat) (xs : List UInt8) (hlen : len ≤ 300000) (L : List At) (hL : L.length ≤ 4096) (hF : (atForms L).length ≤ 200000) (hok : ∀ a ∈ L, a.Ok) (A : Option Addr) (c : Nat) (w : World) (hbase : base ≤ w.heap.size) (hown : w.ownsRow base 5 1 v len (xs.map u8v)) (hR : Rs w base A (atCells L)) :
    Calls Try.prog 114 #[v, .slice A L.length c, .func (.func 107) #[] #[]] w fun e w' => (∃ v', w'.ownsRow base 5 1 v' (len + (num L.length ++ atForms L).length) ((xs ++ (num L.length ++ atForms L)).map u8v) ∧ e = .returned v') ∧ Bk base w w' := by
  have hbn := num_bounds (L.length : Int) (by omega) (by omega)
  have Hown := Lib.hid hown
  have HR := Lib.hid hR
  have Hok := Lib.hid hok
  have HF := Lib.hid hF
  obtain ⟨FN, hFN⟩ : ∃ F, F = num (L.length : Int) := ⟨_, rfl⟩
  rw [← hFN] at hbn ⊢
  have HFN := Lib.hid hFN
  clear hown hR hok hF hFN
  go_enter Try.func114, Try.ntmps114
  go_wp2_with fail
  refine (append_number base v len xs (by omega) (L.length : Int) (by omega) (by omega) w hbase Hown.out).mono ?_
  rw [← HFN.out]
  rintro e w0 ⟨⟨v0, hown0, rfl⟩, hB0⟩
  have HO0 := Lib.hid hown0
  have HB0 := Lib.hid hB0
  clear hown0 hB0
  go_wp2_with fail
  go_loopw [0, 15] (fun u i wr => ∃ k : Nat, k ≤ L.length ∧ i = .int .i64 (k : Int) ∧ Hid (wr.ownsRow base 5 1 u (len + FN.length + (atForms (L.take k)).length) ((xs ++ FN ++ atForms (L.take k)).map u8v)) ∧ Hid (Bk base w wr)) (fun _ i _ => L.length - (intOf i).toNat)
  case atStart => exact ⟨0, Nat.zero_le _, rfl, Lib.hid (by simpa [atForms] using HO0.out), HB0⟩
  case round =>
    obtain ⟨k, hk, rfl, hO, hB⟩ := hrel
    have hbs := hB.out.1.size
    by_cases hlt : k < L.length
    · obtain ⟨b, off, rfl, hb, h0, h1, h2, h3⟩ := at_cells (HR.out.below hB.out.1) k hlt
      have hfl := Nat.le_trans (atForms_take L k) HF.out
      have ok := Hok.out _ (List.getElem_mem hlt)
      have Hts := Lib.hid (take_snocA L k hlt)
      obtain ⟨⟨key, kd, tx, n⟩, ha⟩ : ∃ a, a = L[k] := ⟨_, rfl⟩
      rw [← ha] at h0 h1 h2 h3 ok Hts
      obtain ⟨ok1, ok2, ok3, ok4⟩ := ok
      dsimp only at h0 h1 h2 h3 ok1 ok2 ok3 ok4
      clear ha
      have HB1 : Hid (Bk base w (wr.alloc (.cells #[.string key, .int .i64 kd, .string tx, .int .i64 n] 91))) := Lib.hid (hB.out.alloc (by omega) _)
      go_wp2_with fail
      refine (append_attr base u0 _ _ (by omega) key ok1 kd n tx ok2 ok3.1 ok3.2 ok4.1 ok4.2 _ (by simp; omega) (hO.out.alloc _)).mono ?_
      rintro e w1 ⟨⟨v1, hown1, rfl⟩, hB1⟩
      have HO1 := Lib.hid hown1
      have HB2 := Lib.hid (HB1.out.trans hB1)
      clear hown1 hB1
      go_wp2_with fail
      go_roundw
      case rel =>
        refine ⟨k + 1, by omega, by go_num, Lib.hid ?_, HB2⟩
        have h := HO1.out
        rw [Hts.out, atForms_snoc, List.length_append, ← Nat.add_assoc, ← List.append_assoc]
        exact h
      case measure => simp [intOf]; omega
    · obtain rfl : k = L.length := by omega
      have hT : L.take L.length = L := List.take_length
      have HT := Lib.hid hT
      clear hT
      go_wp2_with fail
      go_ret
      refine ⟨⟨_, ?_, rfl⟩, hB.out⟩
      have h := hO.out
      rw [HT.out] at h
      rw [List.length_append, ← Nat.add_assoc, ← List.append_assoc]
      exact h

def RfOk (a : Int × Int) : Prop := In64 a.1 ∧ In64 a.2
def rfC (a : Int × Int) : List Value := [.int .i64 a.1, .int .i64 a.2]
def rfForm (a : Int × Int) : List UInt8 := nums [a.1, a.2]
def rfCells (L : List (Int × Int)) : List Value := L.flatMap rfC
def rfForms (L : List (Int × Int)) : List UInt8 := L.flatMap rfForm
theorem rfCells_len (L : List (Int × Int)) : (rfCells L).length = 2 * L.length := by
  induction L with
  | nil => rfl
  | cons a L ih => simp only [rfCells, List.flatMap_cons, List.length_append, List.length_cons] at ih ⊢; rw [ih]; simp [rfC]; omega
theorem rfCells_get (L : List (Int × Int)) (k : Nat) (h : k < L.length) (j : Nat) (hj : j < 2) : (rfCells L)[k * 2 + j]? = (rfC L[k])[j]? := by
  induction L generalizing k with
  | nil => simp at h
  | cons a L ih =>
    simp only [rfCells, List.flatMap_cons] at ih ⊢
    have hl : (rfC a).length = 2 := rfl
    cases k with
    | zero =>
      rw [List.getElem?_append_left (by rw [hl]; omega)]; simp
    | succ k =>
      rw [List.getElem?_append_right (by rw [hl]; omega), hl, show (k + 1) * 2 + j - 2 = k * 2 + j by omega, ih k (by simpa using h)]
      rfl
theorem rfForms_snoc (L : List (Int × Int)) (a : Int × Int) : rfForms (L ++ [a]) = rfForms L ++ nums [a.1, a.2] := by simp [rfForms, rfForm]
theorem take_snocR (l : List (Int × Int)) (k : Nat) (h : k < l.length) : l.take (k + 1) = l.take k ++ [l[k]] := by
  rw [List.take_add_one, List.getElem?_eq_getElem h]; rfl
theorem rfForms_take (L : List (Int × Int)) (k : Nat) : (rfForms (L.take k)).length ≤ (rfForms L).length := by
  have : rfForms L = rfForms (L.take k) ++ rfForms (L.drop k) := by
    rw [rfForms, rfForms, rfForms, ← List.flatMap_append, List.take_append_drop]
  rw [this, List.length_append]; omega
theorem rf_cells {w : World} {B : Nat} {A : Option Addr} {L : List (Int × Int)} (h : Rs w B A (rfCells L)) (k : Nat) (hk : k < L.length) : ∃ b off, A = some ⟨b, off, none⟩ ∧ b < B ∧ w.cell? ⟨b, off + k * 2, none⟩ = some (.int .i64 (L[k]).1) ∧ w.cell? ⟨b, off + k * 2 + 1, none⟩ = some (.int .i64 (L[k]).2) := by
  have hl := rfCells_len L
  have g : ∀ j, j < 2 → ∃ v, (rfC L[k])[j]? = some v ∧ ∃ b off, A = some ⟨b, off, none⟩ ∧ b < B ∧ w.cell? ⟨b, off + (k * 2 + j), none⟩ = some v := fun j hj => by
    have hlt : k * 2 + j < (rfCells L).length := by omega
    obtain ⟨b, off, e, hb, hc⟩ := h (k * 2 + j) hlt
    have hg := rfCells_get L k hk j hj
    rw [List.getElem?_eq_getElem hlt] at hg
    exact ⟨_, hg.symm, b, off, e, hb, hc⟩
  obtain ⟨v0, e0, b, off, rfl, hb, h0⟩ := g 0 (by omega)
  obtain ⟨v1, e1, b1, off1, ea1, _, h1⟩ := g 1 (by omega)
  simp only [Option.some.injEq, Addr.mk.injEq, and_true] at ea1
  obtain ⟨rfl, rfl⟩ := ea1
  simp [rfC] at e0 e1
  subst e0 e1
  exact ⟨_, _, rfl, hb, by simpa using h0, by simpa [Nat.add_assoc] using h1⟩

set_option maxHeartbeats 1000000 in
set_option maxRecDepth 100000 in
theorem append_refs (base : Nat) (v : Value) (len : Nat) (xs : List UInt8) (hlen : len ≤ 300000) (L : List (Int × Int)) (hL : L.length ≤ 4096) (hF : (rfForms L).length ≤ 200000) (hok : ∀ a ∈ L, RfOk a) (A : Option Addr) (c : Nat) (w : World) (hbase : base ≤ w.heap.size) (hown : w.ownsRow base 5 1 v len (xs.map u8v)) (hR : Rs w base A (rfCells L)) :
    Calls Try.prog 115 #[v, .slice A L.length c, .func (.func 112) #[] #[]] w fun e w' => (∃ v', w'.ownsRow base 5 1 v' (len + (num L.length ++ rfForms L).length) ((xs ++ (num L.length ++ rfForms L)).map u8v) ∧ e = .returned v') ∧ Bk base w w' := by
  have hbn := num_bounds (L.length : Int) (by omega) (by omega)
  have Hown := Lib.hid hown
  have HR := Lib.hid hR
  have Hok := Lib.hid hok
  have HF := Lib.hid hF
  obtain ⟨FN, hFN⟩ : ∃ F, F = num (L.length : Int) := ⟨_, rfl⟩
  rw [← hFN] at hbn ⊢
  have HFN := Lib.hid hFN
  clear hown hR hok hF hFN
  go_enter Try.func115, Try.ntmps115
  go_wp2_with fail
  refine (append_number base v len xs (by omega) (L.length : Int) (by omega) (by omega) w hbase Hown.out).mono ?_
  rw [← HFN.out]
  rintro e w0 ⟨⟨v0, hown0, rfl⟩, hB0⟩
  have HO0 := Lib.hid hown0
  have HB0 := Lib.hid hB0
  clear hown0 hB0
  go_wp2_with fail
  go_loopw [0, 15] (fun u i wr => ∃ k : Nat, k ≤ L.length ∧ i = .int .i64 (k : Int) ∧ Hid (wr.ownsRow base 5 1 u (len + FN.length + (rfForms (L.take k)).length) ((xs ++ FN ++ rfForms (L.take k)).map u8v)) ∧ Hid (Bk base w wr)) (fun _ i _ => L.length - (intOf i).toNat)
  case atStart => exact ⟨0, Nat.zero_le _, rfl, Lib.hid (by simpa [rfForms] using HO0.out), HB0⟩
  case round =>
    obtain ⟨k, hk, rfl, hO, hB⟩ := hrel
    have hbs := hB.out.1.size
    by_cases hlt : k < L.length
    · obtain ⟨b, off, rfl, hb, h0, h1⟩ := rf_cells (HR.out.below hB.out.1) k hlt
      have hfl := Nat.le_trans (rfForms_take L k) HF.out
      have ok := Hok.out _ (List.getElem_mem hlt)
      have Hts := Lib.hid (take_snocR L k hlt)
      obtain ⟨⟨x, y⟩, ha⟩ : ∃ a, a = L[k] := ⟨_, rfl⟩
      rw [← ha] at h0 h1 ok Hts
      obtain ⟨ok1, ok2⟩ := ok
      dsimp only at h0 h1 ok1 ok2
      clear ha
      have HB1 : Hid (Bk base w (wr.alloc (.cells #[.int .i64 x, .int .i64 y] 83))) := Lib.hid (hB.out.alloc (by omega) _)
      go_wp2_with fail
      refine (append_ref base u0 _ _ (by omega) x y ok1 ok2 _ (by simp; omega) (hO.out.alloc _)).mono ?_
      rintro e w1 ⟨⟨v1, hown1, rfl⟩, hB1⟩
      have HO1 := Lib.hid hown1
      have HB2 := Lib.hid (HB1.out.trans hB1)
      clear hown1 hB1
      go_wp2_with fail
      go_roundw
      case rel =>
        refine ⟨k + 1, by omega, by go_num, Lib.hid ?_, HB2⟩
        have h := HO1.out
        rw [Hts.out, rfForms_snoc, List.length_append, ← Nat.add_assoc, ← List.append_assoc]
        exact h
      case measure => simp [intOf]; omega
    · obtain rfl : k = L.length := by omega
      have hT : L.take L.length = L := List.take_length
      have HT := Lib.hid hT
      clear hT
      go_wp2_with fail
      go_ret
      refine ⟨⟨_, ?_, rfl⟩, hB.out⟩
      have h := hO.out
      rw [HT.out] at h
      rw [List.length_append, ← Nat.add_assoc, ← List.append_assoc]
      exact h
end Go.Proofs.Ytepcihfkkeahhaa
