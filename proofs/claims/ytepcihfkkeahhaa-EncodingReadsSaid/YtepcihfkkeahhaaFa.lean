/- appendList of spans, of exchanges (written by wip/bin/gen_fa.py). -/
import Derived.Test.YtepcihfkkeahhaaOs
namespace Go.Proofs.Ytepcihfkkeahhaa
open Go.ChangeShapes Go.WideShapes Go.ChangeAt Go.RowKit En

theorem rows_at {α : Type} {C : α → List Value} {k : Nat} (hk : 0 < k) (hC : ∀ a, (C a).length = k) {w : World} {B : Nat} {A : Option Addr} {L : List α} (h : Rs w B A (L.flatMap C)) (i : Nat) (hi : i < L.length) :
    ∃ b off, A = some ⟨b, off, none⟩ ∧ b < B ∧ ∀ j, j < k → w.cell? ⟨b, off + i * k + j, none⟩ = (C L[i])[j]? := by
  have hl := flat_len C k hC L
  have hm : (i + 1) * k ≤ L.length * k := Nat.mul_le_mul_right k hi
  rw [Nat.succ_mul] at hm
  have g : ∀ j, j < k → ∃ b off, A = some ⟨b, off, none⟩ ∧ b < B ∧ w.cell? ⟨b, off + (i * k + j), none⟩ = (C L[i])[j]? := fun j hj => by
    have hlt : i * k + j < (L.flatMap C).length := by omega
    obtain ⟨b, off, e, hb, hc⟩ := h (i * k + j) hlt
    have hg := flat_get C k hC L i hi j hj
    rw [List.getElem?_eq_getElem hlt] at hg
    exact ⟨b, off, e, hb, hc.trans hg⟩
  obtain ⟨b, off, e, hb, _⟩ := g 0 hk
  refine ⟨b, off, e, hb, fun j hj => ?_⟩
  obtain ⟨b', off', e', _, hc⟩ := g j hj
  rw [e] at e'
  simp only [Option.some.injEq, Addr.mk.injEq, and_true] at e'
  obtain ⟨rfl, rfl⟩ := e'
  rw [Nat.add_assoc]
  exact hc
theorem take_snoc {α : Type} (l : List α) (k : Nat) (h : k < l.length) : l.take (k + 1) = l.take k ++ [l[k]] := by
  rw [List.take_add_one, List.getElem?_eq_getElem h]; rfl
theorem flat_take {α : Type} (f : α → List UInt8) (L : List α) (k : Nat) : ((L.take k).flatMap f).length ≤ (L.flatMap f).length := by
  have : L.flatMap f = (L.take k).flatMap f ++ (L.drop k).flatMap f := by rw [← List.flatMap_append, List.take_append_drop]
  rw [this, List.length_append]; omega
/-- A span with the slices of its lists. -/
abbrev Sv := Sp × Value × Value
def spC (x : Sv) : List Value := (x.1.cells x.2.1 x.2.2).toList
theorem spC_len (x : Sv) : (spC x).length = 14 := rfl
def spF (x : Sv) : List UInt8 := x.1.form
def spCells (L : List Sv) : List Value := L.flatMap spC
def spForms (L : List Sv) : List UInt8 := L.flatMap spF
theorem spForms_snoc (L : List Sv) (x : Sv) : spForms (L ++ [x]) = spForms L ++ x.1.form := by simp [spForms, spF]
theorem spForms_take (L : List Sv) (k : Nat) : (spForms (L.take k)).length ≤ (spForms L).length := flat_take spF L k
def exC (x : Ex) : List Value := [.int .i64 x.f, .int .i64 x.t, .int .i64 x.s, .int .i64 x.r, .int .i64 x.m]
def exF (x : Ex) : List UInt8 := nums [x.f, x.t, x.s, x.r, x.m]
def ExOk (x : Ex) : Prop := ∀ n ∈ [x.f, x.t, x.s, x.r, x.m], In64 n
def exCells (L : List Ex) : List Value := L.flatMap exC
def exForms (L : List Ex) : List UInt8 := L.flatMap exF
theorem exForms_snoc (L : List Ex) (x : Ex) : exForms (L ++ [x]) = exForms L ++ nums [x.f, x.t, x.s, x.r, x.m] := by simp [exForms, exF]
theorem exForms_take (L : List Ex) (k : Nat) : (exForms (L.take k)).length ≤ (exForms L).length := flat_take exF L k

set_option maxHeartbeats 2000000 in
set_option maxRecDepth 100000 in
theorem append_spans (base : Nat) (v : Value) (len : Nat) (xs : List UInt8) (hlen : len ≤ 50000) (L : List Sv) (hL : L.length ≤ 4096) (hF : (spForms L).length ≤ 100000) (A : Option Addr) (c : Nat) (w : World) (hok : ∀ x ∈ L, x.1.Ok ∧ x.1.Has w base x.2.1 x.2.2) (hbase : base ≤ w.heap.size) (hown : w.ownsRow base 5 1 v len (xs.map u8v)) (hR : Rs w base A (spCells L)) :
    Calls Try.prog 78 #[v, .slice A L.length c, .func (.func 75) #[] #[]] w fun e w' => (∃ v', w'.ownsRow base 5 1 v' (len + (num L.length ++ spForms L).length) ((xs ++ (num L.length ++ spForms L)).map u8v) ∧ e = .returned v') ∧ Bk base w w' := by
  have hbn := num_bounds (L.length : Int) (by omega) (by omega)
  have Hown := Lib.hid hown
  have HR := Lib.hid hR
  have Hok := Lib.hid hok
  have HF := Lib.hid hF
  obtain ⟨FN, hFN⟩ : ∃ F, F = num (L.length : Int) := ⟨_, rfl⟩
  rw [← hFN] at hbn ⊢
  have HFN := Lib.hid hFN
  clear hown hR hok hF hFN
  go_enter Try.func78, Try.ntmps78
  go_wp2_with fail
  refine (append_number base v len xs (by omega) (L.length : Int) (by omega) (by omega) w hbase Hown.out).mono ?_
  rw [← HFN.out]
  rintro e w0 ⟨⟨v0, hown0, rfl⟩, hB0⟩
  have HO0 := Lib.hid hown0
  have HB0 := Lib.hid hB0
  clear hown0 hB0
  go_wp2_with fail
  go_loopw [0, 15] (fun u i wr => ∃ k : Nat, k ≤ L.length ∧ i = .int .i64 (k : Int) ∧ Hid (wr.ownsRow base 5 1 u (len + FN.length + (spForms (L.take k)).length) ((xs ++ FN ++ spForms (L.take k)).map u8v)) ∧ Hid (Bk base w wr)) (fun _ i _ => L.length - (intOf i).toNat)
  case atStart => exact ⟨0, Nat.zero_le _, rfl, Lib.hid (by simpa [spForms] using HO0.out), HB0⟩
  case round =>
    obtain ⟨kk, hk, rfl, hO, hB⟩ := hrel
    have hbs := hB.out.1.size
    by_cases hlt : kk < L.length
    · obtain ⟨b, off, rfl, hb, hcs⟩ := rows_at (C := spC) (k := 14) (by decide) (fun _ => rfl) (HR.out.below hB.out.1) kk hlt
      have hfl := Nat.le_trans (spForms_take L kk) HF.out
      have ok := Hok.out _ (List.getElem_mem hlt)
      have Hts := Lib.hid (take_snoc L kk hlt)
      obtain ⟨x, hx⟩ : ∃ x, x = L[kk] := ⟨_, rfl⟩
      rw [← hx] at hcs ok Hts
      clear hx
      have h0 := hcs 0 (by decide)
      have h1 := hcs 1 (by decide)
      have h2 := hcs 2 (by decide)
      have h3 := hcs 3 (by decide)
      have h4 := hcs 4 (by decide)
      have h5 := hcs 5 (by decide)
      have h6 := hcs 6 (by decide)
      have h7 := hcs 7 (by decide)
      have h8 := hcs 8 (by decide)
      have h9 := hcs 9 (by decide)
      have h10 := hcs 10 (by decide)
      have h11 := hcs 11 (by decide)
      have h12 := hcs 12 (by decide)
      have h13 := hcs 13 (by decide)
      clear hcs
      obtain ⟨s, va, vl⟩ := x
      dsimp only at ok
      obtain ⟨ok1, A1, c1, A2, c2, rfl, rfl, r1, r2⟩ := ok
      obtain ⟨t, i, p, r, c0, k, sv, ve, op, st, en, er, al, ls⟩ := s
      dsimp only at r1 r2
      simp only [spC, Sp.cells, Nat.add_zero, List.getElem?_cons_succ, List.getElem?_cons_zero] at h0 h1 h2 h3 h4 h5 h6 h7 h8 h9 h10 h11 h12 h13
      have HS : Hid (Sp.Has wr base ⟨t, i, p, r, c0, k, sv, ve, op, st, en, er, al, ls⟩ (.slice A1 al.length c1) (.slice A2 ls.length c2)) := Lib.hid (Sp.Has.below ⟨A1, c1, A2, c2, rfl, rfl, r1, r2⟩ hB.out.1)
      have Ok1 := Lib.hid ok1
      clear ok1 r1 r2
      have hfl2 : (spForms (L.take (kk + 1))).length ≤ (spForms L).length := spForms_take L (kk + 1)
      rw [Hts.out, spForms_snoc, List.length_append] at hfl2
      have hfl3 := Nat.le_trans hfl2 HF.out
      clear hfl2
      have HB1 : Hid (Bk base w (wr.alloc (.cells #[.int .i64 t, .int .i64 i, .int .i64 p, .int .i64 r, .int .i64 c0, .int .i64 k, .string sv, .string ve, .string op, .int .i64 st, .int .i64 en, .bool er, .slice A1 al.length c1, .slice A2 ls.length c2] 54))) := Lib.hid (hB.out.alloc (by omega) _)
      go_wp2_with fail
      have hA1 : Hid (Below base wr (wr.alloc (.cells #[.int .i64 t, .int .i64 i, .int .i64 p, .int .i64 r, .int .i64 c0, .int .i64 k, .string sv, .string ve, .string op, .int .i64 st, .int .i64 en, .bool er, .slice A1 al.length c1, .slice A2 ls.length c2] 54))) := Lib.hid ((Below.refl _ _).alloc (by omega) _)
      refine (append_span base u0 _ _ (by omega) ⟨t, i, p, r, c0, k, sv, ve, op, st, en, er, al, ls⟩ Ok1.out (.slice A1 al.length c1) (.slice A2 ls.length c2) _ (by simp; omega) (by omega) (hO.out.alloc _) (HS.out.below hA1.out)).mono ?_
      rintro e w1 ⟨⟨v1, hown1, rfl⟩, hB1⟩
      have HO1 := Lib.hid hown1
      have HB2 := Lib.hid (HB1.out.trans hB1)
      clear hown1 hB1
      go_wp2_with fail
      go_roundw
      case rel =>
        refine ⟨kk + 1, by omega, by go_num, Lib.hid ?_, HB2⟩
        have h := HO1.out
        rw [Hts.out, spForms_snoc, List.length_append, ← Nat.add_assoc, ← List.append_assoc]
        exact h
      case measure => simp [intOf]; omega
    · obtain rfl : kk = L.length := by omega
      have hT : L.take L.length = L := List.take_length
      have HT := Lib.hid hT
      clear hT
      go_wp2_with fail
      go_ret
      refine ⟨⟨_, ?_, rfl⟩, hB.out⟩
      have h := hO.out
      rw [HT.out] at h
      rw [List.length_append, ← Nat.add_assoc, ← List.append_assoc]
      exact h

set_option maxHeartbeats 2000000 in
set_option maxRecDepth 100000 in
theorem append_exchs (base : Nat) (v : Value) (len : Nat) (xs : List UInt8) (hlen : len ≤ 500000) (L : List Ex) (hL : L.length ≤ 4096) (hF : (exForms L).length ≤ 200000) (A : Option Addr) (c : Nat) (w : World) (hok : ∀ x ∈ L, ExOk x) (hbase : base ≤ w.heap.size) (hown : w.ownsRow base 5 1 v len (xs.map u8v)) (hR : Rs w base A (exCells L)) :
    Calls Try.prog 79 #[v, .slice A L.length c, .func (.func 80) #[] #[]] w fun e w' => (∃ v', w'.ownsRow base 5 1 v' (len + (num L.length ++ exForms L).length) ((xs ++ (num L.length ++ exForms L)).map u8v) ∧ e = .returned v') ∧ Bk base w w' := by
  have hbn := num_bounds (L.length : Int) (by omega) (by omega)
  have Hown := Lib.hid hown
  have HR := Lib.hid hR
  have Hok := Lib.hid hok
  have HF := Lib.hid hF
  obtain ⟨FN, hFN⟩ : ∃ F, F = num (L.length : Int) := ⟨_, rfl⟩
  rw [← hFN] at hbn ⊢
  have HFN := Lib.hid hFN
  clear hown hR hok hF hFN
  go_enter Try.func79, Try.ntmps79
  go_wp2_with fail
  refine (append_number base v len xs (by omega) (L.length : Int) (by omega) (by omega) w hbase Hown.out).mono ?_
  rw [← HFN.out]
  rintro e w0 ⟨⟨v0, hown0, rfl⟩, hB0⟩
  have HO0 := Lib.hid hown0
  have HB0 := Lib.hid hB0
  clear hown0 hB0
  go_wp2_with fail
  go_loopw [0, 15] (fun u i wr => ∃ k : Nat, k ≤ L.length ∧ i = .int .i64 (k : Int) ∧ Hid (wr.ownsRow base 5 1 u (len + FN.length + (exForms (L.take k)).length) ((xs ++ FN ++ exForms (L.take k)).map u8v)) ∧ Hid (Bk base w wr)) (fun _ i _ => L.length - (intOf i).toNat)
  case atStart => exact ⟨0, Nat.zero_le _, rfl, Lib.hid (by simpa [exForms] using HO0.out), HB0⟩
  case round =>
    obtain ⟨kk, hk, rfl, hO, hB⟩ := hrel
    have hbs := hB.out.1.size
    by_cases hlt : kk < L.length
    · obtain ⟨b, off, rfl, hb, hcs⟩ := rows_at (C := exC) (k := 5) (by decide) (fun _ => rfl) (HR.out.below hB.out.1) kk hlt
      have hfl := Nat.le_trans (exForms_take L kk) HF.out
      have ok := Hok.out _ (List.getElem_mem hlt)
      have Hts := Lib.hid (take_snoc L kk hlt)
      obtain ⟨x, hx⟩ : ∃ x, x = L[kk] := ⟨_, rfl⟩
      rw [← hx] at hcs ok Hts
      clear hx
      have h0 := hcs 0 (by decide)
      have h1 := hcs 1 (by decide)
      have h2 := hcs 2 (by decide)
      have h3 := hcs 3 (by decide)
      have h4 := hcs 4 (by decide)
      clear hcs
      obtain ⟨f, t, s, r, m⟩ := x
      simp only [exC, Nat.add_zero, List.getElem?_cons_succ, List.getElem?_cons_zero] at h0 h1 h2 h3 h4
      have Ok1 := Lib.hid ok
      clear ok
      have HB1 : Hid (Bk base w (wr.alloc (.cells #[.int .i64 f, .int .i64 t, .int .i64 s, .int .i64 r, .int .i64 m] 95))) := Lib.hid (hB.out.alloc (by omega) _)
      go_wp2_with fail
      refine (append_exchange base u0 _ _ (by omega) f t s r m Ok1.out _ (by simp; omega) (hO.out.alloc _)).mono ?_
      rintro e w1 ⟨⟨v1, hown1, rfl⟩, hB1⟩
      have HO1 := Lib.hid hown1
      have HB2 := Lib.hid (HB1.out.trans hB1)
      clear hown1 hB1
      go_wp2_with fail
      go_roundw
      case rel =>
        refine ⟨kk + 1, by omega, by go_num, Lib.hid ?_, HB2⟩
        have h := HO1.out
        rw [Hts.out, exForms_snoc, List.length_append, ← Nat.add_assoc, ← List.append_assoc]
        exact h
      case measure => simp [intOf]; omega
    · obtain rfl : kk = L.length := by omega
      have hT : L.take L.length = L := List.take_length
      have HT := Lib.hid hT
      clear hT
      go_wp2_with fail
      go_ret
      refine ⟨⟨_, ?_, rfl⟩, hB.out⟩
      have h := hO.out
      rw [HT.out] at h
      rw [List.length_append, ← Nat.add_assoc, ← List.append_assoc]
      exact h

end Go.Proofs.Ytepcihfkkeahhaa
