/- Plain facts: a file as a map holds it: its row's place, how many bytes are synced, whether it is durable; how a map's datum stands for it. -/
import Derived.Test.YtjajmlamlmnljaaDa
import Derived.Maps.OwnSet
namespace Go.Proofs.Ytjajmlamlmnljaa
open Go

/-- What a map holds of a file. -/
structure Rw where
  A : Option Nat
  n : Nat
  c : Nat
  s : Nat
  d : Bool
instance : Inhabited Rw := ⟨⟨none, 0, 0, 0, false⟩⟩
/-- Its row as a value. -/
def Rw.sl (r : Rw) : Value := .slice (r.A.map fun g => ⟨g, 0, none⟩) r.n r.c
def Rw.val (r : Rw) : Value := .agg #[r.sl, .int .i64 r.s, .bool r.d]
theorem Rw.val_inj {r r' : Rw} (h : r.val = r'.val) : r = r' := by
  obtain ⟨A, n, c, s, d⟩ := r
  obtain ⟨A', n', c', s', d'⟩ := r'
  simp only [Rw.val, Rw.sl, Value.agg.injEq, Array.mk.injEq, List.cons.injEq, Value.slice.injEq, Value.int.injEq, Value.bool.injEq, and_true, true_and, Int.natCast_inj] at h
  obtain ⟨⟨h1, rfl, rfl⟩, rfl, rfl⟩ := h
  cases A <;> cases A' <;> simp_all
/-- What stands for it in a map's datum. -/
def encR {H : Type} (r : Rw) : DataW H :=
  .agg [.lit (.int .i64 (match r.A with | none => -1 | some g => (g : Int))), .lit (.int .i64 r.n), .lit (.int .i64 r.c), .lit (.int .i64 r.s), .lit (.bool r.d)]
theorem encR_inj {H : Type} {r r' : Rw} (h : (encR r : DataW H) = encR r') : r = r' := by
  obtain ⟨A, n, c, s, d⟩ := r
  obtain ⟨A', n', c', s', d'⟩ := r'
  simp only [encR, DataW.agg.injEq, List.cons.injEq, DataW.lit.injEq, Lit.int.injEq, Lit.bool.injEq, and_true, true_and, Int.natCast_inj] at h
  obtain ⟨h1, rfl, rfl, rfl, rfl⟩ := h
  cases A with
  | none =>
    cases A' with
    | none => rfl
    | some g => simp only at h1; omega
  | some g =>
    cases A' with
    | none => simp only at h1; omega
    | some g' => simp only [Int.natCast_inj] at h1; rw [h1]
noncomputable def fileE {H : Type} (v : Value) : Option (DataW H × List MemPlace) := open Classical in if h : ∃ r : Rw, v = r.val then some (encR h.choose, []) else none
theorem fileE_mk {H : Type} (r : Rw) : (fileE r.val : Option (DataW H × List MemPlace)) = some (encR r, []) := by
  have h : ∃ r' : Rw, r.val = r'.val := ⟨r, rfl⟩
  rw [fileE, dif_pos h, ← Rw.val_inj h.choose_spec]
theorem fileE_inv {H : Type} {v : Value} {z : DataW H × List MemPlace} (h : fileE v = some z) : ∃ r : Rw, v = r.val ∧ z = (encR r, []) := by
  unfold fileE at h
  split at h
  · rename_i e
    injection h with h
    exact ⟨_, e.choose_spec, h.symm⟩
  · cases h
end Go.Proofs.Ytjajmlamlmnljaa
