/- The law's flip: a bit of bytes that the call owns. -/
import Derived.Test.YtediohaamblpbaaDoorRow
import Derived.Test.YtediohaamblpbaaDoorDet
import Derived.Laws.IdiomStrings
import Derived.RegionTactic
import Derived.ChangeAlike
namespace Go.Proofs.YtediohaamblpbaaDoor
open Go.ChangeShapes Go.WideShapes Go.ChangeAt Go.RowKit Go.Joins Ck

/-- Block g holds the bytes l from its head on, and none of its cells is frozen. -/
def BV (w : World) (g : Nat) (l : List UInt8) : Prop :=
  ∃ (C : Array Value) (lo hi : Nat), w.heap[g]? = some (.cells C 5 (lo, hi)) ∧ C.size ≤ lo ∧ l.length ≤ C.size ∧ ∀ j (h : j < l.length), C[j]? = some (.int .u8 (l[j].toNat : Int))
theorem BV.lt {w : World} {g : Nat} {l : List UInt8} (h : BV w g l) : g < w.heap.size := by
  obtain ⟨C, lo, hi, hg, _⟩ := h
  exact (Array.getElem?_eq_some_iff.1 hg).1
theorem BV.cell {w : World} {g : Nat} {l : List UInt8} (h : BV w g l) (j : Nat) (hj : j < l.length) : w.cell? ⟨g, j, none⟩ = some (.int .u8 (l[j].toNat : Int)) := by
  obtain ⟨C, lo, hi, hg, _, _, hc⟩ := h
  rw [cell_of_row w g j C _ _ hg, hc j hj]
theorem BV.free {w : World} {g : Nat} {l : List UInt8} (h : BV w g l) (j : Nat) (hj : j < l.length) : w.frozen? ⟨g, j, none⟩ = false := by
  obtain ⟨C, lo, hi, hg, h1, h2, _⟩ := h
  simp only [World.frozen?, hg]
  have : ¬ lo ≤ j := by omega
  simp [this]
theorem BV.same {w w' : World} {g : Nat} {l : List UInt8} (h : BV w g l) (e : w'.heap[g]? = w.heap[g]?) : BV w' g l := by
  obtain ⟨C, lo, hi, hg, r⟩ := h
  exact ⟨C, lo, hi, e.trans hg, r⟩
theorem BV.set {w : World} {g : Nat} {l : List UInt8} (h : BV w g l) (j : Nat) (b : UInt8) : BV (w.setCell ⟨g, j, none⟩ (.int .u8 (b.toNat : Int))) g (l.set j b) := by
  obtain ⟨C, lo, hi, hg, h1, h2, h3⟩ := h
  refine ⟨C.setIfInBounds j (.int .u8 (b.toNat : Int)), lo, hi, ?_, by simpa using h1, by simpa using h2, fun k hk => ?_⟩
  · unfold World.setCell
    simp [Array.getElem?_modify, hg]
  · have hk' : k < l.length := by simpa using hk
    rw [Array.getElem?_setIfInBounds]
    by_cases e : j = k
    · subst e
      have : j < C.size := by omega
      simp [this]
    · rw [if_neg e, h3 k hk', List.getElem_set_ne e]

theorem xor_bit : ∀ (b : UInt8) (k : Fin 8), bits .xor .u8 (b.toNat : Int) ((2 : Int) ^ k.val % 256) = ((b ^^^ ((1 : UInt8) <<< (UInt8.ofNat k.val))).toNat : Int) := by
  intro b k
  have h2 : ((2 : Int) ^ k.val % 256) = ((((1 : UInt8) <<< (UInt8.ofNat k.val)).toNat : Nat) : Int) := by
    revert k; decide
  rw [h2, u8_xor_nat _ _ b.toNat_lt (UInt8.toNat_lt _), UInt8.toNat_xor]
theorem flip_set (l : List UInt8) (p : Nat) (h : p / 8 < l.length) : Ck.flip l p = l.set (p / 8) (l[p / 8] ^^^ ((1 : UInt8) <<< (UInt8.ofNat (p % 8)))) := by
  unfold Ck.flip
  apply List.ext_getElem?
  intro j
  rw [List.getElem?_modify, List.getElem?_set]
  by_cases e : p / 8 = j
  · subst e; simp [h]
  · simp [e]

/-- What flip leaves of the bytes. -/
def flipped (l : List UInt8) (p : Nat) : List UInt8 := if p < 8 * l.length then Ck.flip l p else l
theorem grown_set {w : World} {g : Nat} (a : Addr) (ha : a.block = g) (v : Value) : w.grownBy (w.setCell a v).drew (some g) :=
  ⟨rfl, rfl, rfl, by simp [World.setCell, World.drew], fun i _ hi => by
    show (w.setCell a v).heap[i]? = _
    exact heap_setCell_other _ _ _ _ (fun e => hi (by rw [e, ha]))⟩

set_option maxHeartbeats 400000 in
theorem flip_any (g cap : Nat) (l : List UInt8) (hl : l.length ≤ 500) (p : Nat) (z : Int) (hz : z = p) (hp : p < 4294967296) (w : World) (h : BV w g l) (n : Nat) (hn : n = l.length) :
    Calls Tryd.prog 26 #[.slice (some ⟨g, 0, none⟩) n cap, .int .i64 z] w fun e w' => e = .returned (.tuple #[]) ∧ BV w' g (flipped l p) ∧ w.grownBy w' (some g) := by
  subst hz hn
  by_cases hp8 : p / 8 < l.length
  · have hlt : ((p : Int) / 8) < l.length := by omega
    have hc := h.cell (p / 8) hp8
    have hf := h.free (p / 8) hp8
    have hx := xor_bit l[p / 8] ⟨p % 8, by omega⟩
    have hnew := h.set (p / 8) (l[p / 8] ^^^ ((1 : UInt8) <<< (UInt8.ofNat (p % 8))))
    rw [← flip_set l p hp8] at hnew
    have hfl : flipped l p = Ck.flip l p := if_pos (by omega)
    rw [hfl]
    generalize l[p / 8] ^^^ ((1 : UInt8) <<< (UInt8.ofNat (p % 8))) = b at *
    have Hnew := Lib.hid hnew
    have H := Lib.hid h
    have Hfl := Lib.hid hfl
    clear hnew h hfl
    simp only [] at hx
    go_enter Tryd.func26, Tryd.ntmps26
    go_wp2
    go_region
    all_goals
      go_end0
      exact ⟨rfl, Hnew.out.same rfl, grown_set _ rfl _⟩
  · have hlt : ¬ ((p : Int) / 8) < l.length := by omega
    have hfl : flipped l p = l := if_neg (by omega)
    rw [hfl]
    have Hfl := Lib.hid hfl
    have H := Lib.hid h
    clear h hfl
    go_enter Tryd.func26, Tryd.ntmps26
    go_wp2
    go_end0
    exact ⟨rfl, H.out, World.grownBy.refl _ _⟩
end Go.Proofs.YtediohaamblpbaaDoor
