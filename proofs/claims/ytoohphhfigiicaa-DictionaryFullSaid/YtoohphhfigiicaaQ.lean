/- The examples of the document: what they are. -/
import Derived.Test.YtoohphhfigiicaaP
namespace Go.Proofs.Ytoohphhfigiicaa
open Go.ChangeShapes Go.WideShapes Go.ChangeAt Go.RowKit Dp

theorem bl_dec (a b : ByteArray) : bl a b = decide (a.data.toList < b.data.toList) := by
  rw [Bool.eq_iff_iff, bl_iff]; simp
def sA : ByteArray := ⟨#[97]⟩
def sB : ByteArray := ⟨#[98]⟩
def sC : ByteArray := ⟨#[99]⟩
def sAB : ByteArray := ⟨#[97, 98]⟩
def sAA : ByteArray := ⟨#[97, 97]⟩
def sI : ByteArray := ⟨#[97, 112, 105]⟩
def sP : ByteArray := ⟨#[97, 112, 112]⟩
def ex1 : List ByteArray := [sB, sA, sAB, sA]
def ed1 : List ByteArray := [sA, sAB, sB]
def ex2 : List ByteArray := [sA, sC]
def ex3 : List ByteArray := [sB, sC]
def ed2 : List ByteArray := [sA, sB, sC]
def ex4 : List ByteArray := [sI, sP]
theorem lt1 : bl sA sAB = true ∧ bl sA sB = true ∧ bl sAB sB = true ∧ bl sA sC = true ∧ bl sB sC = true ∧ bl sI sP = true ∧ bl sA sAA = true ∧ bl sAB sAA = false := by
  simp only [bl_dec]; decide
theorem ed1_srt : Srt ed1 := by
  obtain ⟨h1, h2, h3, _⟩ := lt1
  refine List.pairwise_cons.2 ⟨fun x hx => ?_, List.pairwise_cons.2 ⟨fun x hx => ?_, List.pairwise_singleton _ _⟩⟩
  · rcases List.mem_cons.1 hx with rfl | hx
    · exact h1
    · rw [List.mem_singleton.1 hx]; exact h2
  · rw [List.mem_singleton.1 hx]; exact h3
theorem ed2_srt : Srt ed2 := by
  obtain ⟨_, h2, _, h4, h5, _⟩ := lt1
  refine List.pairwise_cons.2 ⟨fun x hx => ?_, List.pairwise_cons.2 ⟨fun x hx => ?_, List.pairwise_singleton _ _⟩⟩
  · rcases List.mem_cons.1 hx with rfl | hx
    · exact h2
    · rw [List.mem_singleton.1 hx]; exact h4
  · rw [List.mem_singleton.1 hx]; exact h5
theorem ex4_srt : Srt ex4 := List.pairwise_cons.2 ⟨fun x hx => by rw [List.mem_singleton.1 hx]; exact lt1.2.2.2.2.2.1, List.pairwise_singleton _ _⟩
theorem ex1_bld : bld ex1 = ed1 := srt_ext (bld_srt _) ed1_srt fun x => by
  rw [bld_mem]
  simp only [ex1, ed1, List.mem_cons, List.not_mem_nil, or_false]
  constructor
  · rintro (h | h | h | h) <;> simp [h]
  · rintro (h | h | h) <;> simp [h]
theorem ex23_bld : bld (ex2 ++ ex3) = ed2 := srt_ext (bld_srt _) ed2_srt fun x => by
  rw [bld_mem]
  simp only [ex2, ex3, ed2, List.cons_append, List.nil_append, List.mem_cons, List.not_mem_nil, or_false]
  constructor
  · rintro (h | h | h | h) <;> simp [h]
  · rintro (h | h | h) <;> simp [h]
theorem ex1_ok : bdE ex1 = 0 ∧ bdV ex1 = ed1 := by
  have := bdE_ok (L := ex1) (by decide) (by rw [ex1_bld]; decide)
  rw [ex1_bld] at this
  exact this
theorem ex23_ok : bdE (ex2 ++ ex3) = 0 ∧ bdV (ex2 ++ ex3) = ed2 := by
  have := bdE_ok (L := ex2 ++ ex3) (by decide) (by rw [ex23_bld]; decide)
  rw [ex23_bld] at this
  exact this
theorem lw_some {d : List ByteArray} (h : Srt d) (k : Nat) (hk : k < d.length) : lw d d[k] = k ∧ fd d d[k] = some k := by
  have e : lw d d[k] = k := lw_eq d d[k] k (by omega) (fun j hj hj2 => srt_get h hj hk) (fun _ => bl_irrefl _)
  refine ⟨e, ?_⟩
  unfold fd
  rw [e, if_pos (List.getElem?_eq_getElem hk)]
theorem cd2 : ex2.map (cdV ed2) = [0, 2] ∧ ex3.map (cdV ed2) = [1, 2] := by
  have h0 : fd ed2 sA = some 0 := (lw_some ed2_srt 0 (by decide)).2
  have h1 : fd ed2 sB = some 1 := (lw_some ed2_srt 1 (by decide)).2
  have h2 : fd ed2 sC = some 2 := (lw_some ed2_srt 2 (by decide)).2
  constructor
  · show [cdV ed2 sA, cdV ed2 sC] = _
    unfold cdV; rw [h0, h2]; rfl
  · show [cdV ed2 sB, cdV ed2 sC] = _
    unfold cdV; rw [h1, h2]; rfl
theorem lw_ex : lw ed1 sAA = 1 ∧ lw ed1 sA = 0 ∧ pf ed1 sA = 2 := by
  refine ⟨lw_eq ed1 sAA 1 (by decide) (fun j hj hj2 => ?_) (fun _ => lt1.2.2.2.2.2.2.2), (lw_some ed1_srt 0 (by decide)).1, by decide⟩
  obtain rfl : j = 0 := by omega
  exact lt1.2.2.2.2.2.2.1
theorem ex4_chk : chk ex4 = 0 := chk_srt ex4_srt (by decide) (by decide)
theorem ex4_frm : frm ex4 2 = [0, 2, 3, 97, 112, 105, 2, 1, 112] := by decide
theorem rd_built {α : Type} {enc : α → Value} {w : World} {g : Nat} {t : TypeId} (L : List α) (h : w.heap[g]? = some (.cells (L.map enc).toArray t (0, 0))) : Rd enc w (some ⟨g, 0, none⟩) L := fun k hk =>
  ⟨g, 0, rfl, (Array.getElem?_eq_some_iff.1 h).1, by
    rw [Nat.zero_add, cell_of_row w g k _ _ _ h]
    simp [hk]⟩
end Go.Proofs.Ytoohphhfigiicaa
