/- How much a disk can hold behind j operations of at most 40 bytes. -/
import Derived.Test.YtjajmlamlmnljaaDy
namespace Go.Proofs.Ytjajmlamlmnljaa
open Go.ChangeShapes Go.WideShapes Go.ChangeAt Go.RowKit Go.Joins Go.Maps Go.ChangeMaps Go.MapKept

structure Bd (j : Nat) (L : List (Ct Fl)) : Prop where
  len : L.length ≤ j
  n : ∀ x ∈ L, x.2.1.n ≤ 40 * j
theorem Bd.us {j : Nat} {L : List (Ct Fl)} (h : Bd j L) : usF L ≤ j * (40 * j) := by
  have key : ∀ (M : List (Ct Fl)) (m : Nat), (∀ x ∈ M, x.2.1.n ≤ m) → usF M ≤ M.length * m := by
    intro M m
    induction M with
    | nil => intro _; exact Nat.zero_le _
    | cons p M ih =>
      intro h
      have h1 := h p List.mem_cons_self
      have h2 := ih fun x hx => h x (List.mem_cons_of_mem _ hx)
      have e : usF (p :: M) = p.2.1.n + usF M := rfl
      rw [e, List.length_cons, Nat.succ_mul]
      omega
  exact Nat.le_trans (key L (40 * j) h.n) (Nat.mul_le_mul_right _ h.len)
theorem Bd.more {j : Nat} {L : List (Ct Fl)} (h : Bd j L) : Bd (j + 1) L := ⟨Nat.le_succ_of_le h.len, fun x hx => by have := h.n x hx; omega⟩
theorem Bd.gt {j : Nat} {L : List (Ct Fl)} (h : Bd j L) (k : ByteArray) : (gt L k).1.n ≤ 40 * j := by
  by_cases hh : hs L k
  · exact h.n _ (gt_in hh)
  · rw [gt_none hh]; exact Nat.zero_le _
theorem Bd.pt {j : Nat} {L : List (Ct Fl)} (h : Bd j L) (hS : Sd L) (k : ByteArray) (f : Fl) (hf : f.1.n ≤ 40 * (j + 1)) : Bd (j + 1) (pt L k f) := by
  refine ⟨?_, fun x hx => ?_⟩
  · have := h.len
    rw [len_pt hS]
    split <;> omega
  · rcases mem_pt hx with rfl | ⟨hx, _⟩
    · exact hf
    · have := h.n x hx; omega
theorem Bd.dl {j : Nat} {L : List (Ct Fl)} (h : Bd j L) (k : ByteArray) : Bd j (dl L k) :=
  ⟨Nat.le_trans (List.length_filter_le ..) h.len, fun x hx => h.n x (mem_dl.1 hx).1⟩
theorem bd_gen {j : Nat} {S : Ds} (h : Bd j S.fs) (ns : List ByteArray) (k : ByteArray) (L : List (Ct Fl)) (hL : Bd (j + 1) L) : Bd (j + 1) (gS S ns k L).1.fs := by
  unfold gS
  split
  · exact hL
  · show Bd (j + 1) (bgE S ns k).1.fs
    rw [(bg_mp S ns k).2.1]; exact h.more
theorem bd_sync {j : Nat} {S : Ds} (h : Bd j S.fs) (hS : Sd S.fs) (k : ByteArray) : Bd (j + 1) (syS S k).1.fs :=
  bd_gen h [k] k _ (h.pt hS k _ (by have := h.gt k; show (gt S.fs k).1.n ≤ _; omega))
theorem bd_remove {j : Nat} {S : Ds} (h : Bd j S.fs) (k : ByteArray) : Bd (j + 1) (rmS S k).1.fs :=
  bd_gen h [k] k _ (h.dl k).more
theorem bd_rename {j : Nat} {S : Ds} (h : Bd j S.fs) (hS : Sd S.fs) (k k2 : ByteArray) : Bd (j + 1) (rnS S k k2).1.fs :=
  bd_gen h [k, k2] k _ ((h.dl k).pt (sd_dl hS k) k2 _ (by have := h.gt k; omega))
theorem bd_append {j : Nat} {S S1 : Ds} (h : Bd j S.fs) (hS : Sd S.fs) (k data : ByteArray) (hd : data.size ≤ 40) (hA : ApR S k data S1) : Bd (j + 1) S1.fs := by
  unfold ApR at hA
  split at hA
  · obtain ⟨b, r, _, n1, _, _, rfl⟩ := hA
    rw [(opS_mp _).2.1]
    exact h.pt hS k _ (by have := h.gt k; show r.n ≤ _; omega)
  · subst hA; exact h.more
end Go.Proofs.Ytjajmlamlmnljaa
