/- Plain facts: two lists of the same integers lie in range alike. -/
import Derived.Test.YtkjpficpkpfkdaaRw
namespace Go.Proofs.Ytkjpficpkpfkdaa
open Go.ChangeShapes Go.WideShapes Go.ChangeAt Go.RowKit Ts

theorem allIn_iff {L : List Iv} (hp : ∀ x ∈ L, x.1 < x.2) : allIn L = true ↔ ∀ n, In n L → -1125899906842624 ≤ n ∧ n < 1125899906842624 := by
  constructor
  · rintro h n ⟨x, hx, h1, h2⟩
    have := (inR_iff x).1 (List.all_eq_true.1 h x hx)
    omega
  · intro h
    refine List.all_eq_true.2 (fun x hx => (inR_iff x).2 ?_)
    have hlt := hp x hx
    have a := h x.1 ⟨x, hx, by omega, hlt⟩
    have b := h (x.2 - 1) ⟨x, hx, by omega, by omega⟩
    omega
theorem allIn_same {L M : List Iv} (hL : ∀ x ∈ L, x.1 < x.2) (hM : ∀ x ∈ M, x.1 < x.2) (h : ∀ n, In n L ↔ In n M) : allIn L = allIn M := by
  rw [Bool.eq_iff_iff, allIn_iff hL, allIn_iff hM]
  exact ⟨fun a n hn => a n ((h n).2 hn), fun a n hn => a n ((h n).1 hn)⟩
/-- What the program and the reference make of a grown set is one list, and in range alike. -/
theorem grown_same {b a : Int} (hba : b ≤ a) {L : List Iv} (h : Nrm L) : allIn (grown b a L) = allIn (moved b a L) ∧ ofL (moved b a L) = grown b a L := by
  obtain ⟨g1, g2, g3⟩ := grown_spec hba h
  exact ⟨allIn_same g1.1 (moved_ok hba h).1 g2, g3⟩
end Go.Proofs.Ytkjpficpkpfkdaa
