/- Plain facts: the examples of the chapter. -/
import Derived.Test.YtnpjakgdfjaglaaGs
import Derived.Test.YtnpjakgdfjaglaaGt
namespace Go.Proofs.Ytnpjakgdfjaglaa
open Go

def ka : ByteArray := ⟨#[97]⟩
def kb : ByteArray := ⟨#[98]⟩
def kc : ByteArray := ⟨#[99]⟩
theorem ab : bl ka kb = true := (bl_iff _ _).2 (by decide)
theorem bc : bl kb kc = true := (bl_iff _ _).2 (by decide)
theorem ac : bl ka kc = true := bl_trans ab bc
theorem nm_a : nmK ka = true := by decide
theorem nm_b : nmK kb = true := by decide
theorem nm_c : nmK kc = true := by decide
theorem ne_ab : ka ≠ kb := bl_not ab
theorem ne_bc : kb ≠ kc := bl_not bc
theorem ne_ac : ka ≠ kc := bl_not ac
theorem ex_a : adR ⟨2, 0, 0, []⟩ ka 3 = (⟨2, 3, 0, [(ka, 3)]⟩, 0) := by
  unfold adR adS
  rw [if_neg (by rw [nm_a]; decide), if_neg (by omega), if_neg (by show ¬ (1125899906842624 - 0 < (3 : Int)); omega), if_neg (fun h => by have := h.2; simp at this)]
  rfl
theorem ex_b : adR ⟨2, 3, 0, [(ka, 3)]⟩ kb 1 = (⟨2, 4, 0, [(ka, 3), (kb, 1)]⟩, 0) := by
  unfold adR adS
  rw [if_neg (by rw [nm_b]; decide), if_neg (by omega), if_neg (by show ¬ (1125899906842624 - 3 < (1 : Int)); omega), if_neg (fun h => by have := h.2; simp at this)]
  simp [adC, pt, gt, ne_ab, ab]
theorem ex_c : adR ⟨2, 4, 0, [(ka, 3), (kb, 1)]⟩ kc 2 = (⟨2, 6, 1, [(ka, 2), (kc, 1)]⟩, 0) := by
  unfold adR adS
  rw [if_neg (by rw [nm_c]; decide), if_neg (by omega), if_neg (by show ¬ (1125899906842624 - 4 < (2 : Int)); omega), if_pos ⟨by simp [hs, ne_ac.symm, ne_bc.symm], by simp⟩]
  have e : leC [(ka, 3), (kb, 1)] 2 = 1 := rfl
  simp only [e]
  rw [if_pos (by decide)]
  have e2 : loC [(ka, 3), (kb, 1)] 1 = [(ka, 2)] := by simp [loC]
  rw [e2]
  simp [adC, pt, gt, ne_ac, ac]
theorem ex_co : coC ([(ka, 4), (kb, 2)] ++ [(kb, 1), (kc, 3)]) = [(ka, 4), (kb, 3), (kc, 3)] := by
  simp [coC, adC, pt, gt, ne_ab, ab, ne_bc, bc, ne_ac, ac]
theorem ex_rk : rkN [(ka, 4), (kb, 3), (kc, 3)] 2 = 3 := by
  have h : Rkd [(ka, 4), (kb, 3), (kc, 3)] [(ka, 4), (kb, 3), (kc, 3)] := ⟨List.Perm.refl _, by
    simp [rkl, bl_asymm bc]⟩
  rw [← rkN_at h 2 (by simp)]; rfl
theorem ex_m : mgR ⟨2, 6, 0, [(ka, 4), (kb, 2)]⟩ ⟨2, 4, 0, [(kb, 1), (kc, 3)]⟩ = (⟨2, 10, 3, [(ka, 1)]⟩, 0) := by
  unfold mgR mgS
  simp only [ex_co]
  rw [if_neg (by simp), if_neg (by omega), if_pos (by simp), show (2 : Int).toNat = 2 from rfl, ex_rk]
  simp [loC]
theorem fit_ex (L : List Ct) (h1 : Nn L) (h2 : sm L ≤ 1000) (h3 : ∀ p ∈ L, p.1.size ≤ 1000) (h4 : L.length ≤ 100) : Fit22 L := ⟨h1, by omega, h3, by omega⟩
end Go.Proofs.Ytnpjakgdfjaglaa
