/- Shift, Grow and the reference's Grow as one form: a code, and a slice that reads as a list. -/
import Derived.Test.YtkjpficpkpfkdaaGp
import Derived.Test.YtkjpficpkpfkdaaRow
import Derived.Test.YtkjpficpkpfkdaaAl
namespace Go.Proofs.Ytkjpficpkpfkdaa
open Go.ChangeShapes Go.WideShapes Go.ChangeAt Go.RowKit Ts

theorem sl_zero (w : World) : Sl w (.slice none 0 0) [] := ⟨none, 0, rfl, Nat.le_refl _, by omega, (fun _ => ⟨rfl, rfl⟩), Rs.nil⟩
def eG (G : List Iv) : Int := if allIn G = true then 0 else 2
def mG (G : List Iv) : List Iv := if allIn G = true then G else []
def Res (w' : World) (e : Ending) (k : Int) (M : List Iv) : Prop := ∃ r, e = .returned (.tuple #[r, .int .i64 k]) ∧ Sl w' r M
theorem res_mv {w' : World} {e : Ending} {G : List Iv} (h : mvN w' e G) : Res w' e (eG G) (mG G) := by
  rcases h with ⟨h, r, rfl, hs⟩ | ⟨h, rfl⟩
  · exact ⟨r, by unfold eG; rw [if_pos h], by unfold mG; rw [if_pos h]; exact hs⟩
  · exact ⟨_, by unfold eG; rw [h]; rfl, by unfold mG; rw [h]; exact sl_zero _⟩
theorem res_ref {w' : World} {e : Ending} {M G : List Iv} (h1 : allIn G = allIn M) (h2 : ofL M = G) (h : refN w' e M) : Res w' e (eG G) (mG G) := by
  rcases h with ⟨h, r, rfl, hs⟩ | ⟨h, rfl⟩
  · rw [← h1] at h
    exact ⟨r, by unfold eG; rw [if_pos h], by unfold mG; rw [if_pos h, ← h2]; exact hs⟩
  · rw [← h1] at h
    exact ⟨_, by unfold eG; rw [h]; rfl, by unfold mG; rw [h]; exact sl_zero _⟩
theorem mod_ok {n : Nat} {L : List Iv} (h : Ok n L) : Mod L := fun x hx => by have := h.bd x hx; omega
theorem mod_in {L : List Iv} (h : allIn L = true) : Mod L := fun x hx => by
  have := (inR_iff x).1 (List.all_eq_true.1 h x hx); omega
theorem in_ok {n : Nat} {L : List Iv} (h : Ok n L) : allIn L = true := List.all_eq_true.2 (fun x hx => (inR_iff x).2 (by have := h.bd x hx; omega))
theorem mG_len (G : List Iv) : (mG G).length ≤ G.length := by unfold mG; split <;> simp
theorem mG_mod (G : List Iv) : Mod (mG G) := by
  unfold mG
  by_cases h : allIn G = true
  · rw [if_pos h]; exact mod_in h
  · rw [if_neg h]; intro x hx; cases hx
/-- Shifting by x. -/
theorem shift_res {L : List Iv} (hL : Mod L) (hl : L.length ≤ 1000) (x : Int) (h1 : -2251799813685248 ≤ x) (h2 : x ≤ 2251799813685248) (w : World) (v : Value) (hv : Sl w v L) :
    Calls Try.prog 41 #[v, .int .i64 x] w fun e w' => Res w' e (eG (grown x x L)) (mG (grown x x L)) ∧ Below w.heap.size w w' :=
  (shift_in x h1 h2 hL hl w hv).mono fun _ _ ⟨h, hb⟩ => ⟨res_mv h, hb⟩
theorem shift_none (L : List Iv) (x : Int) (hx : x < -2251799813685248 ∨ 2251799813685248 < x) (w : World) (v : Value) (hv : Sl w v L) :
    Calls Try.prog 41 #[v, .int .i64 x] w fun e w' => Res w' e 2 [] ∧ Below w.heap.size w w' :=
  (shift_out x hx w hv).mono fun _ _ ⟨h, hw⟩ => ⟨⟨_, h, sl_zero _⟩, hw ▸ Below.refl _ _⟩
theorem grow_res {L : List Iv} (hL : Mod L) (hl : L.length ≤ 1000) (x y : Int) (h1 : 0 ≤ x) (h2 : x ≤ 2251799813685248) (h3 : 0 ≤ y) (h4 : y ≤ 2251799813685248) (w : World) (v : Value) (hv : Sl w v L) :
    Calls Try.prog 42 #[v, .int .i64 x, .int .i64 y] w fun e w' => Res w' e (eG (grown (-x) y L)) (mG (grown (-x) y L)) ∧ Below w.heap.size w w' :=
  (grow_in x y h1 h2 h3 h4 hL hl w hv).mono fun _ _ ⟨h, hb⟩ => ⟨res_mv h, hb⟩
theorem grow_none (L : List Iv) (x y : Int) (hx : x < 0 ∨ 2251799813685248 < x ∨ y < 0 ∨ 2251799813685248 < y) (w : World) (v : Value) (hv : Sl w v L) :
    Calls Try.prog 42 #[v, .int .i64 x, .int .i64 y] w fun e w' => Res w' e 2 [] ∧ Below w.heap.size w w' :=
  (grow_out x y hx w hv).mono fun _ _ ⟨h, hw⟩ => ⟨⟨_, h, sl_zero _⟩, hw ▸ Below.refl _ _⟩
theorem refgrow_res {L : List Iv} (hN : Nrm L) (hL : Mod L) (hl : L.length ≤ 1000) (b x y : Int) (hb : b = -x) (hxy : -b ≤ y) (h1 : -2251799813685248 ≤ b) (h2 : b ≤ 2251799813685248) (h3 : -2251799813685248 ≤ y) (h4 : y ≤ 2251799813685248) (w : World) (v : Value) (hv : Sl w v L) :
    Calls Try.prog 44 #[v, .int .i64 b, .int .i64 y] w fun e w' => Res w' e (eG (grown x y L)) (mG (grown x y L)) ∧ Below w.heap.size w w' := by
  have e : x = -b := by omega
  rw [e]
  exact (ref_grow b y (by omega) (by omega) hL hl w hv).mono fun _ _ ⟨h, hb⟩ => ⟨res_ref (grown_same hxy hN).1 (grown_same hxy hN).2 h, hb⟩
/-- Shifting back. -/
theorem back_res {n : Nat} {L : List Iv} (hok : Ok n L) (x : Int) : (eG (grown x x L) = 0 ∧ eG (grown (-x) (-x) (mG (grown x x L))) = 0 ∧ mG (grown (-x) (-x) (mG (grown x x L))) = L) ∨ eG (grown x x L) = 2 := by
  by_cases h : allIn (grown x x L) = true
  · left
    have e1 : mG (grown x x L) = grown x x L := by unfold mG; rw [if_pos h]
    have e2 : grown (-x) (-x) (grown x x L) = L := by
      rw [shifted x hok.nrm]
      rw [shifted (-x) (shifted_nrm x hok.nrm), shifted_back]
    rw [e1, e2]
    refine ⟨by unfold eG; rw [if_pos h], by unfold eG; rw [if_pos (in_ok hok)], by unfold mG; rw [if_pos (in_ok hok)]⟩
  · right
    unfold eG; rw [if_neg h]
end Go.Proofs.Ytkjpficpkpfkdaa
