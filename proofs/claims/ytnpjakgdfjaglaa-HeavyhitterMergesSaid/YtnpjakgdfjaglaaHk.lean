/- Plain facts: the error of a summary. -/
import Derived.Test.YtnpjakgdfjaglaaHc
namespace Go.Proofs.Ytnpjakgdfjaglaa
open Go

/-- The first error of counters behind a key, with a total. -/
def ckL (p : Option ByteArray) (t : Int) : List Ct → Int
  | [] => 0
  | x :: L => if nmK x.1 = false then 11 else if (p.any fun q => !bl q x.1) = true then 8 else if x.2 < 1 ∨ t < x.2 then 2 else ckL (some x.1) t L
/-- The error of a summary. -/
def ckS (s : Su) : Int :=
  if ¬(1 ≤ s.mo ∧ s.mo ≤ 256) ∨ ¬(0 ≤ s.to ∧ s.to ≤ 1125899906842624) ∨ s.lo < 0 then 2
  else if s.mo < (s.cs.length : Int) then 6
  else if ckL none s.to s.cs = 0 then (if sm s.cs + s.lo * (s.mo + 1) ≤ s.to then 0 else 17)
  else ckL none s.to s.cs
/-- The key before a counter. -/
def prevC (L : List Ct) : Nat → Option ByteArray
  | 0 => none
  | j + 1 => (L[j]?).map Prod.fst
theorem ck_step (L : List Ct) (t : Int) (j : Nat) (h : j < L.length) : ckL (prevC L j) t (L.drop j) = if nmK L[j].1 = false then 11 else if ((prevC L j).any fun q => !bl q L[j].1) = true then 8 else if L[j].2 < 1 ∨ t < L[j].2 then 2 else ckL (prevC L (j + 1)) t (L.drop (j + 1)) := by
  rw [List.drop_eq_getElem_cons h]
  have e : prevC L (j + 1) = some L[j].1 := by show (L[j]?).map Prod.fst = _; rw [List.getElem?_eq_getElem h]; rfl
  rw [e]; rfl
theorem ck_ok {t : Int} {L : List Ct} (hS : Sd L) (hP : Ps L) (hN : ∀ p ∈ L, nmK p.1 = true) (ht : ∀ p ∈ L, p.2 ≤ t) : ∀ q, (∀ x ∈ q, ∀ p ∈ L, bl x p.1 = true) → ckL q t L = 0 := by
  induction L with
  | nil => intro q _; rfl
  | cons x L ih =>
    intro q hq
    obtain ⟨h1, h2⟩ := List.pairwise_cons.1 hS
    rw [ckL, if_neg (by rw [hN x (by simp)]; decide), if_neg, if_neg]
    · exact ih h2 (fun p hp => hP p (by simp [hp])) (fun p hp => hN p (by simp [hp])) (fun p hp => ht p (by simp [hp])) (some x.1) (fun y hy p hp => by
        have hy : x.1 = y := by simpa using hy
        rw [← hy]; exact h1 p hp)
    · have := hP x (by simp)
      have := ht x (by simp)
      omega
    · cases q with
      | none => simp
      | some y => simp [hq y rfl x (by simp)]
theorem ckS_ok {s : Su} (h : Sl22 s) : ckS s = 0 := by
  have h1 := h.mo
  have h2 := h.to
  have h3 := h.lo
  have h4 := h.len
  have h5 : 0 ≤ s.lo * (s.mo + 1) := Int.mul_nonneg h3.1 (by omega)
  have h6 := h.sum
  unfold ckS
  rw [if_neg (by omega), if_neg (by omega)]
  have e : ckL none s.to s.cs = 0 := ck_ok h.sd h.ps h.nm (fun p hp => by have := mem_sm h.ps.nn hp; omega) none (fun x hx => by simp at hx)
  rw [if_pos e, if_pos h6]
/-- The last question, as the program asks it and as the law does. -/
theorem ck_end (sum lo mo to : Int) (hm : 1 ≤ mo ∧ mo ≤ 256) (hl : 0 ≤ lo) (hs : 0 ≤ sum) :
    (sum + lo * (mo + 1) ≤ to ↔ (sum ≤ to ∧ lo ≤ (to - sum) / (mo + 1))) ∧ (sum + lo * (mo + 1) ≤ to → lo ≤ to) := by
  have h0 : 0 ≤ lo * (mo + 1) := Int.mul_nonneg hl (by omega)
  have h1 : lo ≤ lo * (mo + 1) := by
    have := Int.mul_le_mul_of_nonneg_left (show (1 : Int) ≤ mo + 1 by omega) hl
    omega
  refine ⟨⟨fun h => ⟨by omega, (Int.le_ediv_iff_mul_le (by omega)).2 (by omega)⟩, fun ⟨h2, h3⟩ => ?_⟩, fun h => by omega⟩
  have := (Int.le_ediv_iff_mul_le (show 0 < mo + 1 by omega)).1 h3
  omega
end Go.Proofs.Ytnpjakgdfjaglaa
