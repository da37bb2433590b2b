/- What the law of counts adds up (plain). -/
import Derived.Test.YtolgcphmmghlbaaHs
namespace Go.Proofs.Ytolgcphmmghlbaa

/-- How many of the first j values are at most v. -/
def cnV (v : Int) (M : List Int) : Nat → Int
  | 0 => 0
  | j + 1 => cnV v M j + (if M.getD j 0 ≤ v then 1 else 0)
/-- The sum of the first j values. -/
def sumV (M : List Int) : Nat → Int
  | 0 => 0
  | j + 1 => sumV M j + M.getD j 0
def wHi (v : Int) : Nat → Int := fun n => if ((hiN n : Nat) : Int) ≤ v then 1 else 0
def wLo (v : Int) : Nat → Int := fun n => if ((loN n : Nat) : Int) ≤ v then 1 else 0
def loI : Nat → Int := fun n => ((loN n : Nat) : Int)
def hiI : Nat → Int := fun n => ((hiN n : Nat) : Int)
/-- What the law holds behind j values. -/
structure Cn (v : Int) (M : List Int) (j : Nat) (n s le mo be ab : Int) : Prop where
  hn : n = cnV v M j
  hs : s = sumV M j
  hl : le = wV (wHi v) M j
  hm : mo = wV (wLo v) M j
  hb : be = wV loI M j
  ha : ab = wV hiI M j
  bn : 0 ≤ n ∧ n ≤ (j : Int)
  bl : 0 ≤ le ∧ le ≤ n
  bm : n ≤ mo ∧ mo ≤ (j : Int)
  bb : 0 ≤ be ∧ be ≤ s
  bs : s ≤ ab ∧ ab ≤ 1099511627776 * (j : Int)
theorem Cn.zero (v : Int) (M : List Int) : Cn v M 0 0 0 0 0 0 0 :=
  ⟨rfl, rfl, rfl, rfl, rfl, rfl, by omega, by omega, by omega, by omega, by omega⟩
theorem Cn.next {v : Int} {M : List Int} {j : Nat} {n s le mo be ab : Int} (h : Cn v M j n s le mo be ab) (hV : ∀ x ∈ M, Vl x) (hj : j < M.length) (u : Nat) (hu : M.getD j 0 = (u : Int)) :
    Cn v M (j + 1) (if (u : Int) ≤ v then n + 1 else n) (s + (u : Int)) (if ((hiN (ix u) : Nat) : Int) ≤ v then le + 1 else le) (if ((loN (ix u) : Nat) : Int) ≤ v then mo + 1 else mo) (be + ((loN (ix u) : Nat) : Int)) (ab + ((hiN (ix u) : Nat) : Int)) := by
  have hv := hV _ (List.getElem_mem hj)
  have e : M.getD j 0 = M[j] := by simp [List.getD, List.getElem?_eq_getElem hj]
  rw [← e, hu] at hv
  have h5 := ix_lt u (by have := hv.2; omega)
  obtain ⟨i1, i2⟩ := ix_in u (by have := hv.2; omega)
  have i3 := (lo_le_hi _ h5).2
  obtain ⟨p1, p2⟩ := h.bn
  obtain ⟨p3, p4⟩ := h.bl
  obtain ⟨p5, p6⟩ := h.bm
  obtain ⟨p7, p8⟩ := h.bb
  obtain ⟨p9, p10⟩ := h.bs
  have eu : (M.getD j 0).toNat = u := by rw [hu]; omega
  refine ⟨?_, ?_, ?_, ?_, ?_, ?_, ?_, ?_, ?_, ?_, ?_⟩
  · show _ = cnV v M j + (if M.getD j 0 ≤ v then 1 else 0)
    rw [hu, ← h.hn]; split <;> omega
  · show _ = sumV M j + M.getD j 0
    rw [hu, ← h.hs]
  · show _ = wV (wHi v) M j + wHi v (ix (M.getD j 0).toNat)
    rw [eu, ← h.hl]; unfold wHi; split <;> omega
  · show _ = wV (wLo v) M j + wLo v (ix (M.getD j 0).toNat)
    rw [eu, ← h.hm]; unfold wLo; split <;> omega
  · show _ = wV loI M j + loI (ix (M.getD j 0).toNat)
    rw [eu, ← h.hb]; rfl
  · show _ = wV hiI M j + hiI (ix (M.getD j 0).toNat)
    rw [eu, ← h.ha]; rfl
  · constructor <;> (split <;> omega)
  · constructor <;> (repeat' split) <;> omega
  · constructor <;> (repeat' split) <;> omega
  · constructor <;> omega
  · constructor <;> omega
theorem Cn.all {v : Int} {M : List Int} {n s le mo be ab : Int} (h : Cn v M M.length n s le mo be ab) (hV : ∀ x ∈ M, Vl x) :
    amS hiN (bkS M) v (bkS M).length = le ∧ amS loN (bkS M) v (bkS M).length = mo ∧ smS loN (bkS M) (bkS M).length = be ∧ smS hiN (bkS M) (bkS M).length = ab :=
  ⟨(amS_bk hiN v M hV).trans h.hl.symm, (amS_bk loN v M hV).trans h.hm.symm, (smS_bk loN M hV).trans h.hb.symm, (smS_bk hiN M hV).trans h.ha.symm⟩
end Go.Proofs.Ytolgcphmmghlbaa
