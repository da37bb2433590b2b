/- Plain facts: items and their streams. -/
import Derived.Test.YtnpjakgdfjaglaaHb
import Derived.Test.YtnpjakgdfjaglaaGl
namespace Go.Proofs.Ytnpjakgdfjaglaa
open Go

/-- An item: the number that names its key, and the one that says its weight. -/
abbrev It := Nat × Nat
def kyI (x : Nat) : ByteArray := ⟨#[107, UInt8.ofNat (97 + x % 26)]⟩
def wtI (x : It) : Int := 1 + ((x.2 % 32 : Nat) : Int)
theorem wt_bd (x : It) : 1 ≤ wtI x ∧ wtI x ≤ 32 := by unfold wtI; omega
theorem ky_size (x : Nat) : (kyI x).size = 2 := rfl
theorem nm_ky (x : Nat) : nmK (kyI x) = true := by
  have h : ∀ r, r < 26 → nmK ⟨#[107, UInt8.ofNat (97 + r)]⟩ = true := by decide
  exact h _ (Nat.mod_lt _ (by decide))
theorem ky_inj {x y : Nat} : kyI x = kyI y ↔ x % 26 = y % 26 := by
  constructor
  · intro h
    have h1 : (kyI x)[1]'(by rw [ky_size]; decide) = (kyI y)[1]'(by rw [ky_size]; decide) := by congr 1
    have h2 : UInt8.ofNat (97 + x % 26) = UInt8.ofNat (97 + y % 26) := h1
    have h3 := congrArg UInt8.toNat h2
    simp only [UInt8.toNat_ofNat'] at h3
    omega
  · intro h; unfold kyI; rw [h]
/-- The weight of a key in some items, the weight of all. -/
def exL : List It → ByteArray → Int
  | [], _ => 0
  | x :: l, k => (if k = kyI x.1 then wtI x else 0) + exL l k
def toL : List It → Int
  | [] => 0
  | x :: l => wtI x + toL l
theorem exL_app (a b : List It) (k : ByteArray) : exL (a ++ b) k = exL a k + exL b k := by
  induction a with
  | nil => simp [exL]
  | cons x a ih => rw [List.cons_append, exL, exL, ih]; omega
theorem toL_app (a b : List It) : toL (a ++ b) = toL a + toL b := by
  induction a with
  | nil => simp [toL]
  | cons x a ih => rw [List.cons_append, toL, toL, ih]; omega
theorem toL_bd (l : List It) : 0 ≤ toL l ∧ toL l ≤ 32 * (l.length : Int) := by
  induction l with
  | nil => simp [toL]
  | cons x l ih => have := wt_bd x; rw [toL, List.length_cons]; omega
theorem exL_bd (l : List It) (k : ByteArray) : 0 ≤ exL l k ∧ exL l k ≤ toL l := by
  induction l with
  | nil => simp [exL, toL]
  | cons x l ih => have := wt_bd x; rw [exL, toL]; split <;> omega
theorem exL_snoc (l : List It) (x : It) (k : ByteArray) : exL (l ++ [x]) k = exL l k + if k = kyI x.1 then wtI x else 0 := by rw [exL_app]; simp [exL]
theorem toL_snoc (l : List It) (x : It) : toL (l ++ [x]) = toL l + wtI x := by rw [toL_app]; simp [toL]
/-- A summary to which an item is added, and a stream. -/
noncomputable def stI (s : Su) (x : It) : Su := adS s (kyI x.1) (wtI x)
noncomputable def stL (mo : Int) (l : List It) : Su := l.foldl stI ⟨mo, 0, 0, []⟩
theorem stL_snoc (mo : Int) (l : List It) (x : It) : stL mo (l ++ [x]) = stI (stL mo l) x := by rw [stL, List.foldl_append]; rfl
theorem adS_mo (s : Su) (k : ByteArray) (w : Int) : (adS s k w).mo = s.mo := by unfold adS; split <;> rfl
theorem adS_to (s : Su) (k : ByteArray) (w : Int) : (adS s k w).to = s.to + w := by unfold adS; split <;> rfl
theorem st_mo (mo : Int) (l : List It) : (stL mo l).mo = mo := by
  have : ∀ (l : List It) (s : Su), (l.foldl stI s).mo = s.mo := by
    intro l
    induction l with
    | nil => intro s; rfl
    | cons x l ih => intro s; rw [List.foldl_cons, ih]; exact adS_mo _ _ _
  exact this l _
theorem st_to (mo : Int) (l : List It) : (stL mo l).to = toL l := by
  have : ∀ (l : List It) (s : Su), (l.foldl stI s).to = s.to + toL l := by
    intro l
    induction l with
    | nil => intro s; simp [toL]
    | cons x l ih => intro s; rw [List.foldl_cons, ih, toL]; show (adS s _ _).to + _ = _; rw [adS_to]; omega
  rw [stL, this]; show 0 + _ = _; omega
theorem st_gd {mo : Int} (hm : 1 ≤ mo) (l : List It) : Gd (stL mo l) (exL l) := by
  have : ∀ (l : List It) (s : Su) (f : ByteArray → Int), 1 ≤ s.mo → Gd s f → Gd (l.foldl stI s) fun k => f k + exL l k := by
    intro l
    induction l with
    | nil => intro s f _ h; exact h.ext fun k => by simp [exL]
    | cons x l ih =>
      intro s f h1 h
      rw [List.foldl_cons]
      refine (ih (stI s x) _ ?_ (h.add (nm_ky x.1) (wt_bd x).1 h1)).ext fun k => ?_
      · show 1 ≤ (adS _ _ _).mo; rw [adS_mo]; exact h1
      · rw [exL]; omega
  exact (this l ⟨mo, 0, 0, []⟩ _ hm (Gd.nil (by omega))).ext fun k => by simp
/-- A summary with small numbers. -/
structure Sl22 (s : Su) : Prop where
  sd : Sd s.cs
  ps : Ps s.cs
  nm : ∀ p ∈ s.cs, nmK p.1 = true
  mo : 1 ≤ s.mo ∧ s.mo ≤ 256
  len : (s.cs.length : Int) ≤ s.mo
  lo : 0 ≤ s.lo ∧ s.lo ≤ 1000000
  to : 0 ≤ s.to ∧ s.to ≤ 1000000
  sum : sm s.cs + s.lo * (s.mo + 1) ≤ s.to
theorem Gd.small {s : Su} {f : ByteArray → Int} (h : Gd s f) (hm : 1 ≤ s.mo ∧ s.mo ≤ 256) (ht : s.to ≤ 1000000) : Sl22 s := by
  have h1 := sm_nn h.ps.nn
  have h2 := h.sum
  have h3 := h.lo
  have h4 : s.lo ≤ s.lo * (s.mo + 1) := by
    have := Int.mul_le_mul_of_nonneg_left (show (1 : Int) ≤ s.mo + 1 by omega) h3
    omega
  exact ⟨h.sd, h.ps, h.nm, hm, h.len, ⟨h3, by omega⟩, ⟨by omega, ht⟩, h2⟩
theorem nm_size {k : ByteArray} (h : nmK k = true) : k.size ≤ 64 := by
  unfold nmK at h
  simp only [Bool.and_eq_true, decide_eq_true_eq] at h
  exact h.2.1
theorem Sl22.fit {s : Su} (h : Sl22 s) : Fit22 s.cs := by
  have h1 := sm_nn h.ps.nn
  have h2 : 0 ≤ s.lo * (s.mo + 1) := Int.mul_nonneg h.lo.1 (by have := h.mo; omega)
  refine ⟨h.ps.nn, by have := h.sum; have := h.to; omega, fun p hp => by have := nm_size (h.nm p hp); omega, ?_⟩
  have := h.len; have := h.mo; omega
theorem Sl22.nb {s : Su} (h : Sl22 s) : Nb s := ⟨⟨by have := h.mo; omega, by have := h.mo; omega⟩, ⟨by have := h.to; omega, by have := h.to; omega⟩, by have := h.lo; omega, by have := h.lo; omega⟩
theorem Sl22.size {s : Su} (h : Sl22 s) : s.cs.length ≤ 256 := by have := h.len; have := h.mo; omega
theorem Sl22.smb {s : Su} (h : Sl22 s) : sm s.cs ≤ 1000000 := by
  have h2 : 0 ≤ s.lo * (s.mo + 1) := Int.mul_nonneg h.lo.1 (by have := h.mo; omega)
  have := h.sum; have := h.to; omega
theorem Sl22.gtb {s : Su} (h : Sl22 s) (k : ByteArray) : 0 ≤ gt s.cs k ∧ gt s.cs k ≤ 1000000 := by
  have := gt_sm h.ps.nn k
  have := h.smb
  omega
theorem st_small {mo : Int} (hm : 1 ≤ mo ∧ mo ≤ 256) (l : List It) (hl : l.length ≤ 1000) : Sl22 (stL mo l) :=
  (st_gd hm.1 l).small (by rw [st_mo]; exact hm) (by rw [st_to]; have := toL_bd l; omega)
end Go.Proofs.Ytnpjakgdfjaglaa
