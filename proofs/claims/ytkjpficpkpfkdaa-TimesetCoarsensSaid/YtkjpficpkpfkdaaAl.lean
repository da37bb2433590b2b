/- Plain facts: the algebra of sets, lengths of unions; Equal and Length of slices that read as lists. -/
import Derived.Test.YtkjpficpkpfkdaaKn
namespace Go.Proofs.Ytkjpficpkpfkdaa
open Go.ChangeShapes Go.WideShapes Go.ChangeAt Go.RowKit Ts

theorem rk_step {L : List Iv} (hL : Nrm L) (n : Int) : rk (n + 1) L = rk n L + (if has n L = true then 1 else 0) := by
  induction L with
  | nil => rfl
  | cons x L ih =>
    obtain ⟨nL, lx, fx⟩ := hL.tail
    have e : has n (x :: L) = ((decide (x.1 ≤ n) && decide (n < x.2)) || has n L) := by simp [has]
    rw [rk_cons, rk_cons, ih nL, e]
    by_cases h1 : x.1 ≤ n
    · by_cases h2 : n < x.2
      · have hf : has n L = false := by
          rw [Bool.eq_false_iff]; intro h
          obtain ⟨y, hy, a, _⟩ := (has_in n L).1 h
          have := fx y hy; omega
        rw [hf, decide_eq_true h1, decide_eq_true h2, if_pos (by omega : x.1 < n + 1)]
        by_cases h3 : x.1 < n
        · rw [if_pos h3]; simp; omega
        · rw [if_neg h3]; simp; omega
      · rw [decide_eq_false h2, Bool.and_false, Bool.false_or, if_pos (by omega : x.1 < n + 1), if_pos (by omega : x.1 < n)]
        have : min (n + 1) x.2 = min n x.2 := by omega
        rw [this]; omega
    · rw [decide_eq_false h1, Bool.false_and, Bool.false_or, if_neg (show ¬ x.1 < n + 1 by omega), if_neg (show ¬ x.1 < n by omega)]; omega
theorem has_cmb (f : Bool → Bool → Bool) (hf : f false false = false) {a b : List Iv} (ha : Nrm a) (hb : Nrm b) (n : Int) : has n (cmbL f a b) = f (has n a) (has n b) := by
  rw [Bool.eq_iff_iff, has_in, (cmbL_spec f hf a b ha hb).2 n]
theorem has_ext {L M : List Iv} (hL : Nrm L) (hM : Nrm M) (h : ∀ n, has n L = has n M) : L = M :=
  nrm_ext hL hM (fun n => by rw [← has_in, ← has_in, h n])
theorem rk_incl {a b u i : List Iv} (ha : Nrm a) (hb : Nrm b) (hu : Nrm u) (hi : Nrm i) (h1 : ∀ n, has n u = (has n a || has n b)) (h2 : ∀ n, has n i = (has n a && has n b)) (lo : Int) (la : ∀ x ∈ a, lo ≤ x.1) (lb : ∀ x ∈ b, lo ≤ x.1) (lu : ∀ x ∈ u, lo ≤ x.1) (li : ∀ x ∈ i, lo ≤ x.1) (m : Nat) :
    rk (lo + m) a + rk (lo + m) b = rk (lo + m) u + rk (lo + m) i := by
  induction m with
  | zero =>
    have e : lo + ((0 : Nat) : Int) = lo := by omega
    rw [e, rk_far lo a la, rk_far lo b lb, rk_far lo u lu, rk_far lo i li]
  | succ m ih =>
    have e : lo + ((m + 1 : Nat) : Int) = (lo + m) + 1 := by omega
    rw [e, rk_step ha, rk_step hb, rk_step hu, rk_step hi, h1, h2]
    cases has (lo + m) a <;> cases has (lo + m) b <;> simp <;> omega
theorem len_incl {n1 n2 n3 n4 : Nat} {a b u i : List Iv} (ha : Ok n1 a) (hb : Ok n2 b) (hu : Ok n3 u) (hi : Ok n4 i) (h1 : ∀ n, has n u = (has n a || has n b)) (h2 : ∀ n, has n i = (has n a && has n b)) : len a + len b = len u + len i := by
  have h := rk_incl ha.nrm hb.nrm hu.nrm hi.nrm h1 h2 (-1000000000000) (fun x hx => (ha.bd x hx).1.1) (fun x hx => (hb.bd x hx).1.1) (fun x hx => (hu.bd x hx).1.1) (fun x hx => (hi.bd x hx).1.1) 2000000000000
  have e : (-1000000000000 : Int) + ((2000000000000 : Nat) : Int) = 1000000000000 := by omega
  rw [e, rk_full _ a (fun x hx => ⟨ha.nrm.1 x hx, (ha.bd x hx).2.2⟩), rk_full _ b (fun x hx => ⟨hb.nrm.1 x hx, (hb.bd x hx).2.2⟩), rk_full _ u (fun x hx => ⟨hu.nrm.1 x hx, (hu.bd x hx).2.2⟩), rk_full _ i (fun x hx => ⟨hi.nrm.1 x hx, (hi.bd x hx).2.2⟩)] at h
  exact h
theorem len_ok {n : Nat} {L : List Iv} (h : Ok n L) : 0 ≤ len L ∧ len L ≤ (n : Int) * 2000000000000 := by
  have h1 := rk_bound (n := 1000000000000) h.nrm.1 h.bd
  rw [rk_full _ L (fun x hx => ⟨h.nrm.1 x hx, (h.bd x hx).2.2⟩)] at h1
  have := h.len
  omega
theorem eq_sl {v u : Value} {L M : List Iv} (hL : L.length ≤ 1000000) (hM : M.length ≤ 1000000) (w : World) (hv : Sl w v L) (hu : Sl w u M) :
    Calls Try.prog 18 #[v, u] w fun e w' => e = .returned (.bool (decide (L = M))) ∧ Below w.heap.size w w' := by
  obtain ⟨A, c, rfl, _, _, _, hR⟩ := hv
  obtain ⟨B, d, rfl, _, _, _, hS⟩ := hu
  exact ref_equal A c L hL B d M hM w hR hS
theorem len_sl {v : Value} {L : List Iv} (h : Ok 1000 L) (w : World) (hv : Sl w v L) :
    Calls Try.prog 24 #[v] w fun e w' => e = .returned (.int .i64 (len L)) ∧ Below w.heap.size w w' := by
  obtain ⟨A, c, rfl, _, _, _, hR⟩ := hv
  exact length_any A c L h.nrm.1 h.bd h.len w hR
theorem or_ok {n m : Nat} {a b : List Iv} (ha : Ok n a) (hb : Ok m b) : Ok (2 * n + 2 * m) (cmbL orF a b) := cmb_ok orF rfl ha hb
theorem and_ok {n m : Nat} {a b : List Iv} (ha : Ok n a) (hb : Ok m b) : Ok (2 * n + 2 * m) (cmbL andF a b) := cmb_ok andF rfl ha hb
theorem but_ok {n m : Nat} {a b : List Iv} (ha : Ok n a) (hb : Ok m b) : Ok (2 * n + 2 * m) (cmbL butF a b) := cmb_ok butF rfl ha hb
theorem has_or {a b : List Iv} (ha : Nrm a) (hb : Nrm b) (n : Int) : has n (cmbL orF a b) = (has n a || has n b) := has_cmb orF rfl ha hb n
theorem has_and {a b : List Iv} (ha : Nrm a) (hb : Nrm b) (n : Int) : has n (cmbL andF a b) = (has n a && has n b) := has_cmb andF rfl ha hb n
theorem has_but {a b : List Iv} (ha : Nrm a) (hb : Nrm b) (n : Int) : has n (cmbL butF a b) = (has n a && !has n b) := has_cmb butF rfl ha hb n
theorem nil_of_has {L : List Iv} (hL : Nrm L) (h : ∀ n, has n L = false) : L = [] := has_ext hL Nrm.nil (fun n => by rw [h n]; rfl)
end Go.Proofs.Ytkjpficpkpfkdaa
