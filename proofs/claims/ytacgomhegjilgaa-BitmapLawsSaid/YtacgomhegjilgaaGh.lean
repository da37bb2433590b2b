/- The operations on sets, with the resulting set named ahead. -/
import Derived.Test.YtacgomhegjilgaaGg
namespace Go.Proofs.Ytacgomhegjilgaa
open Go.ChangeShapes Go.WideShapes Go.ChangeAt Go.RowKit Ts

/-- N is the set that an operation makes of two. -/
def Cmb (f : Bool → Bool → Bool) (A B N : List Iv) : Prop := Nrm N ∧ ∀ n, In n N ↔ f (has n A) (has n B) = true
theorem Cmb.eq {f : Bool → Bool → Bool} {A B N M : List Iv} (h : Cmb f A B N) (h2 : Nrm M ∧ ∀ n, In n M ↔ f (has n A) (has n B) = true) : M = N :=
  nrm_ext h2.1 h.1 (fun n => (h2.2 n).trans (h.2 n).symm)
theorem Cmb.has {f : Bool → Bool → Bool} {A B N : List Iv} (h : Cmb f A B N) (n : Int) : Ts.has n N = f (Ts.has n A) (Ts.has n B) := by
  rw [Bool.eq_iff_iff, has_in]; exact h.2 n
theorem has_ext2 {A B : List Iv} (hA : Nrm A) (hB : Nrm B) (h : ∀ n, has n A = has n B) : A = B :=
  nrm_ext hA hB (fun n => by rw [← has_in, ← has_in, h n])
/-- The bounds of some intervals. -/
def bdsL (A : List Iv) : List Int := A.map (fun x => x.1) ++ A.map (fun x => x.2)
theorem turn_bd {A : List Iv} {n : Int} (h : has n A ≠ has (n - 1) A) : n ∈ bdsL A := by
  unfold bdsL
  cases h1 : has n A with
  | true =>
    obtain ⟨x, hx, h2, h3⟩ := (has_in n A).1 h1
    refine List.mem_append_left _ (List.mem_map.2 ⟨x, hx, ?_⟩)
    by_cases h4 : x.1 ≤ n - 1
    · exact absurd (h1.trans ((has_in (n - 1) A).2 ⟨x, hx, h4, by omega⟩).symm) h
    · omega
  | false =>
    cases h5 : has (n - 1) A with
    | false => exact absurd (h1.trans h5.symm) h
    | true =>
      obtain ⟨x, hx, h2, h3⟩ := (has_in (n - 1) A).1 h5
      refine List.mem_append_right _ (List.mem_map.2 ⟨x, hx, ?_⟩)
      by_cases h4 : n < x.2
      · have := (has_in n A).2 ⟨x, hx, by omega, h4⟩
        rw [h1] at this; cases this
      · omega
theorem inc_sub {L M : List Int} (h : Inc L) (hs : ∀ x ∈ L, x ∈ M) : L.length ≤ M.length := by
  induction L generalizing M with
  | nil => exact Nat.zero_le _
  | cons x L ih =>
    obtain ⟨f, i⟩ := List.pairwise_cons.1 h
    have hx := hs x (List.mem_cons_self ..)
    have h1 := ih (M := M.erase x) i (fun y hy => by
      have := f y hy
      exact (List.mem_erase_of_ne (by omega)).2 (hs y (List.mem_cons_of_mem _ hy)))
    have h2 := List.length_erase_of_mem hx
    have h3 := List.length_pos_of_mem hx
    rw [List.length_cons]
    omega
theorem cmb_len {f : Bool → Bool → Bool} {A B N : List Iv} (h : Cmb f A B N) : N.length ≤ 2 * A.length + 2 * B.length := by
  have hi : Inc (N.map (fun x => x.1)) := List.pairwise_map.2 (h.1.2.imp_of_mem (fun {a b} ha _ hab => by have := h.1.1 a ha; omega))
  have hs := inc_sub (M := bdsL A ++ bdsL B) hi (fun n hn => by
    obtain ⟨x, hx, rfl⟩ := List.mem_map.1 hn
    have hp := h.1.1 x hx
    have h1 : Ts.has x.1 N = true := (has_in _ _).2 ⟨x, hx, by omega, hp⟩
    have h2 : Ts.has (x.1 - 1) N = false := by
      cases h3 : Ts.has (x.1 - 1) N with
      | false => rfl
      | true =>
        exfalso
        obtain ⟨y, hy, h4, h5⟩ := (has_in _ _).1 h3
        have hxy : x ≠ y := fun e => by subst e; omega
        obtain ⟨i, hi, rfl⟩ := List.getElem_of_mem hx
        obtain ⟨j, hj, rfl⟩ := List.getElem_of_mem hy
        have hij : i ≠ j := fun e => hxy (by subst e; rfl)
        rcases Nat.lt_or_gt_of_ne hij with hl | hl
        · have := List.pairwise_iff_getElem.1 h.1.2 i j hi hj hl; omega
        · have := List.pairwise_iff_getElem.1 h.1.2 j i hj hi hl; omega
    rw [h.has] at h1 h2
    refine List.mem_append.2 ?_
    by_cases ha : Ts.has x.1 A = Ts.has (x.1 - 1) A
    · by_cases hb : Ts.has x.1 B = Ts.has (x.1 - 1) B
      · rw [ha, hb, h2] at h1; cases h1
      · exact Or.inr (turn_bd hb)
    · exact Or.inl (turn_bd ha))
  rw [List.length_map, List.length_append] at hs
  unfold bdsL at hs
  simp only [List.length_append, List.length_map] at hs
  omega
theorem ex_cmb (f : Bool → Bool → Bool) (hff : f false false = false) {n m : Nat} {A B : List Iv} (hA : Bs n A) (hB : Bs m B) : ∃ N, Cmb f A B N ∧ Bs (2 * n + 2 * m) N := by
  have hs := setL_spec ((rowsL (rn A) ++ rowsL (rn B)).filter (fun k => f (has k A) (has k B)))
  have hc : Cmb f A B (setL ((rowsL (rn A) ++ rowsL (rn B)).filter (fun k => f (has k A) (has k B)))) := by
    refine ⟨hs.1, fun k => (hs.2 k).trans ?_⟩
    rw [List.mem_filter, List.mem_append, (rows_spec hA.nrm).2, (rows_spec hB.nrm).2]
    refine ⟨fun h => h.2, fun h => ⟨?_, h⟩⟩
    rw [← has_in, ← has_in]
    cases h1 : has k A with
    | true => exact Or.inl rfl
    | false =>
      cases h2 : has k B with
      | true => exact Or.inr rfl
      | false => rw [h1, h2, hff] at h; cases h
  refine ⟨_, hc, hc.1, Nat.le_trans (cmb_len hc) ?_, fun k hk => ?_⟩
  · have := hA.len; have := hB.len; omega
  · have h := (hs.2 k).1 hk
    have h2 := (List.mem_filter.1 h).1
    rcases List.mem_append.1 h2 with h3 | h3
    · exact hA.row k (((rows_spec hA.nrm).2 k).1 h3)
    · exact hB.row k (((rows_spec hB.nrm).2 k).1 h3)
theorem Bs.more {n m : Nat} {A : List Iv} (h : Bs n A) (hn : n ≤ m) : Bs m A := ⟨h.nrm, Nat.le_trans h.len hn, h.row⟩
abbrev fAnd : Bool → Bool → Bool := fun x y => x && y
abbrev fOr : Bool → Bool → Bool := fun x y => x || y
abbrev fBut : Bool → Bool → Bool := fun x y => x && !y
/-- A call that returns a set. -/
abbrev RetS (N : List Iv) (e : Ending) (w' : World) : Prop := ∃ r, e = .returned (.agg #[r]) ∧ Sl w' r (rn N)
theorem and_set {u v : Value} {A B N : List Iv} (hA : Bs 90000 A) (hB : Bs 90000 B) (hN : Cmb fAnd A B N) (w : World) (hu : Sl w u (rn A)) (hv : Sl w v (rn B)) :
    Calls Try.prog 33 #[.agg #[u], .agg #[v]] w fun e w' => RetS N e w' ∧ Below w.heap.size w w' := by
  refine (and_sl hA hB w hu hv).mono ?_
  rintro e w' ⟨⟨r, M, rfl, hown, hM⟩, hb⟩
  obtain rfl := hN.eq hM
  exact ⟨⟨r, rfl, sl_own hown⟩, hb⟩
theorem or_set {u v : Value} {A B N : List Iv} (hA : Bs 90000 A) (hB : Bs 90000 B) (hN : Cmb fOr A B N) (w : World) (hu : Sl w u (rn A)) (hv : Sl w v (rn B)) :
    Calls Try.prog 35 #[.agg #[u], .agg #[v]] w fun e w' => RetS N e w' ∧ Below w.heap.size w w' := by
  refine (or_sl hA hB w hu hv).mono ?_
  rintro e w' ⟨⟨r, M, rfl, hown, hM⟩, hb⟩
  obtain rfl := hN.eq hM
  exact ⟨⟨r, rfl, sl_own hown⟩, hb⟩
theorem but_set {u v : Value} {A B N : List Iv} (hA : Bs 90000 A) (hB : Bs 90000 B) (hN : Cmb fBut A B N) (w : World) (hu : Sl w u (rn A)) (hv : Sl w v (rn B)) :
    Calls Try.prog 37 #[.agg #[u], .agg #[v]] w fun e w' => RetS N e w' ∧ Below w.heap.size w w' := by
  refine (but_sl hA hB w hu hv).mono ?_
  rintro e w' ⟨⟨r, M, rfl, hown, hM⟩, hb⟩
  obtain rfl := hN.eq hM
  exact ⟨⟨r, rfl, sl_own hown⟩, hb⟩
theorem not_set {v : Value} {B N : List Iv} (hB : Bs 90000 B) (size : Int) (h : 0 ≤ size ∧ size ≤ 1048576) (hN : Cmb fBut (allL size) B N) (w : World) (hv : Sl w v (rn B)) :
    Calls Try.prog 26 #[.agg #[v], .int .i64 size] w fun e w' => (∃ r, e = .returned (.tuple #[.agg #[r], .int .i64 0]) ∧ Sl w' r (rn N)) ∧ Below w.heap.size w w' := by
  refine (not_ok hB size h w hv).mono ?_
  rintro e w' ⟨⟨r, M, rfl, hown, hM⟩, hb⟩
  obtain rfl := hN.eq hM
  exact ⟨⟨r, rfl, sl_own hown⟩, hb⟩
theorem all_one (size : Int) (h : 0 ≤ size ∧ size ≤ 1048576) : Bs 1 (allL size) := ⟨(all_bs h).nrm, (by unfold allL; split <;> simp), (all_bs h).row⟩
theorem sub_true {u v : Value} {A B : List Iv} (hA : Bs 90000 A) (hB : Bs 90000 B) (hs : ∀ n, has n A = true → has n B = true) (w : World) (hu : Sl w u (rn A)) (hv : Sl w v (rn B)) :
    Calls Try.prog 41 #[.agg #[u], .agg #[v]] w fun e w' => e = .returned (.bool true) ∧ Below w.heap.size w w' := by
  refine (subset_sl hA hB w hu hv).mono ?_
  rintro e w' ⟨⟨M, rfl, hM⟩, hb⟩
  obtain rfl : M = [] := nrm_ext hM.1 Nrm.nil (fun n => (hM.2 n).trans ⟨(fun h => by
    simp only [Bool.and_eq_true, Bool.not_eq_true'] at h
    have h2 := h.2
    rw [hs n h.1] at h2
    cases h2), (fun h => absurd h In.nil)⟩)
  exact ⟨rfl, hb⟩
theorem eq_true {u v : Value} (L : List Iv) (hL : L.length ≤ 1000000) (w : World) (hv : Sl w v L) (hu : Sl w u L) :
    Calls Try.prog 39 #[.agg #[v], .agg #[u]] w fun e w' => e = .returned (.bool true) ∧ Below w.heap.size w w' := by
  have h := equal_sl hL hL w hv hu
  rw [show decide (L = L) = true by simp] at h
  exact h
/-- All rows. -/
def univ : List Int := (List.range 1048576).map (fun i : Nat => (i : Int))
theorem univ_inc : Inc univ := by
  unfold univ
  refine List.pairwise_map.2 (List.pairwise_lt_range.imp (fun {a b} h => ?_))
  show (a : Int) < (b : Int)
  omega
theorem univ_mem (n : Int) : n ∈ univ ↔ isR n = true := by
  unfold univ
  rw [isR_iff]
  constructor
  · intro h
    obtain ⟨i, hi, rfl⟩ := List.mem_map.1 h
    have := List.mem_range.1 hi
    omega
  · intro h
    exact List.mem_map.2 ⟨n.toNat, List.mem_range.2 (by omega), by omega⟩
theorem univ_len : univ.length = 1048576 := by unfold univ; rw [List.length_map, List.length_range]
theorem cnt_univ {n : Nat} {N : List Iv} (h : Bs n N) : cnt (rn N) = (univ.countP (fun k => has k N) : Nat) := by
  have e : rowsL (rn N) = univ.filter (fun k => has k N) := rows_eq h.nrm (univ_inc.filter _) (fun k => by
    rw [List.mem_filter, univ_mem, has_in]
    exact ⟨fun h => h.2, fun hk => ⟨h.row k hk, hk⟩⟩)
  rw [← rowsL_len (bs_rc h), e, List.countP_eq_length_filter]
theorem countP_sum (L : List Int) (f g : Int → Bool) : L.countP (fun k => f k || g k) + L.countP (fun k => f k && g k) = L.countP f + L.countP g := by
  induction L with
  | nil => rfl
  | cons x L ih =>
    simp only [List.countP_cons]
    cases f x <;> cases g x <;> simp <;> omega
theorem countP_not (L : List Int) (f : Int → Bool) : L.countP (fun k => !f k) + L.countP f = L.length := by
  induction L with
  | nil => rfl
  | cons x L ih =>
    simp only [List.countP_cons, List.length_cons]
    cases f x <;> simp <;> omega
theorem cnt_sum {n m p q : Nat} {A B U I : List Iv} (hA : Bs n A) (hB : Bs m B) (hU : Cmb fOr A B U) (hI : Cmb fAnd A B I) (bU : Bs p U) (bI : Bs q I) : cnt (rn U) + cnt (rn I) = cnt (rn A) + cnt (rn B) := by
  rw [cnt_univ hA, cnt_univ hB, cnt_univ bU, cnt_univ bI]
  have e1 : (fun k => has k U) = fun k => has k A || has k B := funext (fun k => hU.has k)
  have e2 : (fun k => has k I) = fun k => has k A && has k B := funext (fun k => hI.has k)
  rw [e1, e2]
  have := countP_sum univ (fun k => has k A) (fun k => has k B)
  omega
theorem cnt_not {n p : Nat} {A N : List Iv} (hA : Bs n A) (hN : Cmb fBut (allL 1048576) A N) (bN : Bs p N) : cnt (rn N) = 1048576 - cnt (rn A) := by
  rw [cnt_univ hA, cnt_univ bN]
  have e1 : univ.countP (fun k => has k N) = univ.countP (fun k => !has k A) := List.countP_congr (fun k hk => by
    have h1 : has k (allL 1048576) = true := (has_in _ _).2 ((all_in _ _).2 (by have := (isR_iff k).1 ((univ_mem k).1 hk); omega))
    rw [hN.has, h1]
    simp)
  rw [e1]
  have := countP_not univ (fun k => has k A)
  rw [univ_len] at this
  omega
end Go.Proofs.Ytacgomhegjilgaa
