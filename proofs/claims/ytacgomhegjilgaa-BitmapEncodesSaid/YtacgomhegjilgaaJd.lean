/- Decode, plain: what both decoders return; the form of a set leads back; what is read without an error is a form. -/
import Derived.Test.YtacgomhegjilgaaJr
import Derived.Test.YtacgomhegjilgaaDa
namespace Go.Proofs.Ytacgomhegjilgaa
open Go.ChangeShapes Go.WideShapes Go.ChangeAt Go.RowKit Ts En

/-- A pair of numbers, and the reader behind it. -/
def rdP (s : ByteArray) (st : Rst) : Int × Int × Rst := ((rdG 0 scan s st).1, (rdG 0 scan s (rdG 0 scan s st).2).1, (rdG 0 scan s (rdG 0 scan s st).2).2)
def cntB (s : ByteArray) : Nat := (rdG 0 (scanZ 1048576 6) s (0, 0)).1.toNat
/-- The reader behind the first j pairs. -/
def stB (s : ByteArray) : Nat → Rst
  | 0 => (rdG 0 (scanZ 1048576 6) s (0, 0)).2
  | j + 1 => (rdP s (stB s j)).2.2
def goodB (nx m z : Int) : Prop := min nx 1 ≤ m ∧ m ≤ 1048576 ∧ 1 ≤ z ∧ z ≤ 1048576 - nx - m
instance (nx m z : Int) : Decidable (goodB nx m z) := by unfold goodB; infer_instance
abbrev Fdb := Option (List Iv × Int)
def stepB (x : Fdb) (m z : Int) : Fdb :=
  match x with
  | none => none
  | some (acc, nx) => if goodB nx m z then some (acc ++ [(nx + m, nx + m + z - 1)], nx + m + z) else none
/-- The runs of the first j pairs, and the row behind them, as long as they are a form. -/
def fdB (s : ByteArray) : Nat → Fdb
  | 0 => some ([], 0)
  | j + 1 => stepB (fdB s j) (rdP s (stB s j)).1 (rdP s (stB s j)).2.1
def dcE (s : ByteArray) : Int := if endE s (stB s (cntB s)) = 0 then (match fdB s (cntB s) with | none => 3 | some _ => 0) else endE s (stB s (cntB s))
def dcL (s : ByteArray) : List Iv := if endE s (stB s (cntB s)) = 0 then (match fdB s (cntB s) with | none => [] | some x => x.1) else []
theorem fdB_good {s : ByteArray} {j : Nat} {acc : List Iv} {nx : Int} (h : fdB s j = some (acc, nx)) (hg : goodB nx (rdP s (stB s j)).1 (rdP s (stB s j)).2.1) :
    fdB s (j + 1) = some (acc ++ [(nx + (rdP s (stB s j)).1, nx + (rdP s (stB s j)).1 + (rdP s (stB s j)).2.1 - 1)], nx + (rdP s (stB s j)).1 + (rdP s (stB s j)).2.1) := by
  show stepB (fdB s j) _ _ = _
  rw [h]; unfold stepB; dsimp only; rw [if_pos hg]
theorem fdB_bad {s : ByteArray} {j : Nat} {acc : List Iv} {nx : Int} (h : fdB s j = some (acc, nx)) (hg : ¬ goodB nx (rdP s (stB s j)).1 (rdP s (stB s j)).2.1) : fdB s (j + 1) = none := by
  show stepB (fdB s j) _ _ = _
  rw [h]; unfold stepB; dsimp only; rw [if_neg hg]
theorem fdB_none {s : ByteArray} {j : Nat} (h : fdB s j = none) : fdB s (j + 1) = none := by
  show stepB (fdB s j) _ _ = _
  rw [h]; rfl
/-- What the row behind the runs is. -/
def lstB (nx : Int) (T : List Iv) : Int := match T.getLast? with | none => nx | some z => z.2 + 1
theorem lstB_snoc (nx : Int) (T : List Iv) (y : Iv) : lstB nx (T ++ [y]) = y.2 + 1 := by unfold lstB; rw [List.getLast?_append]; rfl
/-- The numbers of some runs, from a row on. -/
def prB (nx : Int) : List Iv → List UInt8
  | [] => []
  | y :: T => num (y.1 - nx) ++ (num (y.2 - y.1 + 1) ++ prB (y.2 + 1) T)
theorem lstB_cons (nx : Int) (y : Iv) (T : List Iv) : lstB nx (y :: T) = lstB (y.2 + 1) T := by
  unfold lstB
  cases T with
  | nil => rfl
  | cons z T => rw [List.getLast?_cons_cons]; cases h : (z :: T).getLast? with
    | none => simp at h
    | some u => rfl
theorem prB_snoc (nx : Int) (T : List Iv) (y : Iv) : prB nx (T ++ [y]) = prB nx T ++ (num (y.1 - lstB nx T) ++ num (y.2 - y.1 + 1)) := by
  induction T generalizing nx with
  | nil => show num (y.1 - nx) ++ (num (y.2 - y.1 + 1) ++ []) = [] ++ (num (y.1 - nx) ++ _); rw [List.append_nil, List.nil_append]
  | cons z T ih =>
    show num (z.1 - nx) ++ (num (z.2 - z.1 + 1) ++ prB (z.2 + 1) (T ++ [y])) = _
    rw [ih, lstB_cons]
    show _ = num (z.1 - nx) ++ (num (z.2 - z.1 + 1) ++ prB (z.2 + 1) T) ++ _
    simp only [List.append_assoc]
theorem nx_lst (R : List Iv) (j : Nat) (h : j ≤ R.length) : nx R j = lstB 0 (R.take j) := by
  cases j with
  | zero => rfl
  | succ j =>
    rw [take_snoc R j (by omega), lstB_snoc]
    show (R.getD j (0, 0)).2 + 1 = _
    simp [List.getD, List.getElem?_eq_getElem (show j < R.length by omega)]
theorem frmB_pr (R : List Iv) : frmB R = num (R.length : Int) ++ prB 0 R := by
  have gen : ∀ j, j ≤ R.length → whole (pf R j) = num (R.length : Int) ++ prB 0 (R.take j) := by
    intro j
    induction j with
    | zero => intro _; show whole [num (R.length : Int)] = num (R.length : Int) ++ prB 0 []; simp [whole, prB]
    | succ j ih =>
      intro h
      have e : R.getD j (0, 0) = R[j]'(by omega) := by simp [List.getD, List.getElem?_eq_getElem (show j < R.length by omega)]
      show whole (num ((R.getD j (0, 0)).2 - (R.getD j (0, 0)).1 + 1) :: num ((R.getD j (0, 0)).1 - nx R j) :: pf R j) = _
      rw [e, whole_cons, whole_cons, ih (by omega), take_snoc R j (by omega), prB_snoc, nx_lst R j (by omega)]
      simp only [List.append_assoc]
  have := gen R.length (Nat.le_refl _)
  rw [List.take_length] at this
  exact this
/-- The runs of a set of rows, behind a row. -/
def ChB (nx : Int) : List Iv → Prop
  | [] => True
  | y :: T => min nx 1 ≤ y.1 - nx ∧ y.1 ≤ y.2 ∧ y.2 < 1048576 ∧ ChB (y.2 + 1) T
theorem prB_len (nx : Int) (T : List Iv) : T.length ≤ (prB nx T).length := by
  induction T generalizing nx with
  | nil => exact Nat.zero_le _
  | cons y T ih =>
    have h1 := ih (y.2 + 1)
    show T.length + 1 ≤ (num (y.1 - nx) ++ (num (y.2 - y.1 + 1) ++ prB (y.2 + 1) T)).length
    have h2 : 0 < (num (y.1 - nx)).length := by simp [num]
    rw [List.length_append, List.length_append]; omega
theorem fdB_run (s : ByteArray) (T : List Iv) : ∀ (j : Nat) (acc : List Iv) (n0 : Int) (p : Nat), 0 ≤ n0 → n0 ≤ 1048576 → fdB s j = some (acc, n0) → stB s j = (p, 0) → Hs s p (prB n0 T) → ChB n0 T →
    fdB s (j + T.length) = some (acc ++ T, lstB n0 T) ∧ stB s (j + T.length) = (p + (prB n0 T).length, 0) := by
  induction T with
  | nil => intro j acc n0 p _ _ hf hs _ _; rw [List.append_nil]; exact ⟨hf, hs⟩
  | cons y T ih =>
    intro j acc n0 p h0 h1 hf hs hh hc
    obtain ⟨c1, c2, c3, c4⟩ := hc
    have m1 := at_num (s := s) (p := p) (n := y.1 - n0) (by constructor <;> omega) hh.left
    have m2 := at_num (s := s) (p := p + (num (y.1 - n0)).length) (n := y.2 - y.1 + 1) (by constructor <;> omega) hh.right.left
    have hr := hh.right.right
    have e : rdP s (stB s j) = (y.1 - n0, y.2 - y.1 + 1, (p + (num (y.1 - n0)).length + (num (y.2 - y.1 + 1)).length, 0)) := by
      unfold rdP; rw [hs, m1]; dsimp only; rw [m2]
    have hg : goodB n0 (rdP s (stB s j)).1 (rdP s (stB s j)).2.1 := by rw [e]; unfold goodB; dsimp only; omega
    have hf2 := fdB_good hf hg
    rw [e] at hf2
    dsimp only at hf2
    have e1 : n0 + (y.1 - n0) = y.1 := by omega
    have e2 : y.1 + (y.2 - y.1 + 1) = y.2 + 1 := by omega
    have e3 : y.2 + 1 - 1 = y.2 := by omega
    rw [e1, e2, e3] at hf2
    have hs2 : stB s (j + 1) = (p + (num (y.1 - n0)).length + (num (y.2 - y.1 + 1)).length, 0) := by show (rdP s (stB s j)).2.2 = _; rw [e]
    obtain ⟨a, b⟩ := ih (j + 1) (acc ++ [y]) (y.2 + 1) _ (by omega) (by omega) hf2 hs2 hr c4
    refine ⟨?_, ?_⟩
    · rw [show j + (y :: T).length = j + 1 + T.length by rw [List.length_cons]; omega, a, lstB_cons, List.append_assoc]; rfl
    · rw [show j + (y :: T).length = j + 1 + T.length by rw [List.length_cons]; omega, b]
      show _ = (p + (num (y.1 - n0) ++ (num (y.2 - y.1 + 1) ++ prB (y.2 + 1) T)).length, 0)
      rw [List.length_append, List.length_append]
      congr 1; omega
theorem chB_of {N : List Iv} (h : Nrm N) (hb : ∀ x ∈ N, 0 ≤ x.1 ∧ x.2 ≤ 1048576) (n0 : Int) (hn : n0 = 0 ∨ (1 ≤ n0 ∧ ∀ x ∈ N, n0 < x.1)) : ChB n0 (rn N) := by
  induction N generalizing n0 with
  | nil => exact trivial
  | cons y N ih =>
    obtain ⟨nN, ly, fy⟩ := h.tail
    have hy := hb y (List.mem_cons_self ..)
    refine ⟨?_, ?_, ?_, ?_⟩
    · show min n0 1 ≤ y.1 - n0
      rcases hn with rfl | ⟨h1, h2⟩
      · omega
      · have := h2 y (List.mem_cons_self ..); omega
    · show y.1 ≤ y.2 - 1; omega
    · show y.2 - 1 < 1048576; omega
    · show ChB (y.2 - 1 + 1) (rn N)
      rw [show y.2 - 1 + 1 = y.2 by omega]
      exact ih nN (fun x hx => hb x (List.mem_cons_of_mem _ hx)) y.2 (Or.inr ⟨by omega, fun x hx => fy x hx⟩)
/-- The form of a set leads back to it. -/
theorem dc_frm {N : List Iv} (h : Nrm N) (hb : ∀ x ∈ N, 0 ≤ x.1 ∧ x.2 ≤ 1048576) (hl : N.length ≤ 1000000) (s : ByteArray) (hs : s.data.toList = frmB (rn N)) : dcE s = 0 ∧ dcL s = rn N := by
  rw [frmB_pr, rn_len] at hs
  have h0 : Hs s 0 (num (N.length : Int) ++ prB 0 (rn N)) := ⟨[], by rw [List.drop_zero, hs, List.append_nil]⟩
  have hc : rdG 0 (scanZ 1048576 6) s (0, 0) = ((N.length : Int), (0 + (num (N.length : Int)).length, 0)) := by
    refine rdG_at 0 (scanZ 1048576 6) s 0 _ _ ?_
    rw [List.drop_zero, hs]
    refine scanZ_at 1048576 6 N.length (by omega) ⟨by omega, by omega⟩ _ ?_
    have := prB_len 0 (rn N); rw [rn_len] at this; exact this
  have hn : cntB s = N.length := by unfold cntB; rw [hc]; simp
  have hst : stB s 0 = (0 + (num (N.length : Int)).length, 0) := by show (rdG 0 (scanZ 1048576 6) s (0, 0)).2 = _; rw [hc]
  obtain ⟨a, b⟩ := fdB_run s (rn N) 0 [] 0 _ (by omega) (by omega) rfl hst h0.right (chB_of h hb 0 (Or.inl rfl))
  rw [Nat.zero_add, rn_len] at a b
  have hsz : s.size = (num (N.length : Int)).length + (prB 0 (rn N)).length := by
    have := congrArg List.length hs
    rw [List.length_append] at this
    simpa using this
  have he : endE s (stB s (cntB s)) = 0 := by
    rw [hn, b]
    unfold endE
    dsimp only
    rw [if_pos rfl, if_neg (by omega)]
  unfold dcE dcL
  rw [if_pos he, if_pos he, hn, a]
  exact ⟨rfl, List.nil_append _⟩
/-- What stands before an error-free reader is the form of what was read. -/
theorem fdB_form (s : ByteArray) : ∀ (j : Nat) (acc : List Iv) (nx : Int), (stB s j).2 = 0 → fdB s j = some (acc, nx) →
    acc.length = j ∧ 0 ≤ nx ∧ nx ≤ 1048576 ∧ nx = lstB 0 acc ∧ (∀ y ∈ acc, (0 ≤ y.1 ∧ y.1 < 1048576) ∧ (0 ≤ y.2 ∧ y.2 < 1048576) ∧ y.1 ≤ y.2) ∧ Hs s (stB s 0).1 (prB 0 acc) ∧ (stB s j).1 = (stB s 0).1 + (prB 0 acc).length := by
  intro j
  induction j with
  | zero =>
    intro acc nx _ hf
    injection hf with hf
    injection hf with h1 h2
    subst h1 h2
    exact ⟨rfl, by omega, by omega, rfl, (fun y hy => nomatch hy), ⟨_, rfl⟩, rfl⟩
  | succ j ih =>
    intro acc nx he hf
    have he' : (rdG 0 scan s (rdG 0 scan s (stB s j)).2).2.2 = 0 := he
    obtain ⟨q1, q2, q3, q4⟩ := rdG_sound he'
    obtain ⟨p1, p2, p3, p4⟩ := rdG_sound q1
    obtain ⟨r1, e1, l1, i1⟩ := scan_sound p2
    obtain ⟨r2, e2, l2, i2⟩ := scan_sound q2
    rw [← p3] at e1 l1 i1
    rw [← q3] at e2 l2 i2
    rw [l1, Int.toNat_natCast] at p4
    rw [l2, Int.toNat_natCast] at q4
    cases hfj : fdB s j with
    | none => rw [fdB_none hfj] at hf; cases hf
    | some x =>
      obtain ⟨ac, n0⟩ := x
      obtain ⟨g1, g2, g3, g4, g5, g6, g7⟩ := ih ac n0 p1 hfj
      by_cases hg : goodB n0 (rdP s (stB s j)).1 (rdP s (stB s j)).2.1
      · rw [fdB_good hfj hg] at hf
        injection hf with hf
        injection hf with h1 h2
        subst h1 h2
        obtain ⟨m, hm⟩ : ∃ m, m = (rdP s (stB s j)).1 := ⟨_, rfl⟩
        obtain ⟨z, hz⟩ : ∃ z, z = (rdP s (stB s j)).2.1 := ⟨_, rfl⟩
        have hm2 : (rdG 0 scan s (stB s j)).1 = m := hm.symm
        have hz2 : (rdG 0 scan s (rdG 0 scan s (stB s j)).2).1 = z := hz.symm
        rw [← hm, ← hz] at hg ⊢
        rw [hm2] at e1 p4
        rw [hz2] at e2 q4
        unfold goodB at hg
        have hst : (stB s (j + 1)).1 = (stB s j).1 + (num m).length + (num z).length := by
          show (rdG 0 scan s (rdG 0 scan s (stB s j)).2).2.1 = _
          rw [q4, p4]
        have k1 : Hs s (stB s j).1 (num m) := ⟨r1, e1⟩
        have k2 : Hs s ((stB s j).1 + (num m).length) (num z) := ⟨r2, by rw [← p4]; exact e2⟩
        have hpr : prB 0 (ac ++ [(n0 + m, n0 + m + z - 1)]) = prB 0 ac ++ (num m ++ num z) := by
          rw [prB_snoc, ← g4]
          dsimp only
          rw [show n0 + m - n0 = m by omega, show n0 + m + z - 1 - (n0 + m) + 1 = z by omega]
        refine ⟨by rw [List.length_append, g1]; rfl, by omega, by omega, ?_, ?_, ?_, ?_⟩
        · rw [lstB_snoc]; dsimp only; omega
        · intro y hy
          rcases List.mem_append.1 hy with hy | hy
          · exact g5 y hy
          · rw [List.mem_singleton.1 hy]; dsimp only; omega
        · rw [hpr]
          exact g6.comb (by rw [← g7]; exact k1.comb k2)
        · rw [hpr, hst, g7, List.length_append, List.length_append]; omega
      · rw [fdB_bad hfj hg] at hf; cases hf
/-- What is decoded without an error has the string as its form. -/
theorem dc_sound (s : ByteArray) (hs : s.size ≤ 1000) (h : dcE s = 0) : bytesOf (frmB (dcL s)) = s ∧ (∀ y ∈ dcL s, (0 ≤ y.1 ∧ y.1 < 1048576) ∧ (0 ≤ y.2 ∧ y.2 < 1048576) ∧ y.1 ≤ y.2) ∧ (dcL s).length ≤ 1000 := by
  unfold dcE at h
  by_cases he : endE s (stB s (cntB s)) = 0
  · rw [if_pos he] at h
    unfold dcL
    rw [if_pos he]
    obtain ⟨he1, he2⟩ := end_ok he
    cases hf : fdB s (cntB s) with
    | none => rw [hf] at h; exact absurd h (by decide)
    | some x =>
      obtain ⟨acc, nx⟩ := x
      obtain ⟨g1, g2, g3, g4, g5, g6, g7⟩ := fdB_form s _ acc nx he1 hf
      dsimp only
      have h0 : ∀ j, (stB s j).2 = 0 → (stB s 0).2 = 0 := by
        intro j
        induction j with
        | zero => exact id
        | succ j ih => exact fun h => ih (rdG_sound (rdG_sound (show (rdG 0 scan s (rdG 0 scan s (stB s j)).2).2.2 = 0 from h)).1).1
      have hz : (rdG 0 (scanZ 1048576 6) s (0, 0)).2.2 = 0 := h0 _ he1
      obtain ⟨c1, c2, c3, c4⟩ := rdG_sound hz
      obtain ⟨n, k, e1, _, _, e2⟩ := scanZ_ok 1048576 6 _ (by decide) c2
      rw [e1] at c3 c4
      dsimp only at c3 c4
      obtain ⟨r, e3, e4, _⟩ := scan_sound (l := s.data.toList.drop 0) (by rw [e2])
      rw [e2] at e3 e4
      dsimp only at e3 e4
      have hn : cntB s = n := by unfold cntB; rw [c3]; simp
      have hk : k = (num (n : Int)).length := by omega
      have hst0 : (stB s 0).1 = (num (n : Int)).length := by show (rdG 0 (scanZ 1048576 6) s (0, 0)).2.1 = _; rw [c4, Int.toNat_natCast, ← hk]; omega
      have hacc : acc.length = n := by rw [g1, hn]
      have hh : Hs s 0 (frmB acc) := by
        rw [frmB_pr, hacc]
        refine Hs.comb ⟨r, e3⟩ ?_
        rw [Nat.zero_add, ← hst0]; exact g6
      have hlen : (frmB acc).length = (stB s (cntB s)).1 := by rw [frmB_pr, hacc, List.length_append, g7, hst0]
      refine ⟨hh.all (by rw [hlen]; exact he2), g5, ?_⟩
      have h1 := hh.le
      have h2 := prB_len 0 acc
      rw [frmB_pr, List.length_append] at h1
      omega
  · rw [if_neg he] at h; exact absurd h he
theorem cntB_le (s : ByteArray) : cntB s ≤ s.size ∧ (rdG 0 (scanZ 1048576 6) s (0, 0)).1 = (cntB s : Int) := by
  by_cases h : (rdG 0 (scanZ 1048576 6) s (0, 0)).2.2 = 0
  · obtain ⟨c1, c2, c3, c4⟩ := rdG_sound h
    obtain ⟨n, k, e1, e0, _, e2⟩ := scanZ_ok 1048576 6 _ (by decide) c2
    rw [e1] at c3
    dsimp only at c3
    have hn : cntB s = n := by unfold cntB; rw [c3]; simp
    rw [hn, c3]
    refine ⟨?_, rfl⟩
    rw [drop_len] at e0
    dsimp only at e0
    omega
  · have hz := rdG_zero 0 (scanZ 1048576 6) s (0, 0) h
    have hn : cntB s = 0 := by unfold cntB; rw [hz]; rfl
    rw [hn, hz]
    exact ⟨Nat.zero_le _, rfl⟩
/-- An error stays. -/
theorem stB_err (s : ByteArray) (j : Nat) (h : (stB s j).2 ≠ 0) : stB s (j + 1) = stB s j := by
  have h1 := rdG_err 0 scan s (stB s j) h
  show (rdG 0 scan s (rdG 0 scan s (stB s j)).2).2 = _
  rw [h1, h1]
theorem stB_stay (s : ByteArray) (j n : Nat) (hj : j ≤ n) (h : (stB s j).2 ≠ 0) : stB s n = stB s j := by
  obtain ⟨k, rfl⟩ : ∃ k, n = j + k := ⟨n - j, by omega⟩
  induction k with
  | zero => rfl
  | succ k ih =>
    have e := ih (by omega)
    rw [Nat.add_succ, stB_err s (j + k) (by rw [e]; exact h), e]
theorem endE_err (s : ByteArray) (st : Rst) (h : st.2 ≠ 0) : endE s st = st.2 := by unfold endE; rw [if_neg h]
end Go.Proofs.Ytacgomhegjilgaa
