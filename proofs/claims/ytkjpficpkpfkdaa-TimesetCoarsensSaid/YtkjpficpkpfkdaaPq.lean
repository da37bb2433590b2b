/- The pieces of two sets, plain; the program's bound. -/
import Derived.Test.YtkjpficpkpfkdaaJo
namespace Go.Proofs.Ytkjpficpkpfkdaa
open Go.ChangeShapes Go.WideShapes Go.ChangeAt Go.RowKit Ts

/-- A piece: between which integers; whether it lies in a, in b. -/
abbrev Pc := Iv × Bool × Bool
def pcs : Nat → Bool → Bool → Int → List Int → List Int → List Pc
  | 0, _, _, _, _, _ => []
  | k + 1, p, q, o, A, B =>
    if A = [] ∧ B = [] then [] else
      (if (p || q) = true then [((o, nb A B), p, q)] else []) ++ pcs k (Ts.flip (nb A B) p A) (Ts.flip (nb A B) q B) (nb A B) (adv (nb A B) A) (adv (nb A B) B)
/-- What of some pieces is kept. -/
def kept (f : Bool → Bool → Bool) (X : List Pc) : List Iv := (X.filter (fun x => f x.2.1 x.2.2)).map Prod.fst
theorem kept_snoc (f : Bool → Bool → Bool) (X : List Pc) (x : Pc) : kept f (X ++ [x]) = kept f X ++ (if f x.2.1 x.2.2 = true then [x.1] else []) := by
  unfold kept
  rw [List.filter_append, List.map_append]
  by_cases h : f x.2.1 x.2.2 = true
  · rw [if_pos h]; simp [h]
  · rw [if_neg h]; simp [h]
theorem kept_pcs (f : Bool → Bool → Bool) (hf : f false false = false) (k : Nat) (p q : Bool) (o : Int) (A B : List Int) : kept f (pcs k p q o A B) = swp f k p q o A B := by
  induction k generalizing p q o A B with
  | zero => rfl
  | succ k ih =>
    show kept f (if A = [] ∧ B = [] then [] else _) = (if A = [] ∧ B = [] then [] else _)
    by_cases he : A = [] ∧ B = []
    · rw [if_pos he, if_pos he]; rfl
    · rw [if_neg he, if_neg he, ← ih]
      unfold kept
      rw [List.filter_append, List.map_append]
      congr 1
      cases p <;> cases q <;> simp [hf] <;> (cases h : f _ _ <;> simp [h])
/-- Two sets combined, as the program does it. -/
def cmbL (f : Bool → Bool → Bool) (a b : List Iv) : List Iv := (kept f (pcs ((fl a).length + (fl b).length) false false 0 (fl a) (fl b))).foldl jn []
theorem cmbL_spec (f : Bool → Bool → Bool) (hf : f false false = false) (a b : List Iv) (ha : Nrm a) (hb : Nrm b) : Nrm (cmbL f a b) ∧ ∀ n, In n (cmbL f a b) ↔ f (has n a) (has n b) = true := by
  unfold cmbL
  rw [kept_pcs f hf]
  exact swp_all f hf a b ha hb 0 _ (Nat.le_refl _)
/-- The bound with an index, or more than all. -/
def bnd (L : List Iv) (k : Nat) : Int := ((fl L)[k]?).getD 9223372036854775807
theorem bnd_far (L : List Iv) (k : Nat) (h : 2 * L.length ≤ k) : bnd L k = 9223372036854775807 := by
  unfold bnd; rw [List.getElem?_eq_none (by rw [fl_len]; exact h)]; rfl
theorem bnd_even (L : List Iv) (j : Nat) (h : j < L.length) : bnd L (2 * j) = L[j].1 := by
  unfold bnd; rw [(fl_get L j h).1]; rfl
theorem bnd_odd (L : List Iv) (j : Nat) (h : j < L.length) : bnd L (2 * j + 1) = L[j].2 := by
  unfold bnd; rw [(fl_get L j h).2]; rfl
theorem fl_mem (L : List Iv) (v : Int) (h : v ∈ fl L) : ∃ x ∈ L, v = x.1 ∨ v = x.2 := by
  obtain ⟨x, hx, hv⟩ := List.mem_flatMap.1 h
  simp at hv
  exact ⟨x, hx, hv⟩
theorem drop_one {F : List Int} {k : Nat} {v : Int} (h : F[k]? = some v) : F.drop k = v :: F.drop (k + 1) := by
  obtain ⟨hk, e⟩ := List.getElem?_eq_some_iff.1 h
  rw [List.drop_eq_getElem_cons hk, e]
theorem odd_next (k : Nat) : decide ((k + 1) % 2 = 1) = !decide (k % 2 = 1) := by
  rcases Nat.mod_two_eq_zero_or_one k with h | h
  · rw [decide_eq_true (by omega), decide_eq_false (by omega)]; rfl
  · rw [decide_eq_false (by omega), decide_eq_true (by omega)]; rfl
theorem adv_at {F : List Int} {k : Nat} {t : Int} (h : F[k]? = some t) : adv t (F.drop k) = F.drop (k + 1) ∧ Ts.flip t (decide (k % 2 = 1)) (F.drop k) = decide ((k + 1) % 2 = 1) := by
  rw [drop_one h, adv_hit rfl, flip_hit rfl, odd_next]; exact ⟨rfl, rfl⟩
theorem adv_past {F : List Int} {k : Nat} {t : Int} (h : F[k]? ≠ some t) : adv t (F.drop k) = F.drop k ∧ Ts.flip t (decide (k % 2 = 1)) (F.drop k) = decide (k % 2 = 1) := by
  cases e : F[k]? with
  | none =>
    have : F.drop k = [] := List.drop_eq_nil_of_le (List.getElem?_eq_none_iff.1 e)
    rw [this]; exact ⟨rfl, rfl⟩
  | some v =>
    have hv : ¬ v = t := fun hvt => h (by rw [e, hvt])
    rw [drop_one e, adv_miss hv, flip_miss hv]; exact ⟨rfl, rfl⟩
theorem nb_bnd (a b : List Iv) (i j : Nat) (h : i < 2 * a.length ∨ j < 2 * b.length) (ha : ∀ v ∈ fl a, v < 9223372036854775807) (hb : ∀ v ∈ fl b, v < 9223372036854775807) :
    nb ((fl a).drop i) ((fl b).drop j) = min (bnd a i) (bnd b j) ∧ min (bnd a i) (bnd b j) < 9223372036854775807 := by
  have la := fl_len a
  have lb := fl_len b
  unfold bnd
  cases e1 : (fl a)[i]? with
  | none =>
    have h1 : (fl a).drop i = [] := List.drop_eq_nil_of_le (List.getElem?_eq_none_iff.1 e1)
    have h1' := List.getElem?_eq_none_iff.1 e1
    cases e2 : (fl b)[j]? with
    | none => have := List.getElem?_eq_none_iff.1 e2; omega
    | some u =>
      have := hb u (List.mem_of_getElem? e2)
      rw [h1, drop_one e2]
      constructor
      · show u = min _ u; simp; omega
      · simp; omega
  | some v =>
    have hv := ha v (List.mem_of_getElem? e1)
    cases e2 : (fl b)[j]? with
    | none =>
      have h2 : (fl b).drop j = [] := List.drop_eq_nil_of_le (List.getElem?_eq_none_iff.1 e2)
      rw [h2, drop_one e1]
      constructor
      · show v = min v _; simp; omega
      · simp; omega
    | some u =>
      rw [drop_one e1, drop_one e2]
      constructor
      · show min v u = min v u; rfl
      · simp; omega
/-- One step of the sweep, by the indices of the bounds. -/
theorem pcs_step (a b : List Iv) (i j k : Nat) (o t : Int) (h : i < 2 * a.length ∨ j < 2 * b.length) (ht : nb ((fl a).drop i) ((fl b).drop j) = t) :
    pcs (k + 1) (decide (i % 2 = 1)) (decide (j % 2 = 1)) o ((fl a).drop i) ((fl b).drop j) =
      (if (decide (i % 2 = 1) || decide (j % 2 = 1)) = true then [((o, t), decide (i % 2 = 1), decide (j % 2 = 1))] else []) ++
        pcs k (decide ((if (fl a)[i]? = some t then i + 1 else i) % 2 = 1)) (decide ((if (fl b)[j]? = some t then j + 1 else j) % 2 = 1)) t ((fl a).drop (if (fl a)[i]? = some t then i + 1 else i)) ((fl b).drop (if (fl b)[j]? = some t then j + 1 else j)) := by
  have hne : ¬ ((fl a).drop i = [] ∧ (fl b).drop j = []) := fun he => by
    have h1 := List.drop_eq_nil_iff.1 he.1
    have h2 := List.drop_eq_nil_iff.1 he.2
    rw [fl_len] at h1 h2
    omega
  show (if _ ∧ _ then [] else _) = _
  rw [if_neg hne, ht]
  have ea : adv t ((fl a).drop i) = (fl a).drop (if (fl a)[i]? = some t then i + 1 else i) ∧ Ts.flip t (decide (i % 2 = 1)) ((fl a).drop i) = decide ((if (fl a)[i]? = some t then i + 1 else i) % 2 = 1) := by
    by_cases e : (fl a)[i]? = some t
    · simp only [if_pos e]; exact adv_at e
    · simp only [if_neg e]; exact adv_past e
  have eb : adv t ((fl b).drop j) = (fl b).drop (if (fl b)[j]? = some t then j + 1 else j) ∧ Ts.flip t (decide (j % 2 = 1)) ((fl b).drop j) = decide ((if (fl b)[j]? = some t then j + 1 else j) % 2 = 1) := by
    by_cases e : (fl b)[j]? = some t
    · simp only [if_pos e]; exact adv_at e
    · simp only [if_neg e]; exact adv_past e
  rw [ea.1, ea.2, eb.1, eb.2]
theorem bnd_hit (L : List Iv) (i : Nat) (t : Int) (ht : t < 9223372036854775807) : (fl L)[i]? = some t ↔ bnd L i = t := by
  unfold bnd
  cases e : (fl L)[i]? with
  | none => simp; omega
  | some v => simp
set_option maxRecDepth 100000 in
set_option maxHeartbeats 1000000 in
theorem bound_any (A : Option Addr) (c : Nat) (L : List Iv) (hl : L.length ≤ 1000000) (k : Nat) (hk : k ≤ 4000000) (w : World) (hR : Rs w w.heap.size A (ivCells L)) :
    Calls Try.prog 74 #[.slice A L.length c, .int .i64 (k : Int)] w fun e w' => e = .returned (.int .i64 (bnd L k)) ∧ w' = w := by
  have hm2 : IntKind.i64.wrap (2 * (L.length : Int)) = 2 * (L.length : Int) := by simp only [IntKind.wrap_i64]; omega
  by_cases hf : 2 * L.length ≤ k
  · have hf' : 2 * (L.length : Int) ≤ (k : Int) := by omega
    rw [bnd_far L k hf]
    go_enter Try.func74, Try.ntmps74
    go_wp2_with fail
    go_ret
    exact ⟨rfl, rfl⟩
  · obtain ⟨j, hj⟩ : ∃ j, j = k / 2 := ⟨_, rfl⟩
    have hjl : j < L.length := by omega
    obtain ⟨b, off, rfl, hb, h0, h1⟩ := iv_at hR j hjl
    have hf' : ¬ 2 * (L.length : Int) ≤ (k : Int) := by omega
    have hq : (k : Int).tdiv 2 = (j : Int) := by rw [Int.tdiv_eq_ediv_of_nonneg (by omega)]; omega
    have hq2 : (k : Int) / 2 = (j : Int) := by omega
    have hjI : (j : Int) < (L.length : Int) := by omega
    have hj0 : (0 : Int) ≤ (j : Int) := by omega
    have hwj : IntKind.i64.wrap (j : Int) = (j : Int) := by simp only [IntKind.wrap_i64]; omega
    clear hR
    rcases Nat.mod_two_eq_zero_or_one k with h | h
    · have ek : k = 2 * j := by omega
      have hv := bnd_even L j hjl
      rw [← ek] at hv
      rw [hv]
      have hr : (k : Int).tmod 2 = 0 := by rw [Int.tmod_eq_emod_of_nonneg (by omega)]; omega
      have hw0 : (k : Int) % 2 = 0 := by omega
      clear ek hv hj
      go_enter Try.func74, Try.ntmps74
      go_wp2_with fail
      go_ret
      exact ⟨rfl, rfl⟩
    · have ek : k = 2 * j + 1 := by omega
      have hv := bnd_odd L j hjl
      rw [← ek] at hv
      rw [hv]
      have hr : (k : Int).tmod 2 = 1 := by rw [Int.tmod_eq_emod_of_nonneg (by omega)]; omega
      have hw0 : (k : Int) % 2 = 1 := by omega
      clear ek hv hj
      go_enter Try.func74, Try.ntmps74
      go_wp2_with fail
      go_ret
      exact ⟨rfl, rfl⟩
end Go.Proofs.Ytkjpficpkpfkdaa
