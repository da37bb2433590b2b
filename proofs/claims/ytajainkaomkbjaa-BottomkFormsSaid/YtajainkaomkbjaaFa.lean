/- Decode, plain: what is read of a form, and that forms and sketches correspond. -/
import Derived.Test.YtajainkaomkbjaaEs
import Derived.Test.YtajainkaomkbjaaDy
namespace Go.Proofs.Ytajainkaomkbjaa
open Go.ChangeShapes Go.WideShapes Go.ChangeAt Go.RowKit Go.Joins Bt

/-- A text that is read. -/
def tx (s : ByteArray) (st : E.St) : ByteArray × E.St := E.rdG ByteArray.empty (E.scanT 4096) s st
/-- What some texts, one after another, are. -/
def rdT (s : ByteArray) : Nat → E.St → List ByteArray × E.St
  | 0, st => ([], st)
  | k + 1, st => ((tx s st).1 :: (rdT s k (tx s st).2).1, (rdT s k (tx s st).2).2)
theorem rdT_err (s : ByteArray) (k : Nat) (st : E.St) (h : st.2 ≠ 0) : (rdT s k st).2 = st := by
  induction k generalizing st with
  | zero => rfl
  | succ k ih =>
    show (rdT s k (tx s st).2).2 = st
    have e : (tx s st).2 = st := E.rdG_err _ _ _ _ h
    rw [e]; exact ih st h
theorem rdT_len (s : ByteArray) (k : Nat) (st : E.St) : (rdT s k st).1.length = k := by
  induction k generalizing st with
  | zero => rfl
  | succ k ih => show (_ :: (rdT s k (tx s st).2).1).length = _; rw [List.length_cons, ih]
theorem tx_small (s : ByteArray) (st : E.St) : (tx s st).1.size ≤ 4096 := by
  by_cases h : (tx s st).2.2 = 0
  · exact (E.snd_text s st h).2.2.2
  · have e : (tx s st).1 = ByteArray.empty := by
      unfold tx at h ⊢
      unfold E.rdG at h ⊢
      split
      · rename_i h1
        rw [if_pos h1] at h
        split
        · rename_i h2
          rw [if_pos h2] at h
          exact absurd rfl h
        · rfl
      · rfl
    rw [e]; decide
theorem rdT_small (s : ByteArray) (k : Nat) (st : E.St) : ∀ t ∈ (rdT s k st).1, t.size ≤ 4096 := by
  induction k generalizing st with
  | zero => intro t ht; cases ht
  | succ k ih =>
    intro t ht
    rcases List.mem_cons.1 ht with rfl | ht
    · exact tx_small s st
    · exact ih _ t ht
/-- The size, the seed, whether the sketch is exact, the number of its keys. -/
def r1 (s : ByteArray) : Int × E.St := E.rdG 0 E.scan s (0, 0)
def r2 (s : ByteArray) : Int × E.St := E.rdG 0 E.scan s (r1 s).2
def r3 (s : ByteArray) : Bool × E.St := E.rdG false E.scanB s (r2 s).2
def r4 (s : ByteArray) : Int × E.St := E.rdG 0 (E.scanZ 1024 6) s (r3 s).2
def cn (s : ByteArray) : Nat := (r4 s).1.toNat
def bdy (s : ByteArray) : List ByteArray × E.St := rdT s (cn s) (r4 s).2
def endD (s : ByteArray) : Int := E.endE s (bdy s).2
theorem cn_nat (s : ByteArray) : (r4 s).1 = (cn s : Int) ∧ cn s ≤ 1024 := by
  have h : ∃ n : Nat, (r4 s).1 = (n : Int) ∧ n ≤ 1024 := by
    unfold r4 E.rdG
    by_cases h : (r3 s).2.2 = 0
    · rw [if_pos h]
      by_cases h2 : (E.scanZ 1024 6 (s.data.toList.drop (r3 s).2.1)).2.2 = 0
      · rw [if_pos h2]
        obtain ⟨n, k, e, h3, h4, _⟩ := E.scanZ_ok 1024 6 _ (by decide) h2
        exact ⟨n, by rw [e], by omega⟩
      · rw [if_neg h2]; exact ⟨0, rfl, by omega⟩
    · rw [if_neg h]; exact ⟨0, rfl, by omega⟩
  obtain ⟨n, h1, h2⟩ := h
  unfold cn
  rw [h1, Int.toNat_natCast]
  exact ⟨rfl, h2⟩
/-- The first error of some keys. -/
def feK : List ByteArray → Int
  | [] => 0
  | t :: T => if chkK t = 0 then feK T else chkK t
theorem feK_ok {K : List ByteArray} (h : feK K = 0) : ∀ t ∈ K, chkK t = 0 := by
  induction K with
  | nil => intro t ht; cases ht
  | cons x K ih =>
    unfold feK at h
    split at h
    · rename_i hx
      intro t ht
      rcases List.mem_cons.1 ht with rfl | ht
      · exact hx
      · exact ih h t ht
    · rename_i hx; exact absurd h hx
theorem feK_bad {K : List ByteArray} (h : feK K ≠ 0) : ∃ b, ∃ hb : b < K.length, (∀ j (hj : j < K.length), j < b → chkK K[j] = 0) ∧ chkK K[b] ≠ 0 ∧ feK K = chkK K[b] := by
  induction K with
  | nil => exact absurd rfl h
  | cons x K ih =>
    by_cases hx : chkK x = 0
    · have e : feK (x :: K) = feK K := by show (if chkK x = 0 then feK K else chkK x) = _; rw [if_pos hx]
      rw [e] at h ⊢
      obtain ⟨b, hb, h1, h2, h3⟩ := ih h
      refine ⟨b + 1, by simpa using hb, fun j hj hl => ?_, by simpa using h2, by simpa using h3⟩
      cases j with
      | zero => exact hx
      | succ j => exact h1 j (by simpa using hj) (by omega)
    · exact ⟨0, by simp, fun j _ hl => absurd hl (by omega), hx, by show (if chkK x = 0 then feK K else chkK x) = _; rw [if_neg hx]; rfl⟩
theorem feK_at {K : List ByteArray} (k : Nat) (h : ∀ j (hj : j < K.length), j < k → chkK K[j] = 0) : feK K = feK (K.drop k) := by
  induction K generalizing k with
  | nil => rw [List.drop_nil]
  | cons x K ih =>
    cases k with
    | zero => rfl
    | succ k =>
      have hx : chkK x = 0 := h 0 (by simp) (by omega)
      show (if chkK x = 0 then feK K else chkK x) = _
      rw [if_pos hx, List.drop_succ_cons]
      exact ih k (fun j hj hl => h (j + 1) (by simpa using hj) (by omega))
/-- Whether keys are in order, each once. -/
def incB : List Ky → Bool
  | x :: y :: T => kl x y && incB (y :: T)
  | _ => true
theorem incB_get {L : List Ky} : incB L = true ↔ ∀ j (h : j + 1 < L.length), kl L[j] L[j + 1] = true := by
  induction L with
  | nil => exact ⟨fun _ j h => absurd h (by simp), fun _ => rfl⟩
  | cons x L ih =>
    cases L with
    | nil => exact ⟨fun _ j h => absurd h (by simp), fun _ => rfl⟩
    | cons y T =>
      show (kl x y && incB (y :: T)) = true ↔ _
      rw [Bool.and_eq_true, ih]
      constructor
      · rintro ⟨h1, h2⟩ j hj
        cases j with
        | zero => exact h1
        | succ j => exact h2 j (by simpa using hj)
      · intro h
        exact ⟨h 0 (by simp), fun j hj => h (j + 1) (by simpa using hj)⟩
theorem incB_srt {L : List Ky} (h : incB L = true) : Srt L := by
  induction L with
  | nil => exact List.Pairwise.nil
  | cons x L ih =>
    cases L with
    | nil => exact List.pairwise_cons.2 ⟨fun y hy => (by cases hy), List.Pairwise.nil⟩
    | cons y T =>
      have h' : (kl x y && incB (y :: T)) = true := h
      rw [Bool.and_eq_true] at h'
      have hs := ih h'.2
      refine List.pairwise_cons.2 ⟨fun z hz => ?_, hs⟩
      rcases List.mem_cons.1 hz with rfl | hz
      · exact h'.1
      · exact kl_trans h'.1 ((List.pairwise_cons.1 hs).1 z hz)
theorem srt_incB {L : List Ky} (h : Srt L) : incB L = true := incB_get.2 (fun j hj => srt_get h (by omega) hj)
/-- The error of a form. -/
def dcE (s : ByteArray) : Int :=
  if endD s ≠ 0 then endD s
  else if (r1 s).1 < 1 ∨ 1024 < (r1 s).1 ∨ (r2 s).1 < 0 ∨ 1048576 < (r2 s).1 then 2
  else if feK (bdy s).1 ≠ 0 then feK (bdy s).1
  else if incB (kys (r2 s).1 (bdy s).1) = false then 8
  else if (r1 s).1 < ((cn s : Nat) : Int) ∨ ((cn s : Nat) : Int) < (r1 s).1 ∧ (r3 s).1 = false then 3
  else 0
/-- All bytes of a form. -/
def frB (n sd : Int) (x : Bool) (K : List ByteArray) : List UInt8 := E.En.num n ++ (E.En.num sd ++ (E.boolF x ++ (E.En.num (K.length : Int) ++ K.flatMap E.text)))
theorem prE_whole (n sd : Int) (m : Bool) (K : List ByteArray) (sd2 : Int) (j : Nat) (hj : j ≤ K.length) : E.whole (prE n sd m (kys sd2 K) j) = E.En.num n ++ (E.En.num sd ++ (E.boolF (!m) ++ (E.En.num (K.length : Int) ++ (K.take j).flatMap E.text))) := by
  induction j with
  | zero =>
    show E.whole [_, _, _, _] = _
    simp [E.whole, kys]
  | succ j ih =>
    show E.whole (E.text ((kys sd2 K).getD j (0, ByteArray.empty)).2 :: prE n sd m (kys sd2 K) j) = _
    have hl : j < K.length := hj
    have e : ((kys sd2 K).getD j (0, ByteArray.empty)).2 = K[j] := by
      unfold kys; simp [List.getD, List.getElem?_eq_getElem hl, kyO]
    rw [E.whole_cons, ih (by omega), e, List.take_succ_eq_append_getElem hl, List.flatMap_append]
    simp
theorem frE_kys (n sd : Int) (m : Bool) (K : List ByteArray) (sd2 : Int) : frE n sd (kys sd2 K, m) = E.bytesOf (frB n sd (!m) K) := by
  unfold frE
  show (⟨(E.whole (prE n sd m (kys sd2 K) (kys sd2 K).length)).toArray⟩ : ByteArray) = ⟨_⟩
  have e : (kys sd2 K).length = K.length := by simp [kys]
  rw [e, prE_whole n sd m K sd2 K.length (Nat.le_refl _), List.take_length]
  rfl
theorem rdT_at {s : ByteArray} : ∀ (K : List ByteArray) (p : Nat), (∀ t ∈ K, t.size ≤ 4096) → E.Hs s p (K.flatMap E.text) → rdT s K.length (p, 0) = (K, (p + (K.flatMap E.text).length, 0))
  | [], p, _, _ => rfl
  | t :: K, p, hs, h => by
    rw [List.flatMap_cons] at h
    have e := E.at_text (hs t (by simp)) h.left
    have ih := rdT_at K (p + (E.text t).length) (fun x hx => hs x (List.mem_cons_of_mem _ hx)) h.right
    show ((tx s (p, 0)).1 :: (rdT s K.length (tx s (p, 0)).2).1, (rdT s K.length (tx s (p, 0)).2).2) = _
    have e' : tx s (p, 0) = (t, (p + (E.text t).length, 0)) := e
    rw [e']
    dsimp only
    rw [ih, List.flatMap_cons, List.length_append, Nat.add_assoc]
theorem flat_ge (K : List ByteArray) : K.length ≤ (K.flatMap E.text).length := by
  induction K with
  | nil => simp
  | cons t K ih =>
    rw [List.flatMap_cons, List.length_append, List.length_cons]
    have : 0 < (E.text t).length := by rw [E.text_len]; have := E.num_length (t.size : Int); omega
    omega
/-- A form is read back. -/
theorem rd_form {n sd : Int} (hn : E.In64 n) (hsd : E.In64 sd) (x : Bool) {K : List ByteArray} (hK : K.length ≤ 1024) (hs : ∀ t ∈ K, t.size ≤ 4096) :
    (r1 (E.bytesOf (frB n sd x K))).1 = n ∧ (r2 (E.bytesOf (frB n sd x K))).1 = sd ∧ (r3 (E.bytesOf (frB n sd x K))).1 = x ∧ cn (E.bytesOf (frB n sd x K)) = K.length ∧ (bdy (E.bytesOf (frB n sd x K))).1 = K ∧ endD (E.bytesOf (frB n sd x K)) = 0 := by
  obtain ⟨s, hs'⟩ : ∃ s, s = E.bytesOf (frB n sd x K) := ⟨_, rfl⟩
  rw [← hs']
  have h0 : E.Hs s 0 (frB n sd x K) := ⟨[], by rw [hs', List.append_nil]; rfl⟩
  have hsz : s.size = (frB n sd x K).length := by rw [hs', E.bytesOf_size]
  unfold frB at h0 hsz
  have e1 : r1 s = (n, (0 + (E.En.num n).length, 0)) := E.at_num hn h0.left
  have g1 := h0.right
  have e2 : r2 s = (sd, (0 + (E.En.num n).length + (E.En.num sd).length, 0)) := by unfold r2; rw [e1]; exact E.at_num hsd g1.left
  have g2 := g1.right
  have e3 : r3 s = (x, (0 + (E.En.num n).length + (E.En.num sd).length + (E.boolF x).length, 0)) := by unfold r3; rw [e2]; exact E.at_bool g2.left
  have g3 := g2.right
  have e4 : r4 s = ((K.length : Int), (0 + (E.En.num n).length + (E.En.num sd).length + (E.boolF x).length + (E.En.num (K.length : Int)).length, 0)) := by
    unfold r4; rw [e3]
    obtain ⟨rest, hr⟩ := g3
    refine E.rdG_at _ _ _ _ _ _ ?_
    rw [hr, List.append_assoc]
    exact E.scanZ_at 1024 6 K.length (by omega) ⟨by omega, by omega⟩ _ (by rw [List.length_append]; have := flat_ge K; omega)
  have g4 := g3.right
  have ec : cn s = K.length := by unfold cn; rw [e4]; simp
  have e5 : bdy s = (K, (0 + (E.En.num n).length + (E.En.num sd).length + (E.boolF x).length + (E.En.num (K.length : Int)).length + (K.flatMap E.text).length, 0)) := by
    unfold bdy; rw [ec, e4]
    exact rdT_at K _ hs g4
  refine ⟨by rw [e1], by rw [e2], by rw [e3], ec, by rw [e5], ?_⟩
  unfold endD E.endE
  rw [e5]
  simp only [List.length_append] at hsz
  rw [if_pos rfl, if_neg]
  dsimp only
  omega
theorem rdT_sound {s : ByteArray} : ∀ (k : Nat) (st : E.St), (rdT s k st).2.2 = 0 → st.2 = 0 ∧ E.Hs s st.1 ((rdT s k st).1.flatMap E.text) ∧ (rdT s k st).2.1 = st.1 + ((rdT s k st).1.flatMap E.text).length
  | 0, st, h => ⟨h, E.Hs.nil, rfl⟩
  | k + 1, st, h => by
    have h' : (rdT s k (tx s st).2).2.2 = 0 := h
    obtain ⟨a1, a2, a3⟩ := rdT_sound k (tx s st).2 h'
    obtain ⟨b1, b2, b3, _⟩ := E.snd_text s st a1
    have b3' : (tx s st).2.1 = st.1 + (E.text (tx s st).1).length := b3
    have b2' : E.Hs s st.1 (E.text (tx s st).1) := b2
    rw [b3'] at a2 a3
    refine ⟨b1, ?_, ?_⟩
    · show E.Hs s st.1 (((tx s st).1 :: (rdT s k (tx s st).2).1).flatMap E.text)
      rw [List.flatMap_cons]; exact b2'.comb a2
    · show (rdT s k (tx s st).2).2.1 = st.1 + (((tx s st).1 :: (rdT s k (tx s st).2).1).flatMap E.text).length
      rw [a3, List.flatMap_cons, List.length_append]; omega
/-- What is read without an error is what was written. -/
theorem rd_sound {s : ByteArray} (h : endD s = 0) : E.bytesOf (frB (r1 s).1 (r2 s).1 (r3 s).1 (bdy s).1) = s ∧ E.In64 (r1 s).1 ∧ E.In64 (r2 s).1 := by
  obtain ⟨h1, h2⟩ := E.end_ok h
  obtain ⟨a1, a2, a3⟩ := rdT_sound _ _ h1
  have hb : (bdy s).1.length = cn s := rdT_len _ _ _
  obtain ⟨b1, b2, b3, b4⟩ := E.rdG_sound (z := 0) (f := E.scanZ 1024 6) (s := s) (st := (r3 s).2) a1
  obtain ⟨n, k, e, _, _, es⟩ := E.scanZ_ok 1024 6 _ (by decide) b2
  have en : cn s = n := by unfold cn; show (E.rdG 0 (E.scanZ 1024 6) s (r3 s).2).1.toNat = n; rw [b3, e]; simp
  obtain ⟨rest, c1, c2, _⟩ := E.scan_sound (l := s.data.toList.drop (r3 s).2.1) (by rw [es])
  rw [es] at c1 c2
  dsimp only at c1 c2
  have ek : k = (E.En.num (n : Int)).length := by omega
  have hs4 : E.Hs s (r3 s).2.1 (E.En.num ((cn s : Nat) : Int)) := ⟨rest, by rw [en]; exact c1⟩
  have p4 : (r4 s).2.1 = (r3 s).2.1 + (E.En.num ((cn s : Nat) : Int)).length := by
    show (E.rdG 0 (E.scanZ 1024 6) s (r3 s).2).2.1 = _
    rw [b4, e, en, ek]; simp
  obtain ⟨d1, d2, d3, _⟩ := E.snd_bool s (r2 s).2 b1
  obtain ⟨f1, f2, f3, f4⟩ := E.snd_num s (r1 s).2 d1
  obtain ⟨g1, g2, g3, g4⟩ := E.snd_num s (0, 0) f1
  have d2' : E.Hs s (r2 s).2.1 (E.boolF (r3 s).1) := d2
  have d3' : (r3 s).2.1 = (r2 s).2.1 + (E.boolF (r3 s).1).length := d3
  have f2' : E.Hs s (r1 s).2.1 (E.En.num (r2 s).1) := f2
  have f3' : (r2 s).2.1 = (r1 s).2.1 + (E.En.num (r2 s).1).length := f3
  have g2' : E.Hs s 0 (E.En.num (r1 s).1) := g2
  have g3' : (r1 s).2.1 = 0 + (E.En.num (r1 s).1).length := g3
  have q5 : E.Hs s (r4 s).2.1 ((bdy s).1.flatMap E.text) := a2
  have q5l : (bdy s).2.1 = (r4 s).2.1 + ((bdy s).1.flatMap E.text).length := a3
  refine ⟨?_, g4, f4⟩
  rw [p4] at q5
  have q4 := hs4.comb q5
  rw [d3'] at q4
  have q3 := d2'.comb q4
  rw [f3'] at q3
  have q2 := f2'.comb q3
  rw [g3'] at q2
  have q1 := g2'.comb q2
  have hall : frB (r1 s).1 (r2 s).1 (r3 s).1 (bdy s).1 = E.En.num (r1 s).1 ++ (E.En.num (r2 s).1 ++ (E.boolF (r3 s).1 ++ (E.En.num ((cn s : Nat) : Int) ++ (bdy s).1.flatMap E.text))) := by unfold frB; rw [hb]
  rw [hall]
  refine E.Hs.all q1 ?_
  simp only [List.length_append]
  omega
end Go.Proofs.Ytajainkaomkbjaa
