/- What is read where a form is cut short. -/
import Derived.Test.YtepcihfkkeahhaaFf
namespace Go.Proofs.Ytepcihfkkeahhaa
open Go.ChangeShapes Go.WideShapes Go.ChangeAt Go.RowKit En

/-- From p on, the string is a proper beginning of F. -/
def HC (s : ByteArray) (p : Nat) (F : List UInt8) : Prop := ∃ k, k < F.length ∧ s.data.toList.drop p = F.take k
theorem HC.split {s : ByteArray} {p : Nat} {F G : List UInt8} (h : HC s p (F ++ G)) : HC s p F ∨ (Hs s p F ∧ HC s (p + F.length) G) := by
  obtain ⟨k, hk, e⟩ := h
  rw [List.length_append] at hk
  by_cases hkF : k < F.length
  · exact Or.inl ⟨k, hkF, by rw [e, List.take_append_of_le_length (Nat.le_of_lt hkF)]⟩
  · have e2 : s.data.toList.drop p = F ++ G.take (k - F.length) := by
      rw [e, List.take_append, List.take_of_length_le (by omega)]
    exact Or.inr ⟨⟨_, e2⟩, k - F.length, by omega, by rw [← List.drop_drop, e2, List.drop_left]⟩
theorem HC.ne {s : ByteArray} {p : Nat} (h : HC s p []) : False := by
  obtain ⟨k, hk, _⟩ := h
  simp at hk
/-- A step of reading: what it does where its form stands, where it is cut short, and behind an error. -/
structure Part (s : ByteArray) (g : St → St) (F : List UInt8) : Prop where
  full : ∀ p, Hs s p F → g (p, 0) = (p + F.length, 0)
  cut : ∀ p, HC s p F → (g (p, 0)).2 = 4
  err : ∀ st, st.2 ≠ 0 → g st = st
theorem Part.comp {s : ByteArray} {g g' : St → St} {F G : List UInt8} (h : Part s g F) (h' : Part s g' G) : Part s (fun st => g' (g st)) (F ++ G) where
  full := fun p hp => by
    show g' (g (p, 0)) = _
    rw [h.full p hp.left, h'.full _ hp.right, List.length_append, Nat.add_assoc]
  cut := fun p hp => by
    show (g' (g (p, 0))).2 = 4
    rcases hp.split with hc | ⟨hs, hc⟩
    · have e := h.cut p hc
      rw [h'.err _ (by rw [e]; decide)]
      exact e
    · rw [h.full p hs]
      exact h'.cut _ hc
  err := fun st hst => by
    show g' (g st) = st
    rw [h.err st hst, h'.err st hst]
theorem rdG_err {α : Type} (z : α) (f : List UInt8 → α × Int × Int) (s : ByteArray) (st : St) (h : st.2 ≠ 0) : (rdG z f s st).2 = st := by
  unfold rdG; rw [if_neg h]
theorem rdG_cut {α : Type} (z : α) (f : List UInt8 → α × Int × Int) (s : ByteArray) (p : Nat) (h : (f (s.data.toList.drop p)).2.2 = 4) : rdG z f s (p, 0) = (z, (p, 4)) := by
  unfold rdG
  dsimp only
  rw [if_pos rfl, if_neg (by rw [h]; decide), h]
theorem num_length (n : Int) : (num n).length = sz n.natAbs + 1 := by
  unfold num
  rw [List.length_cons, digs_len]; omega
theorem scan_cut {n : Int} (hn : In64 n) {k : Nat} (hk : k < (num n).length) : scan ((num n).take k) = (0, 0, 4) := by
  rw [num_length] at hk
  cases k with
  | zero => rfl
  | succ k =>
    obtain ⟨h1, _, _⟩ := szB_first n hn
    have h8 := sz_le _ hn.abs
    show scan (first n :: (digs n 0).take k) = _
    rw [scan_cons, if_neg (by omega), if_pos (by rw [List.length_take, digs_len]; omega)]
theorem HC.scan {s : ByteArray} {p : Nat} {n : Int} (hn : In64 n) (h : HC s p (num n)) : scan (s.data.toList.drop p) = (0, 0, 4) := by
  obtain ⟨k, hk, e⟩ := h
  rw [e]; exact scan_cut hn hk
theorem scanZ_cutA {most too : Int} {l : List UInt8} (h : scan l = (0, 0, 4)) : scanZ most too l = (0, 0, 4) := by
  unfold scanZ
  rw [h]; rfl
theorem scanZ_cutB (most too : Int) (n : Nat) (hn : (n : Int) ≤ most) (hin : In64 (n : Int)) (rest : List UInt8) (hr : rest.length < n) : scanZ most too (num (n : Int) ++ rest) = (0, 0, 4) := by
  unfold scanZ
  rw [scan_num (n : Int) hin rest]
  rw [List.length_append]
  dsimp only
  rw [if_pos rfl, if_neg (by omega), if_neg (by omega), if_pos (by omega)]
theorem pt_num {s : ByteArray} {n : Int} (hn : In64 n) : Part s (fun st => (rdG 0 scan s st).2) (num n) where
  full := fun p hp => by
    show (rdG 0 scan s (p, 0)).2 = _
    rw [at_num hn hp]
  cut := fun p hp => by
    show (rdG 0 scan s (p, 0)).2.2 = 4
    rw [rdG_cut 0 scan s p (by rw [hp.scan hn])]
  err := fun st h => rdG_err 0 scan s st h
theorem pt_bool {s : ByteArray} {b : Bool} : Part s (fun st => (rdG false scanB s st).2) (boolF b) where
  full := fun p hp => by
    show (rdG false scanB s (p, 0)).2 = _
    rw [at_bool hp]
  cut := fun p hp => by
    show (rdG false scanB s (p, 0)).2.2 = 4
    rw [rdG_cut false scanB s p (by unfold scanB; rw [HC.scan (n := if b then 1 else 0) (by cases b <;> exact ⟨by decide, by decide⟩) hp]; rfl)]
  err := fun st h => rdG_err false scanB s st h
theorem pt_text {s t : ByteArray} (ht : t.size ≤ 4096) : Part s (fun st => (rdG ByteArray.empty (scanT 4096) s st).2) (text t) where
  full := fun p hp => by
    show (rdG ByteArray.empty (scanT 4096) s (p, 0)).2 = _
    rw [at_text ht hp]
  cut := fun p hp => by
    show (rdG ByteArray.empty (scanT 4096) s (p, 0)).2.2 = 4
    have hin : In64 (t.size : Int) := ⟨by omega, by omega⟩
    have hz : scanZ 4096 5 (s.data.toList.drop p) = (0, 0, 4) := by
      rcases HC.split (F := num (t.size : Int)) (G := t.data.toList) hp with hc | ⟨⟨rest, e⟩, k, hk, e2⟩
      · exact scanZ_cutA (hc.scan hin)
      · rw [e]
        refine scanZ_cutB 4096 5 t.size (by omega) hin rest ?_
        rw [← List.drop_drop, e, List.drop_left] at e2
        rw [e2, List.length_take]
        have : t.data.toList.length = t.size := by simp
        omega
    rw [rdG_cut ByteArray.empty (scanT 4096) s p (by unfold scanT; rw [hz]; rfl)]
  err := fun st h => rdG_err ByteArray.empty (scanT 4096) s st h
theorem rdList_err {α : Type} (f : St → α × St) (s : ByteArray) (st : St) (h : st.2 ≠ 0) : (rdList f s st).2 = st := by
  have e : rdG 0 (scanZ 4096 6) s st = (0, st) := by unfold rdG; rw [if_neg h]
  unfold rdList
  rw [e]; rfl
theorem flat_pos {α : Type} {form : α → List UInt8} (M : List α) (hp : ∀ a ∈ M, 0 < (form a).length) : M.length ≤ (M.flatMap form).length := by
  induction M with
  | nil => exact Nat.zero_le _
  | cons a M ih =>
    have h1 := hp a (List.mem_cons_self ..)
    have h2 := ih (fun b hb => hp b (List.mem_cons_of_mem _ hb))
    rw [List.flatMap_cons, List.length_append, List.length_cons]; omega
theorem pt_list {α : Type} {f : ByteArray → St → α × St} {form : α → List UInt8} {s : ByteArray} (L : List α) (hpos : ∀ a ∈ L, 0 < (form a).length) (hf : ∀ a ∈ L, ∀ p, Hs s p (form a) → f s (p, 0) = (a, (p + (form a).length, 0))) (hc : ∀ a ∈ L, ∀ p, HC s p (form a) → (f s (p, 0)).2.2 = 4) (hL : L.length ≤ 4096) :
    Part s (fun st => (rdList (f s) s st).2) (num (L.length : Int) ++ L.flatMap form) where
  full := fun p hp => by
    show (rdList (f s) s (p, 0)).2 = _
    rw [at_list L hpos hf hL hp]
  err := fun st h => rdList_err (f s) s st h
  cut := fun p hp => by
    show (rdList (f s) s (p, 0)).2.2 = 4
    have hin : In64 (L.length : Int) := ⟨by omega, by omega⟩
    have gen : ∀ (M acc : List α) (q : Nat), (∀ a ∈ M, a ∈ L) → HC s q (M.flatMap form) → (rdL (f s) M.length acc (q, 0)).2.2 = 4 := by
      intro M
      induction M with
      | nil => intro acc q _ h; exact h.ne.elim
      | cons a M ih =>
        intro acc q hM h
        rw [List.flatMap_cons] at h
        show (if (f s (q, 0)).2.2 = 0 then _ else _ : List α × St).2.2 = 4
        rcases h.split with h1 | ⟨h1, h2⟩
        · have e := hc a (hM a (List.mem_cons_self ..)) q h1
          rw [if_neg (by rw [e]; decide)]
          exact e
        · have e := hf a (hM a (List.mem_cons_self ..)) q h1
          rw [e, if_pos rfl]
          exact ih _ _ (fun b hb => hM b (List.mem_cons_of_mem _ hb)) h2
    have short : scanZ 4096 6 (s.data.toList.drop p) = (0, 0, 4) → (rdList (f s) s (p, 0)).2.2 = 4 := fun hz => by
      have e := rdG_cut 0 (scanZ 4096 6) s p (by rw [hz])
      unfold rdList
      rw [e]; rfl
    rcases hp.split with h1 | ⟨⟨rest, e⟩, h2⟩
    · exact short (scanZ_cutA (h1.scan hin))
    · by_cases hr : rest.length < L.length
      · exact short (by rw [e]; exact scanZ_cutB 4096 6 L.length (by omega) hin rest hr)
      · have e2 : rdG 0 (scanZ 4096 6) s (p, 0) = ((L.length : Int), (p + (num (L.length : Int)).length, 0)) := rdG_at 0 (scanZ 4096 6) s p _ _ (by
          rw [e]
          exact scanZ_at 4096 6 L.length (by omega) hin rest (by omega))
        unfold rdList
        rw [e2]
        simp only [Int.toNat_natCast]
        exact gen L [] _ (fun a ha => ha) h2
theorem pt_value {s t : ByteArray} {k n : Int} (hk : In64 k) (hn : In64 n) (ht : t.size ≤ 4096) : Part s (fun st => (rdvalue s st).2) (valueF k t n) :=
  (pt_num hk).comp ((pt_text ht).comp (pt_num hn))
theorem pt_attr {s : ByteArray} {a : At} (hk : In64 a.kind) (hn : In64 a.int) (hkey : a.key.size ≤ 4096) (ht : a.text.size ≤ 4096) : Part s (fun st => (rdattr s st).2) a.form :=
  (pt_text hkey).comp (pt_value hk hn ht)
theorem pt_ref {s : ByteArray} {a : Int × Int} (ha : RfOk a) : Part s (fun st => (rdref s st).2) (rfForm a) := by
  have e : rfForm a = num a.1 ++ num a.2 := by simp [rfForm, nums]
  rw [e]
  exact (pt_num ha.1).comp (pt_num ha.2)
theorem pt_exch {s : ByteArray} {x : Ex} (hx : ExOk x) : Part s (fun st => (rdexch s st).2) (exF x) := by
  have e : exF x = num x.f ++ (num x.t ++ (num x.s ++ (num x.r ++ num x.m))) := by simp [exF, nums]
  rw [e]
  exact (pt_num (hx x.f (by simp))).comp ((pt_num (hx x.t (by simp))).comp ((pt_num (hx x.s (by simp))).comp ((pt_num (hx x.r (by simp))).comp (pt_num (hx x.m (by simp))))))
theorem pt_span {s : ByteArray} {x : Sp} (hx : x.Fit) : Part s (fun st => (rdspan s st).2) x.form := by
  obtain ⟨⟨o1, o2, o3, o4, o5, o6, o7, o8, o9, o10, o11⟩, f1, f2, f3, f4⟩ := hx
  have e0 : x.form = num x.t ++ (num x.i ++ (num x.p ++ (num x.r ++ (num x.c ++ (num x.k ++ (text x.sv ++ (text x.ve ++ (text x.op ++ (num x.st ++ (num x.en ++ (boolF x.er ++ ((num x.al.length ++ x.al.flatMap At.form) ++ (num x.ls.length ++ x.ls.flatMap rfForm))))))))))))) := by
    unfold Sp.form nums atForms rfForms; simp
  rw [e0]
  have pa : Part s (fun st => (rdList (rdattr s) s st).2) (num (x.al.length : Int) ++ x.al.flatMap At.form) := pt_list (f := rdattr) x.al (fun a _ => by have := num_ge1 (a.key.size : Int); unfold At.form attrF; rw [List.length_append, text_len]; omega) (fun a ha q hq => at_attr (o6 a ha).2.2.1 (o6 a ha).2.2.2 (f4 a ha).1 (f4 a ha).2 hq) (fun a ha => (pt_attr (o6 a ha).2.2.1 (o6 a ha).2.2.2 (f4 a ha).1 (f4 a ha).2).cut) o8
  have pr : Part s (fun st => (rdList (rdref s) s st).2) (num (x.ls.length : Int) ++ x.ls.flatMap rfForm) := pt_list (f := rdref) x.ls (fun a _ => by have := num_ge1 a.1; unfold rfForm nums; rw [List.flatMap_cons, List.length_append]; omega) (fun a ha q hq => at_ref (o7 a ha) hq) (fun a ha => (pt_ref (o7 a ha)).cut) o9
  exact (pt_num (o1 x.t (by simp))).comp ((pt_num (o1 x.i (by simp))).comp ((pt_num (o1 x.p (by simp))).comp ((pt_num (o1 x.r (by simp))).comp ((pt_num (o1 x.c (by simp))).comp ((pt_num (o1 x.k (by simp))).comp
    ((pt_text f1).comp ((pt_text f2).comp ((pt_text f3).comp ((pt_num (o5 x.st (by simp))).comp ((pt_num (o5 x.en (by simp))).comp ((pt_bool (b := x.er)).comp (pa.comp pr))))))))))))
theorem pt_frag {s : ByteArray} {a q : Int} {L : List Sv} {M : List Ex} (ha : In64 a) (hq : In64 q) (h : FOk L M) : Part s (fun st => (rdfrag s st).2) (fragF a q L M) := by
  unfold fragF
  have el : (L.length : Int) = ((L.map Prod.fst).length : Int) := by rw [List.length_map]
  rw [spForms_map, el]
  have ps : Part s (fun st => (rdList (rdspan s) s st).2) (num ((L.map Prod.fst).length : Int) ++ (L.map Prod.fst).flatMap Sp.form) := pt_list (f := rdspan) (L.map Prod.fst) (fun a _ => form_pos a) (fun a ha q hq => by
    obtain ⟨x, hx, rfl⟩ := List.mem_map.1 ha
    exact at_span (h.fit x hx) hq) (fun a ha q hq => by
    obtain ⟨x, hx, rfl⟩ := List.mem_map.1 ha
    exact (pt_span (h.fit x hx)).cut q hq) (by rw [List.length_map]; exact h.hL)
  have pe : Part s (fun st => (rdList (rdexch s) s st).2) (num (M.length : Int) ++ M.flatMap exF) := pt_list (f := rdexch) M (fun a _ => exF_pos a) (fun a ha q hq => at_exch (h.hex a ha) hq) (fun a ha => (pt_exch (h.hex a ha)).cut) h.hM
  exact (pt_num ha).comp ((pt_num hq).comp (ps.comp pe))
end Go.Proofs.Ytepcihfkkeahhaa
