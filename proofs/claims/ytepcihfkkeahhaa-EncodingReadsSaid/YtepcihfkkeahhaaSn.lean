/- What is read without an error is the value of a form. -/
import Derived.Test.YtepcihfkkeahhaaCu
namespace Go.Proofs.Ytepcihfkkeahhaa
open Go.ChangeShapes Go.WideShapes Go.ChangeAt Go.RowKit En

theorem xor_inj8 {a b m : UInt8} (h : (a ^^^ m).toNat = (b ^^^ m).toNat) : a = b := by
  have h1 := UInt8.toNat_inj.1 h
  have h2 := congrArg (· ^^^ m) h1
  simpa [UInt8.xor_assoc] using h2
theorem magL_inj (m : UInt8) : ∀ (n : Nat) (l k : List UInt8), l.length = n → k.length = n → magL m l = magL m k → l = k := by
  intro n
  induction n with
  | zero => intro l k hl hk _; rw [List.eq_nil_of_length_eq_zero hl, List.eq_nil_of_length_eq_zero hk]
  | succ n ih =>
    intro l k hl hk h
    have hl0 : l ≠ [] := fun e => by rw [e] at hl; simp at hl
    have hk0 : k ≠ [] := fun e => by rw [e] at hk; simp at hk
    obtain ⟨L, b, rfl⟩ : ∃ L b, l = L ++ [b] := ⟨l.dropLast, l.getLast hl0, (List.dropLast_concat_getLast hl0).symm⟩
    obtain ⟨K, c, rfl⟩ : ∃ L b, k = L ++ [b] := ⟨k.dropLast, k.getLast hk0, (List.dropLast_concat_getLast hk0).symm⟩
    rw [magL_snoc, magL_snoc] at h
    have h1 := (b ^^^ m).toNat_lt
    have h2 := (c ^^^ m).toNat_lt
    have e1 : magL m L = magL m K := by omega
    have e2 : (b ^^^ m).toNat = (c ^^^ m).toNat := by omega
    rw [ih L K (by simpa using hl) (by simpa using hk) e1, xor_inj8 e2]
theorem magL_ge (m : UInt8) (d : UInt8) (D : List UInt8) (h : d ≠ m) : 256 ^ D.length ≤ magL m (d :: D) := by
  have gen : ∀ (l : List UInt8) (x : Nat), x * 256 ^ l.length ≤ l.foldl (fun y b => y * 256 + (b ^^^ m).toNat) x := by
    intro l
    induction l with
    | nil => intro x; simp
    | cons b l ih =>
      intro x
      rw [List.foldl_cons, List.length_cons, Nat.pow_succ]
      refine Nat.le_trans ?_ (ih _)
      rw [Nat.mul_comm (256 ^ l.length) 256, ← Nat.mul_assoc]
      exact Nat.mul_le_mul_right _ (Nat.le_add_right _ _)
  have h1 : 1 ≤ (d ^^^ m).toNat := by
    rcases Nat.eq_zero_or_pos (d ^^^ m).toNat with h0 | h0
    · exact absurd (xor_inj8 (a := d) (b := m) (m := m) (by rw [h0, UInt8.xor_self]; rfl)) h
    · exact h0
  have h2 := gen D (0 * 256 + (d ^^^ m).toNat)
  rw [Nat.zero_mul, Nat.zero_add] at h2
  have h3 : 256 ^ D.length ≤ (d ^^^ m).toNat * 256 ^ D.length := Nat.le_mul_of_pos_left _ h1
  refine Nat.le_trans h3 ?_
  show _ ≤ (d :: D).foldl _ 0
  rw [List.foldl_cons, Nat.zero_mul, Nat.zero_add]
  exact h2
theorem pow256 (z : Nat) : 256 ^ z = 2 ^ (8 * z) := by rw [Nat.pow_mul]
theorem sz_eq {m z : Nat} (hm : m < 18446744073709551616) (h1 : m < 256 ^ z) (h2 : z = 0 ∨ 256 ^ (z - 1) ≤ m) : sz m = z := by
  rw [pow256] at h1
  rw [pow256] at h2
  rcases Nat.eq_zero_or_pos m with rfl | h0
  · rcases h2 with rfl | h2
    · rfl
    · have := Nat.pow_pos (n := 8 * (z - 1)) (show 0 < 2 by decide); omega
  · obtain ⟨_, b1, b2⟩ := Lib.bitLenAux_bounds 64 m hm (by omega)
    have b1' : 2 ^ (Lib.bitLen m - 1) ≤ m := b1
    have b2' : m < 2 ^ Lib.bitLen m := b2
    have c1 : Lib.bitLen m - 1 < 8 * z := (Nat.pow_lt_pow_iff_right (by decide)).1 (Nat.lt_of_le_of_lt b1' h1)
    have hz : z ≠ 0 := fun e => by rw [e] at h1; simp at h1; omega
    have c2 : 8 * (z - 1) < Lib.bitLen m := (Nat.pow_lt_pow_iff_right (by decide)).1 (Nat.lt_of_le_of_lt (h2.resolve_left hz) b2')
    unfold sz
    omega
theorem scan_sound {l : List UInt8} (h : (scan l).2.2 = 0) : ∃ rest, l = num (scan l).1 ++ rest ∧ (scan l).2.1 = ((num (scan l).1).length : Int) ∧ In64 (scan l).1 := by
  cases l with
  | nil => exact absurd h (by decide)
  | cons b t =>
    rw [scan_cons] at h ⊢
    by_cases h1 : 8 < szB b
    · rw [if_pos h1] at h; exact absurd h (by decide)
    · rw [if_neg h1] at h ⊢
      by_cases h2 : t.length < szB b
      · rw [if_pos h2] at h; exact absurd h (by decide)
      · rw [if_neg h2] at h ⊢
        by_cases h3 : 0 < szB b ∧ t.head? = some (maskB b)
        · rw [if_pos h3] at h; exact absurd h (by decide)
        · rw [if_neg h3] at h ⊢
          obtain ⟨D, hD⟩ : ∃ D, D = t.take (szB b) := ⟨_, rfl⟩
          rw [← hD] at h ⊢
          have hDl : D.length = szB b := by rw [hD, List.length_take]; omega
          obtain ⟨m, hm⟩ : ∃ m, m = magL (maskB b) D := ⟨_, rfl⟩
          rw [← hm] at h ⊢
          have hlt := magL_lt (maskB b) D
          rw [← hm, hDl] at hlt
          have hge : szB b = 0 ∨ 256 ^ (szB b - 1) ≤ m := by
            rcases Nat.eq_zero_or_pos (szB b) with h0 | h0
            · exact Or.inl h0
            · right
              cases hDc : D with
              | nil => rw [hDc] at hDl; simp at hDl; omega
              | cons d E =>
                have hne : d ≠ maskB b := fun e => h3 ⟨h0, by
                  have : t.head? = D.head? := by rw [hD]; cases t with
                    | nil => simp
                    | cons x y => cases hz : szB b with
                      | zero => omega
                      | succ k => rfl
                  rw [this, hDc, e]; rfl⟩
                have := magL_ge (maskB b) d E hne
                rw [hm, hDc]
                have e1 : E.length = szB b - 1 := by rw [hDc] at hDl; simp at hDl; omega
                rw [← e1]; exact this
          have hm64 : m < 18446744073709551616 := Nat.lt_of_lt_of_le hlt (by
            rw [pow256]
            exact Nat.le_trans (Nat.pow_le_pow_right (by decide) (show 8 * szB b ≤ 64 by omega)) (by decide))
          have hs := sz_eq hm64 hlt hge
          by_cases h4 : (sg m (decide (b.toNat < 128))).2 = 0
          · rw [if_pos h4]
            dsimp only
            have key : ∃ n : Int, sg m (decide (b.toNat < 128)) = (n, 0) ∧ n.natAbs = m ∧ (n < 0 ↔ b.toNat < 128) ∧ In64 n := by
              unfold sg at h4 ⊢
              by_cases hb : b.toNat < 128
              · rw [decide_eq_true hb] at h4 ⊢
                by_cases hmm : m ≤ 9223372036854775808
                · rw [if_pos ⟨rfl, hmm⟩]
                  have hpos : 1 ≤ m := by
                    have : szB b ≠ 0 := by unfold szB; rw [if_pos hb]; omega
                    exact Nat.le_trans (Nat.pow_pos (by decide)) (hge.resolve_left this)
                  exact ⟨_, rfl, by omega, ⟨fun _ => hb, fun _ => by omega⟩, by constructor <;> omega⟩
                · rw [if_neg (fun hh => hmm hh.2), if_neg (fun hh => nomatch hh.1)] at h4
                  exact absurd h4 (by decide)
              · rw [decide_eq_false hb] at h4 ⊢
                by_cases hmm : m ≤ 9223372036854775807
                · rw [if_neg (fun hh => nomatch hh.1), if_pos ⟨rfl, hmm⟩]
                  exact ⟨_, rfl, by omega, ⟨fun h => absurd h (by omega), fun h => absurd h hb⟩, by constructor <;> omega⟩
                · rw [if_neg (fun hh => nomatch hh.1), if_neg (fun hh => hmm hh.2)] at h4
                  exact absurd h4 (by decide)
            obtain ⟨n, hn1, hn2, hn3, hn4⟩ := key
            rw [hn1]
            dsimp only
            have hmk : mask n = maskB b := by
              unfold mask maskB
              by_cases hb : b.toNat < 128
              · rw [if_pos (hn3.2 hb), if_pos hb]
              · rw [if_neg (fun h => hb (hn3.1 h)), if_neg hb]
            have hf : first n = b := by
              refine UInt8.toNat_inj.1 ?_
              have h8 : sz n.natAbs ≤ 8 := by rw [hn2, hs]; omega
              have hblt := b.toNat_lt
              by_cases hb : b.toNat < 128
              · have := first_neg n (hn3.2 hb) h8
                rw [hn2, hs] at this
                have hz : szB b = 128 - b.toNat := by unfold szB; rw [if_pos hb]
                omega
              · have := first_pos n (fun h => hb (hn3.1 h)) h8
                rw [hn2, hs] at this
                have hz : szB b = b.toNat - 128 := by unfold szB; rw [if_neg hb]
                omega
            have hd : digs n 0 = D := by
              refine magL_inj (maskB b) (szB b) _ _ (by rw [digs_len, hn2, hs]; omega) hDl ?_
              rw [← hm, ← hmk, ← hn2]
              exact mag_all n hn4.abs
            refine ⟨t.drop (szB b), ?_, ?_, hn4⟩
            · unfold num
              rw [hf, hd, hD, List.cons_append, List.take_append_drop]
            · rw [num_length, hn2, hs]; push_cast; omega
          · rw [if_neg h4] at h
            exact absurd h h4
theorem Hs.comb {s : ByteArray} {p : Nat} {F G : List UInt8} (h : Hs s p F) (k : Hs s (p + F.length) G) : Hs s p (F ++ G) := by
  obtain ⟨r, e⟩ := h
  obtain ⟨r', e'⟩ := k
  rw [← List.drop_drop, e, List.drop_left] at e'
  exact ⟨r', by rw [e, e', List.append_assoc]⟩
theorem Hs.nil {s : ByteArray} {p : Nat} : Hs s p [] := ⟨_, rfl⟩
/-- What is read without an error stands there as a form, and is as it should be. -/
def Snd {α : Type} (f : ByteArray → St → α × St) (form : α → List UInt8) (Ok : α → Prop) : Prop := ∀ s st, (f s st).2.2 = 0 → st.2 = 0 ∧ Hs s st.1 (form (f s st).1) ∧ (f s st).2.1 = st.1 + (form (f s st).1).length ∧ Ok (f s st).1
theorem rdG_sound {α : Type} {z : α} {f : List UInt8 → α × Int × Int} {s : ByteArray} {st : St} (h : (rdG z f s st).2.2 = 0) : st.2 = 0 ∧ (f (s.data.toList.drop st.1)).2.2 = 0 ∧ (rdG z f s st).1 = (f (s.data.toList.drop st.1)).1 ∧ (rdG z f s st).2.1 = st.1 + (f (s.data.toList.drop st.1)).2.1.toNat := by
  unfold rdG at h ⊢
  by_cases h1 : st.2 = 0
  · rw [if_pos h1] at h ⊢
    by_cases h2 : (f (s.data.toList.drop st.1)).2.2 = 0
    · rw [if_pos h2]; exact ⟨h1, h2, rfl, rfl⟩
    · rw [if_neg h2] at h; exact absurd h h2
  · rw [if_neg h1] at h; exact absurd h h1
theorem snd_num : Snd (fun s st => rdG 0 scan s st) num In64 := fun s st h => by
  obtain ⟨h1, h2, h3, h4⟩ := rdG_sound h
  obtain ⟨rest, e, hl, hi⟩ := scan_sound h2
  dsimp only
  rw [h3, h4, hl]
  exact ⟨h1, ⟨rest, e⟩, by simp, hi⟩
theorem snd_bool : Snd (fun s st => rdG false scanB s st) boolF (fun _ => True) := fun s st h => by
  obtain ⟨h1, h2, h3, h4⟩ := rdG_sound h
  dsimp only
  rw [h3, h4]
  unfold scanB at h2 ⊢
  by_cases h5 : (scan (s.data.toList.drop st.1)).2.2 = 0
  · obtain ⟨rest, e, hl, hi⟩ := scan_sound h5
    rw [if_pos h5] at h2 ⊢
    by_cases h6 : (scan (s.data.toList.drop st.1)).1 = 0
    · rw [if_pos h6]
      rw [h6] at e hl
      exact ⟨h1, ⟨rest, e⟩, by dsimp only; rw [hl]; simp [boolF], trivial⟩
    · rw [if_neg h6] at h2 ⊢
      by_cases h7 : (scan (s.data.toList.drop st.1)).1 = 1
      · rw [if_pos h7]
        rw [h7] at e hl
        exact ⟨h1, ⟨rest, e⟩, by dsimp only; rw [hl]; simp [boolF], trivial⟩
      · rw [if_neg h7] at h2; exact absurd h2 (by decide)
  · rw [if_neg h5] at h2; exact absurd h2 h5
theorem snd_text : Snd (fun s st => rdG ByteArray.empty (scanT 4096) s st) text (fun t => t.size ≤ 4096) := fun s st h => by
  obtain ⟨h1, h2, h3, h4⟩ := rdG_sound h
  dsimp only
  rw [h3, h4]
  unfold scanT at h2 ⊢
  by_cases h5 : (scanZ 4096 5 (s.data.toList.drop st.1)).2.2 = 0
  · rw [if_pos h5]
    obtain ⟨n, k, e1, e2, e3, e4⟩ := scanZ_ok 4096 5 _ (by decide) h5
    rw [e1]
    obtain ⟨rest, e, hl, hi⟩ := scan_sound (l := s.data.toList.drop st.1) (by rw [e4])
    rw [e4] at e hl hi
    dsimp only at e hl hi ⊢
    have hk : k = (num (n : Int)).length := by omega
    have hr : n ≤ rest.length := by
      have := congrArg List.length e
      rw [List.length_append] at this
      omega
    have hdrop : (s.data.toList.drop st.1).drop k = rest := by rw [e, hk, List.drop_left]
    simp only [Int.toNat_natCast]
    rw [hdrop]
    have hsz : (bytesOf (rest.take n)).size = n := by rw [bytesOf_size, List.length_take]; omega
    refine ⟨h1, ⟨rest.drop n, ?_⟩, ?_, by rw [hsz]; omega⟩
    · unfold text
      rw [hsz, e, List.append_assoc]
      congr 1
      exact (List.take_append_drop n rest).symm
    · rw [text_len, hsz]; omega
  · rw [if_neg h5] at h2; exact absurd h2 h5
theorem snd_list {α : Type} {f : ByteArray → St → α × St} {form : α → List UInt8} {Ok : α → Prop} (hf : Snd f form Ok) : Snd (fun s st => rdList (f s) s st) (fun L => num (L.length : Int) ++ L.flatMap form) (fun L => L.length ≤ 4096 ∧ ∀ a ∈ L, Ok a) := fun s st h => by
  have gen : ∀ (n : Nat) (acc : List α) (st : St), st.2 = 0 → (rdL (f s) n acc st).2.2 = 0 → ∃ M, M.length = n ∧ (rdL (f s) n acc st).1 = acc ++ M ∧ Hs s st.1 (M.flatMap form) ∧ (rdL (f s) n acc st).2.1 = st.1 + (M.flatMap form).length ∧ ∀ a ∈ M, Ok a := by
    intro n
    induction n with
    | zero => intro acc st _ _; exact ⟨[], rfl, by simp [rdL], Hs.nil, by simp [rdL], fun a h => absurd h (by simp)⟩
    | succ n ih =>
      intro acc st hst h
      have e : rdL (f s) (n + 1) acc st = if (f s st).2.2 = 0 then rdL (f s) n (acc ++ [(f s st).1]) (f s st).2 else ([], (f s st).2) := rfl
      rw [e] at h ⊢
      by_cases h1 : (f s st).2.2 = 0
      · rw [if_pos h1] at h ⊢
        obtain ⟨M, m1, m2, m3, m4, m5⟩ := ih _ _ h1 h
        obtain ⟨_, k1, k2, k3⟩ := hf s st h1
        refine ⟨(f s st).1 :: M, by simp [m1], by rw [m2, List.append_assoc]; rfl, ?_, ?_, ?_⟩
        · rw [List.flatMap_cons]
          rw [k2] at m3
          exact k1.comb m3
        · rw [m4, k2, List.flatMap_cons, List.length_append, Nat.add_assoc]
        · intro a ha
          rcases List.mem_cons.1 ha with rfl | ha
          · exact k3
          · exact m5 a ha
      · rw [if_neg h1] at h; exact absurd h h1
  dsimp only at h ⊢
  unfold rdList at h ⊢
  obtain ⟨c, hc⟩ : ∃ c, c = rdG 0 (scanZ 4096 6) s st := ⟨_, rfl⟩
  rw [← hc] at h ⊢
  by_cases hc0 : c.2.2 = 0
  · obtain ⟨h1, h2, h3, h4⟩ := rdG_sound (z := (0 : Int)) (f := scanZ 4096 6) (s := s) (st := st) (by rw [← hc]; exact hc0)
    obtain ⟨n, k, e1, e2, e3, e4⟩ := scanZ_ok 4096 6 _ (by decide) h2
    obtain ⟨rest, e, hl, hi⟩ := scan_sound (l := s.data.toList.drop st.1) (by rw [e4])
    rw [e4] at e hl hi
    dsimp only at e hl hi
    rw [← hc, e1] at h3 h4
    dsimp only at h3 h4
    rw [Int.toNat_natCast] at h4
    obtain ⟨M, m1, m2, m3, m4, m5⟩ := gen c.1.toNat [] c.2 hc0 h
    rw [h3, Int.toNat_natCast] at m1
    rw [m2, m4, List.nil_append, m1]
    have hk : k = (num (n : Int)).length := by omega
    refine ⟨h1, ?_, ?_, by omega, m5⟩
    · refine Hs.comb ⟨rest, e⟩ ?_
      rw [h4, hk] at m3
      exact m3
    · rw [h4, hk, List.length_append, Nat.add_assoc]
  · exfalso
    obtain ⟨n, hn1, hn2, hn3⟩ := cnt_nat s st
    rw [← hc] at hn1 hn3
    have hn0 := hn3 hc0
    rw [hn1, hn0] at h
    exact hc0 h
-- compound readers (written by wip/bin/gen_sn2.py)
theorem snd_value : Snd rdvalue (fun v => valueF v.1 v.2.1 v.2.2) (fun v => In64 v.1 ∧ v.2.1.size ≤ 4096 ∧ In64 v.2.2) := fun s st h => by
  obtain ⟨x1, hx1⟩ : ∃ x, x = rdG 0 scan s st := ⟨_, rfl⟩
  obtain ⟨x2, hx2⟩ : ∃ x, x = rdG ByteArray.empty (scanT 4096) s x1.2 := ⟨_, rfl⟩
  obtain ⟨x3, hx3⟩ : ∃ x, x = rdG 0 scan s x2.2 := ⟨_, rfl⟩
  have e0 : rdvalue s st = (if x3.2.2 = 0 then (x1.1, x2.1, x3.1) else (0, ByteArray.empty, 0), x3.2) := by rw [hx3, hx2, hx1]; rfl
  rw [e0] at h ⊢
  dsimp only at h ⊢
  rw [if_pos h]
  have p3 := snd_num s x2.2 (by (try dsimp only); rw [← hx3]; exact h)
  try dsimp only at p3
  rw [← hx3] at p3
  obtain ⟨z3, q3, r3, o3⟩ := p3
  have p2 := snd_text s x1.2 (by (try dsimp only); rw [← hx2]; exact z3)
  try dsimp only at p2
  rw [← hx2] at p2
  obtain ⟨z2, q2, r2, o2⟩ := p2
  have p1 := snd_num s st (by (try dsimp only); rw [← hx1]; exact z2)
  try dsimp only at p1
  rw [← hx1] at p1
  obtain ⟨z1, q1, r1, o1⟩ := p1
  clear hx1 hx2 hx3 e0
  have hH := (q1.comb (by rw [← r1]; exact (q2.comb (by rw [← r2]; exact q3))))
  have hL := r3
  rw [r2, r1] at hL
  unfold valueF
  exact ⟨z1, hH, by rw [hL]; simp only [List.length_append]; omega, ⟨o1, o2, o3⟩⟩
theorem snd_attr : Snd rdattr At.form (fun a => a.key.size ≤ 4096 ∧ a.text.size ≤ 4096 ∧ In64 a.kind ∧ In64 a.int) := fun s st h => by
  obtain ⟨x1, hx1⟩ : ∃ x, x = rdG ByteArray.empty (scanT 4096) s st := ⟨_, rfl⟩
  obtain ⟨x2, hx2⟩ : ∃ x, x = rdvalue s x1.2 := ⟨_, rfl⟩
  have e0 : rdattr s st = (if x2.2.2 = 0 then (⟨x1.1, x2.1.1, x2.1.2.1, x2.1.2.2⟩ : At) else (⟨ByteArray.empty, 0, ByteArray.empty, 0⟩ : At), x2.2) := by rw [hx2, hx1]; rfl
  rw [e0] at h ⊢
  dsimp only at h ⊢
  rw [if_pos h]
  have p2 := snd_value s x1.2 (by (try dsimp only); rw [← hx2]; exact h)
  try dsimp only at p2
  rw [← hx2] at p2
  obtain ⟨z2, q2, r2, o2⟩ := p2
  have p1 := snd_text s st (by (try dsimp only); rw [← hx1]; exact z2)
  try dsimp only at p1
  rw [← hx1] at p1
  obtain ⟨z1, q1, r1, o1⟩ := p1
  clear hx1 hx2 e0
  have hH := (q1.comb (by rw [← r1]; exact q2))
  have hL := r2
  rw [r1] at hL
  unfold At.form attrF
  exact ⟨z1, hH, by rw [hL]; simp only [List.length_append]; omega, ⟨o1, o2.2.1, o2.1, o2.2.2⟩⟩
theorem snd_ref : Snd rdref rfForm RfOk := fun s st h => by
  obtain ⟨x1, hx1⟩ : ∃ x, x = rdG 0 scan s st := ⟨_, rfl⟩
  obtain ⟨x2, hx2⟩ : ∃ x, x = rdG 0 scan s x1.2 := ⟨_, rfl⟩
  have e0 : rdref s st = (if x2.2.2 = 0 then (x1.1, x2.1) else (0, 0), x2.2) := by rw [hx2, hx1]; rfl
  rw [e0] at h ⊢
  dsimp only at h ⊢
  rw [if_pos h]
  have p2 := snd_num s x1.2 (by (try dsimp only); rw [← hx2]; exact h)
  try dsimp only at p2
  rw [← hx2] at p2
  obtain ⟨z2, q2, r2, o2⟩ := p2
  have p1 := snd_num s st (by (try dsimp only); rw [← hx1]; exact z2)
  try dsimp only at p1
  rw [← hx1] at p1
  obtain ⟨z1, q1, r1, o1⟩ := p1
  clear hx1 hx2 e0
  have hH := (q1.comb (by rw [← r1]; exact q2))
  have hL := r2
  rw [r1] at hL
  have e : rfForm (x1.1, x2.1) = num x1.1 ++ num x2.1 := by simp [rfForm, nums]
  rw [e]
  exact ⟨z1, hH, by rw [hL]; simp only [List.length_append]; omega, ⟨o1, o2⟩⟩
theorem snd_exch : Snd rdexch exF ExOk := fun s st h => by
  obtain ⟨x1, hx1⟩ : ∃ x, x = rdG 0 scan s st := ⟨_, rfl⟩
  obtain ⟨x2, hx2⟩ : ∃ x, x = rdG 0 scan s x1.2 := ⟨_, rfl⟩
  obtain ⟨x3, hx3⟩ : ∃ x, x = rdG 0 scan s x2.2 := ⟨_, rfl⟩
  obtain ⟨x4, hx4⟩ : ∃ x, x = rdG 0 scan s x3.2 := ⟨_, rfl⟩
  obtain ⟨x5, hx5⟩ : ∃ x, x = rdG 0 scan s x4.2 := ⟨_, rfl⟩
  have e0 : rdexch s st = (if x5.2.2 = 0 then (⟨x1.1, x2.1, x3.1, x4.1, x5.1⟩ : Ex) else (⟨0, 0, 0, 0, 0⟩ : Ex), x5.2) := by rw [hx5, hx4, hx3, hx2, hx1]; rfl
  rw [e0] at h ⊢
  dsimp only at h ⊢
  rw [if_pos h]
  have p5 := snd_num s x4.2 (by (try dsimp only); rw [← hx5]; exact h)
  try dsimp only at p5
  rw [← hx5] at p5
  obtain ⟨z5, q5, r5, o5⟩ := p5
  have p4 := snd_num s x3.2 (by (try dsimp only); rw [← hx4]; exact z5)
  try dsimp only at p4
  rw [← hx4] at p4
  obtain ⟨z4, q4, r4, o4⟩ := p4
  have p3 := snd_num s x2.2 (by (try dsimp only); rw [← hx3]; exact z4)
  try dsimp only at p3
  rw [← hx3] at p3
  obtain ⟨z3, q3, r3, o3⟩ := p3
  have p2 := snd_num s x1.2 (by (try dsimp only); rw [← hx2]; exact z3)
  try dsimp only at p2
  rw [← hx2] at p2
  obtain ⟨z2, q2, r2, o2⟩ := p2
  have p1 := snd_num s st (by (try dsimp only); rw [← hx1]; exact z2)
  try dsimp only at p1
  rw [← hx1] at p1
  obtain ⟨z1, q1, r1, o1⟩ := p1
  clear hx1 hx2 hx3 hx4 hx5 e0
  have hH := (q1.comb (by rw [← r1]; exact (q2.comb (by rw [← r2]; exact (q3.comb (by rw [← r3]; exact (q4.comb (by rw [← r4]; exact q5))))))))
  have hL := r5
  rw [r4, r3, r2, r1] at hL
  have e : exF ⟨x1.1, x2.1, x3.1, x4.1, x5.1⟩ = num x1.1 ++ (num x2.1 ++ (num x3.1 ++ (num x4.1 ++ num x5.1))) := by simp [exF, nums]
  rw [e]
  exact ⟨z1, hH, by rw [hL]; simp only [List.length_append]; omega, by
    intro n hn
    simp at hn
    rcases hn with rfl | rfl | rfl | rfl | rfl
    · exact o1
    · exact o2
    · exact o3
    · exact o4
    · exact o5⟩
/-- What a span that was read is like. -/
def Sp.Read (s : Sp) : Prop := s.Ints ∧ s.sv.size ≤ 4096 ∧ s.ve.size ≤ 4096 ∧ s.op.size ≤ 4096 ∧ s.al.length ≤ 4096 ∧ s.ls.length ≤ 4096 ∧ ∀ a ∈ s.al, a.key.size ≤ 4096 ∧ a.text.size ≤ 4096
theorem snd_span : Snd rdspan Sp.form Sp.Read := fun s st h => by
  obtain ⟨x1, hx1⟩ : ∃ x, x = rdG 0 scan s st := ⟨_, rfl⟩
  obtain ⟨x2, hx2⟩ : ∃ x, x = rdG 0 scan s x1.2 := ⟨_, rfl⟩
  obtain ⟨x3, hx3⟩ : ∃ x, x = rdG 0 scan s x2.2 := ⟨_, rfl⟩
  obtain ⟨x4, hx4⟩ : ∃ x, x = rdG 0 scan s x3.2 := ⟨_, rfl⟩
  obtain ⟨x5, hx5⟩ : ∃ x, x = rdG 0 scan s x4.2 := ⟨_, rfl⟩
  obtain ⟨x6, hx6⟩ : ∃ x, x = rdG 0 scan s x5.2 := ⟨_, rfl⟩
  obtain ⟨x7, hx7⟩ : ∃ x, x = rdG ByteArray.empty (scanT 4096) s x6.2 := ⟨_, rfl⟩
  obtain ⟨x8, hx8⟩ : ∃ x, x = rdG ByteArray.empty (scanT 4096) s x7.2 := ⟨_, rfl⟩
  obtain ⟨x9, hx9⟩ : ∃ x, x = rdG ByteArray.empty (scanT 4096) s x8.2 := ⟨_, rfl⟩
  obtain ⟨x10, hx10⟩ : ∃ x, x = rdG 0 scan s x9.2 := ⟨_, rfl⟩
  obtain ⟨x11, hx11⟩ : ∃ x, x = rdG 0 scan s x10.2 := ⟨_, rfl⟩
  obtain ⟨x12, hx12⟩ : ∃ x, x = rdG false scanB s x11.2 := ⟨_, rfl⟩
  obtain ⟨x13, hx13⟩ : ∃ x, x = rdList (rdattr s) s x12.2 := ⟨_, rfl⟩
  obtain ⟨x14, hx14⟩ : ∃ x, x = rdList (rdref s) s x13.2 := ⟨_, rfl⟩
  have e0 : rdspan s st = (if x14.2.2 = 0 then (⟨x1.1, x2.1, x3.1, x4.1, x5.1, x6.1, x7.1, x8.1, x9.1, x10.1, x11.1, x12.1, x13.1, x14.1⟩ : Sp) else spZ, x14.2) := by rw [hx14, hx13, hx12, hx11, hx10, hx9, hx8, hx7, hx6, hx5, hx4, hx3, hx2, hx1]; rfl
  rw [e0] at h ⊢
  dsimp only at h ⊢
  rw [if_pos h]
  have p14 := snd_list snd_ref s x13.2 (by (try dsimp only); rw [← hx14]; exact h)
  try dsimp only at p14
  rw [← hx14] at p14
  obtain ⟨z14, q14, r14, o14⟩ := p14
  have p13 := snd_list snd_attr s x12.2 (by (try dsimp only); rw [← hx13]; exact z14)
  try dsimp only at p13
  rw [← hx13] at p13
  obtain ⟨z13, q13, r13, o13⟩ := p13
  have p12 := snd_bool s x11.2 (by (try dsimp only); rw [← hx12]; exact z13)
  try dsimp only at p12
  rw [← hx12] at p12
  obtain ⟨z12, q12, r12, o12⟩ := p12
  have p11 := snd_num s x10.2 (by (try dsimp only); rw [← hx11]; exact z12)
  try dsimp only at p11
  rw [← hx11] at p11
  obtain ⟨z11, q11, r11, o11⟩ := p11
  have p10 := snd_num s x9.2 (by (try dsimp only); rw [← hx10]; exact z11)
  try dsimp only at p10
  rw [← hx10] at p10
  obtain ⟨z10, q10, r10, o10⟩ := p10
  have p9 := snd_text s x8.2 (by (try dsimp only); rw [← hx9]; exact z10)
  try dsimp only at p9
  rw [← hx9] at p9
  obtain ⟨z9, q9, r9, o9⟩ := p9
  have p8 := snd_text s x7.2 (by (try dsimp only); rw [← hx8]; exact z9)
  try dsimp only at p8
  rw [← hx8] at p8
  obtain ⟨z8, q8, r8, o8⟩ := p8
  have p7 := snd_text s x6.2 (by (try dsimp only); rw [← hx7]; exact z8)
  try dsimp only at p7
  rw [← hx7] at p7
  obtain ⟨z7, q7, r7, o7⟩ := p7
  have p6 := snd_num s x5.2 (by (try dsimp only); rw [← hx6]; exact z7)
  try dsimp only at p6
  rw [← hx6] at p6
  obtain ⟨z6, q6, r6, o6⟩ := p6
  have p5 := snd_num s x4.2 (by (try dsimp only); rw [← hx5]; exact z6)
  try dsimp only at p5
  rw [← hx5] at p5
  obtain ⟨z5, q5, r5, o5⟩ := p5
  have p4 := snd_num s x3.2 (by (try dsimp only); rw [← hx4]; exact z5)
  try dsimp only at p4
  rw [← hx4] at p4
  obtain ⟨z4, q4, r4, o4⟩ := p4
  have p3 := snd_num s x2.2 (by (try dsimp only); rw [← hx3]; exact z4)
  try dsimp only at p3
  rw [← hx3] at p3
  obtain ⟨z3, q3, r3, o3⟩ := p3
  have p2 := snd_num s x1.2 (by (try dsimp only); rw [← hx2]; exact z3)
  try dsimp only at p2
  rw [← hx2] at p2
  obtain ⟨z2, q2, r2, o2⟩ := p2
  have p1 := snd_num s st (by (try dsimp only); rw [← hx1]; exact z2)
  try dsimp only at p1
  rw [← hx1] at p1
  obtain ⟨z1, q1, r1, o1⟩ := p1
  clear hx1 hx2 hx3 hx4 hx5 hx6 hx7 hx8 hx9 hx10 hx11 hx12 hx13 hx14 e0
  have hH := (q1.comb (by rw [← r1]; exact (q2.comb (by rw [← r2]; exact (q3.comb (by rw [← r3]; exact (q4.comb (by rw [← r4]; exact (q5.comb (by rw [← r5]; exact (q6.comb (by rw [← r6]; exact (q7.comb (by rw [← r7]; exact (q8.comb (by rw [← r8]; exact (q9.comb (by rw [← r9]; exact (q10.comb (by rw [← r10]; exact (q11.comb (by rw [← r11]; exact (q12.comb (by rw [← r12]; exact (q13.comb (by rw [← r13]; exact q14))))))))))))))))))))))))))
  have hL := r14
  rw [r13, r12, r11, r10, r9, r8, r7, r6, r5, r4, r3, r2, r1] at hL
  have e : Sp.form ⟨x1.1, x2.1, x3.1, x4.1, x5.1, x6.1, x7.1, x8.1, x9.1, x10.1, x11.1, x12.1, x13.1, x14.1⟩ = num x1.1 ++ (num x2.1 ++ (num x3.1 ++ (num x4.1 ++ (num x5.1 ++ (num x6.1 ++ (text x7.1 ++ (text x8.1 ++ (text x9.1 ++ (num x10.1 ++ (num x11.1 ++ (boolF x12.1 ++ ((num x13.1.length ++ x13.1.flatMap At.form) ++ (num x14.1.length ++ x14.1.flatMap rfForm))))))))))))) := by
    unfold Sp.form nums atForms rfForms; simp
  rw [e]
  exact ⟨z1, hH, by rw [hL]; simp only [List.length_append]; omega, by
    refine ⟨⟨?_, ?_, fun a ha => (o13.2 a ha).2.2, o14.2⟩, o7, o8, o9, o13.1, o14.1, fun a ha => ⟨(o13.2 a ha).1, (o13.2 a ha).2.1⟩⟩
    · intro n hn
      simp at hn
      rcases hn with rfl | rfl | rfl | rfl | rfl | rfl
      · exact o1
      · exact o2
      · exact o3
      · exact o4
      · exact o5
      · exact o6
    · intro n hn
      simp at hn
      rcases hn with rfl | rfl
      · exact o10
      · exact o11⟩
theorem snd_frag : Snd rdfrag (fun v => num v.1 ++ (num v.2.1 ++ ((num v.2.2.1.length ++ v.2.2.1.flatMap Sp.form) ++ (num v.2.2.2.length ++ v.2.2.2.flatMap exF)))) (fun v => In64 v.1 ∧ In64 v.2.1 ∧ (v.2.2.1.length ≤ 4096 ∧ ∀ x ∈ v.2.2.1, x.Read) ∧ v.2.2.2.length ≤ 4096 ∧ ∀ x ∈ v.2.2.2, ExOk x) := fun s st h => by
  obtain ⟨x1, hx1⟩ : ∃ x, x = rdG 0 scan s st := ⟨_, rfl⟩
  obtain ⟨x2, hx2⟩ : ∃ x, x = rdG 0 scan s x1.2 := ⟨_, rfl⟩
  obtain ⟨x3, hx3⟩ : ∃ x, x = rdList (rdspan s) s x2.2 := ⟨_, rfl⟩
  obtain ⟨x4, hx4⟩ : ∃ x, x = rdList (rdexch s) s x3.2 := ⟨_, rfl⟩
  have e0 : rdfrag s st = ((x1.1, x2.1, x3.1, x4.1), x4.2) := by rw [hx4, hx3, hx2, hx1]; rfl
  rw [e0] at h ⊢
  dsimp only at h ⊢
  have p4 := snd_list snd_exch s x3.2 (by (try dsimp only); rw [← hx4]; exact h)
  try dsimp only at p4
  rw [← hx4] at p4
  obtain ⟨z4, q4, r4, o4⟩ := p4
  have p3 := snd_list snd_span s x2.2 (by (try dsimp only); rw [← hx3]; exact z4)
  try dsimp only at p3
  rw [← hx3] at p3
  obtain ⟨z3, q3, r3, o3⟩ := p3
  have p2 := snd_num s x1.2 (by (try dsimp only); rw [← hx2]; exact z3)
  try dsimp only at p2
  rw [← hx2] at p2
  obtain ⟨z2, q2, r2, o2⟩ := p2
  have p1 := snd_num s st (by (try dsimp only); rw [← hx1]; exact z2)
  try dsimp only at p1
  rw [← hx1] at p1
  obtain ⟨z1, q1, r1, o1⟩ := p1
  clear hx1 hx2 hx3 hx4 e0
  have hH := (q1.comb (by rw [← r1]; exact (q2.comb (by rw [← r2]; exact (q3.comb (by rw [← r3]; exact q4))))))
  have hL := r4
  rw [r3, r2, r1] at hL
  skip
  exact ⟨z1, hH, by rw [hL]; simp only [List.length_append]; omega, ⟨o1, o2, o3, o4⟩⟩
theorem snd_trace : Snd rdtrace (fun v => num v.1 ++ (num v.2.1 ++ (num v.2.2.length ++ v.2.2.flatMap Sp.form))) (fun v => In64 v.1 ∧ In64 v.2.1 ∧ v.2.2.length ≤ 4096 ∧ ∀ x ∈ v.2.2, x.Read) := fun s st h => by
  obtain ⟨x1, hx1⟩ : ∃ x, x = rdG 0 scan s st := ⟨_, rfl⟩
  obtain ⟨x2, hx2⟩ : ∃ x, x = rdG 0 scan s x1.2 := ⟨_, rfl⟩
  obtain ⟨x3, hx3⟩ : ∃ x, x = rdList (rdspan s) s x2.2 := ⟨_, rfl⟩
  have e0 : rdtrace s st = ((x1.1, x2.1, x3.1), x3.2) := by rw [hx3, hx2, hx1]; rfl
  rw [e0] at h ⊢
  dsimp only at h ⊢
  have p3 := snd_list snd_span s x2.2 (by (try dsimp only); rw [← hx3]; exact h)
  try dsimp only at p3
  rw [← hx3] at p3
  obtain ⟨z3, q3, r3, o3⟩ := p3
  have p2 := snd_num s x1.2 (by (try dsimp only); rw [← hx2]; exact z3)
  try dsimp only at p2
  rw [← hx2] at p2
  obtain ⟨z2, q2, r2, o2⟩ := p2
  have p1 := snd_num s st (by (try dsimp only); rw [← hx1]; exact z2)
  try dsimp only at p1
  rw [← hx1] at p1
  obtain ⟨z1, q1, r1, o1⟩ := p1
  clear hx1 hx2 hx3 e0
  have hH := (q1.comb (by rw [← r1]; exact (q2.comb (by rw [← r2]; exact q3))))
  have hL := r3
  rw [r2, r1] at hL
  skip
  exact ⟨z1, hH, by rw [hL]; simp only [List.length_append]; omega, ⟨o1, o2, o3⟩⟩
/-- A form that stands in a string is no longer than the string. -/
theorem Hs.le {s : ByteArray} {p : Nat} {F : List UInt8} (h : Hs s p F) : F.length ≤ s.size := by
  have := h.len
  rw [List.length_drop] at this
  have e : s.data.toList.length = s.size := by simp
  omega
/-- What is read up to the end is the whole string. -/
theorem Hs.all {s : ByteArray} {F : List UInt8} (h : Hs s 0 F) (hl : s.size ≤ F.length) : bytesOf F = s := by
  obtain ⟨rest, e⟩ := h
  rw [List.drop_zero] at e
  have e1 : s.data.toList.length = s.size := by simp
  have e2 := congrArg List.length e
  rw [List.length_append] at e2
  have e3 : rest = [] := List.eq_nil_of_length_eq_zero (by omega)
  rw [e3, List.append_nil] at e
  rw [← e]; rfl
theorem flat_le {α : Type} {form : α → List UInt8} {L : List α} {a : α} (h : a ∈ L) : (form a).length ≤ (L.flatMap form).length := by
  obtain ⟨l, r, rfl⟩ := List.append_of_mem h
  rw [List.flatMap_append, List.flatMap_cons, List.length_append, List.length_append]; omega
theorem Sp.fit_of {s : Sp} (h : s.Read) (hl : s.form.length ≤ 100000) : s.Fit := by
  obtain ⟨⟨i1, i2, i3, i4⟩, h1, h2, h3, h4, h5, h6⟩ := h
  unfold Sp.form at hl
  simp only [List.length_append] at hl
  exact ⟨⟨i1, by omega, by omega, by omega, i2, fun a ha => ⟨by have := (h6 a ha).1; omega, by have := (h6 a ha).2; omega, (i3 a ha).1, (i3 a ha).2⟩, i4, h4, h5, by omega, by omega⟩, h1, h2, h3, h6⟩
theorem end_ok {s : ByteArray} {st : St} (h : endE s st = 0) : st.2 = 0 ∧ s.size ≤ st.1 := by
  unfold endE at h
  by_cases h1 : st.2 = 0
  · rw [if_pos h1] at h
    by_cases h2 : st.1 < s.size
    · rw [if_pos h2] at h; exact absurd h (by decide)
    · exact ⟨h1, by omega⟩
  · rw [if_neg h1] at h; exact absurd h h1
end Go.Proofs.Ytepcihfkkeahhaa
