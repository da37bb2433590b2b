/- Forms: reading leads back, and what is read is a form (made by wip/bin/pick.py) -/
import Derived.Test.YtajainkaomkbjaaEr
namespace Go.Proofs.Ytajainkaomkbjaa.E
open En
theorem mask_xor (x m : UInt8) : x ^^^ m ^^^ m = x := by rw [UInt8.xor_assoc, UInt8.xor_self, UInt8.xor_zero]
theorem lt_sz (m : Nat) (h : m < 18446744073709551616) : m < 2 ^ (8 * sz m) := by
  rcases Nat.eq_zero_or_pos m with rfl | h0
  · exact Nat.pow_pos (by omega)
  · obtain ⟨_, _, h3⟩ := Lib.bitLenAux_bounds 64 m h (by omega)
    have h3' : m < 2 ^ Lib.bitLen m := h3
    exact Nat.lt_of_lt_of_le h3' (Nat.pow_le_pow_right (by omega) (by unfold sz; omega))
theorem sz_pos (m : Nat) (h0 : 0 < m) (h : m < 18446744073709551616) : 0 < sz m := by
  rcases Nat.eq_zero_or_pos (sz m) with hz | hz
  · have := lt_sz m h
    rw [hz] at this; omega
  · exact hz
theorem mag_digs (n : Int) (h : n.natAbs < 18446744073709551616) (t : Nat) : ∀ j, j + t = sz n.natAbs → magL (mask n) (digs n j) = n.natAbs / 2 ^ (8 * j) := by
  induction t with
  | zero =>
    intro j hj
    have : j = sz n.natAbs := by omega
    rw [this, digs_all, Nat.div_eq_of_lt (lt_sz _ h)]; rfl
  | succ t ih =>
    intro j hj
    rw [← digs_step n j (by omega), magL_snoc, ih (j + 1) (by omega)]
    have e : dig n j ^^^ mask n = UInt8.ofNat (n.natAbs / 2 ^ (8 * j) % 256) := by unfold dig; rw [mask_xor]
    rw [e, UInt8.toNat_ofNat', show 8 * (j + 1) = 8 * j + 8 by omega, Nat.pow_add, ← Nat.div_div_eq_div_mul]
    omega
theorem mag_all (n : Int) (h : n.natAbs < 18446744073709551616) : magL (mask n) (digs n 0) = n.natAbs := by
  rw [mag_digs n h (sz n.natAbs) 0 (by omega)]; simp
theorem In64.abs {n : Int} (h : In64 n) : n.natAbs < 18446744073709551616 := by have := h.1; have := h.2; omega
end Go.Proofs.Ytajainkaomkbjaa.E
namespace Go.Proofs.Ytajainkaomkbjaa.E
open Go.ChangeShapes Go.WideShapes Go.ChangeAt Go.RowKit En
theorem szB_first (n : Int) (h : In64 n) : szB (first n) = sz n.natAbs ∧ maskB (first n) = mask n ∧ ((first n).toNat < 128 ↔ n < 0) := by
  have h8 := sz_le _ h.abs
  by_cases h0 : n < 0
  · have hp := sz_pos n.natAbs (by omega) h.abs
    have hf := first_neg n h0 h8
    have hl : (first n).toNat < 128 := by omega
    refine ⟨?_, ?_, ⟨fun _ => h0, fun _ => hl⟩⟩
    · unfold szB; rw [if_pos hl]; omega
    · unfold maskB mask; rw [if_pos hl, if_pos h0]
  · have hf := first_pos n h0 h8
    have hl : ¬ (first n).toNat < 128 := by omega
    refine ⟨?_, ?_, ⟨fun h => absurd h hl, fun h => absurd h h0⟩⟩
    · unfold szB; rw [if_neg hl]; omega
    · unfold maskB mask; rw [if_neg hl, if_neg h0]
/-- The greatest byte of a magnitude is not 0. -/
theorem top_digit (n : Int) (h : In64 n) (hp : 0 < sz n.natAbs) (t : List UInt8) : (digs n 0 ++ t).head? ≠ some (mask n) := by
  intro e
  have hd : digs n 0 = dig n (sz n.natAbs - 1) :: (digs n 0).tail := by
    have hne : digs n 0 ≠ [] := by intro h0; have := digs_len n 0; rw [h0] at this; simp at this; omega
    have e1 : (digs n 0).head? = some (dig n (sz n.natAbs - 1)) := by
      unfold digs
      rw [List.head?_map, List.head?_range, if_neg (by omega)]
      simp
    cases hc : digs n 0 with
    | nil => exact absurd hc hne
    | cons a b => rw [hc] at e1; simp at e1; rw [e1]; rfl
  rw [hd] at e
  have e2 : dig n (sz n.natAbs - 1) = mask n := by simpa using e
  have e3 : UInt8.ofNat (n.natAbs / 2 ^ (8 * (sz n.natAbs - 1)) % 256) = 0 := by
    have := congrArg (· ^^^ mask n) e2
    simp only [dig, mask_xor, UInt8.xor_self] at this
    exact this
  have e4 := congrArg UInt8.toNat e3
  rw [UInt8.toNat_ofNat'] at e4
  have hlt := lt_sz n.natAbs h.abs
  obtain ⟨_, h2, _⟩ := Lib.bitLenAux_bounds 64 n.natAbs h.abs (by
    intro h0; rw [h0] at hp; exact absurd hp (by decide))
  have h2' : 2 ^ (Lib.bitLen n.natAbs - 1) ≤ n.natAbs := h2
  have h3 : 2 ^ (8 * (sz n.natAbs - 1)) ≤ n.natAbs := Nat.le_trans (Nat.pow_le_pow_right (by omega) (by unfold sz at hp ⊢; omega)) h2'
  have h4 : 1 ≤ n.natAbs / 2 ^ (8 * (sz n.natAbs - 1)) := (Nat.one_le_div_iff (Nat.pow_pos (by omega))).2 h3
  have h5 : n.natAbs / 2 ^ (8 * (sz n.natAbs - 1)) < 256 := by
    rw [Nat.div_lt_iff_lt_mul (Nat.pow_pos (by omega))]
    rw [show 8 * sz n.natAbs = 8 + 8 * (sz n.natAbs - 1) by omega, Nat.pow_add] at hlt
    exact hlt
  simp at e4
  omega
theorem scan_num (n : Int) (h : In64 n) (t : List UInt8) : scan (num n ++ t) = (n, ((num n).length : Int), 0) := by
  obtain ⟨h1, h2, h3⟩ := szB_first n h
  have h8 := sz_le _ h.abs
  show scan (first n :: (digs n 0 ++ t)) = _
  have hl := digs_len n 0
  have ht : (digs n 0 ++ t).take (sz n.natAbs) = digs n 0 := by rw [List.take_left' (by omega)]
  have hsg : sg n.natAbs (decide ((first n).toNat < 128)) = (n, 0) := by
    unfold sg
    have := h.1; have := h.2
    by_cases h0 : n < 0
    · rw [decide_eq_true (h3.2 h0), if_pos ⟨rfl, by omega⟩]
      congr 1; omega
    · rw [decide_eq_false (fun hh => h0 (h3.1 hh)), if_neg (fun hh => nomatch hh.1), if_pos ⟨rfl, by omega⟩]
      congr 1; omega
  rw [scan_cons, h1, h2, if_neg (by omega), if_neg (by rw [List.length_append]; omega), if_neg, ht, mag_all n h.abs, hsg, num_len]
  · simp
  · rintro ⟨hp, he⟩
    exact top_digit n h hp t he
end Go.Proofs.Ytajainkaomkbjaa.E
namespace Go.Proofs.Ytajainkaomkbjaa.E
open Go.ChangeShapes Go.WideShapes Go.ChangeAt Go.RowKit En
theorem bytesOf_size (l : List UInt8) : (bytesOf l).size = l.length := by show l.toArray.size = _; simp
theorem bytesOf_data (s : ByteArray) : bytesOf s.data.toList = s := rfl
end Go.Proofs.Ytajainkaomkbjaa.E
namespace Go.Proofs.Ytajainkaomkbjaa.E
open Go.ChangeShapes Go.WideShapes Go.ChangeAt Go.RowKit En
/-- At p, the string goes on with F. -/
def Hs (s : ByteArray) (p : Nat) (F : List UInt8) : Prop := ∃ rest, s.data.toList.drop p = F ++ rest
theorem Hs.left {s : ByteArray} {p : Nat} {F G : List UInt8} (h : Hs s p (F ++ G)) : Hs s p F := by
  obtain ⟨rest, e⟩ := h
  exact ⟨G ++ rest, by rw [e, List.append_assoc]⟩
theorem Hs.right {s : ByteArray} {p : Nat} {F G : List UInt8} (h : Hs s p (F ++ G)) : Hs s (p + F.length) G := by
  obtain ⟨rest, e⟩ := h
  exact ⟨rest, by rw [← List.drop_drop, e, List.append_assoc, List.drop_left]⟩
theorem Hs.len {s : ByteArray} {p : Nat} {F : List UInt8} (h : Hs s p F) : F.length ≤ (s.data.toList.drop p).length := by
  obtain ⟨rest, e⟩ := h
  rw [e, List.length_append]; omega
theorem bytesOf_data' (s : ByteArray) : bytesOf s.data.toList = s := rfl
theorem rdG_at {α : Type} (z : α) (f : List UInt8 → α × Int × Int) (s : ByteArray) (p : Nat) (v : α) (k : Nat) (h : f (s.data.toList.drop p) = (v, (k : Int), 0)) : rdG z f s (p, 0) = (v, (p + k, 0)) := by
  unfold rdG
  simp only [h, if_true, Int.toNat_natCast]
theorem at_num {s : ByteArray} {p : Nat} {n : Int} (hn : In64 n) (h : Hs s p (num n)) : rdG 0 scan s (p, 0) = (n, (p + (num n).length, 0)) := by
  obtain ⟨rest, e⟩ := h
  exact rdG_at 0 scan s p n _ (by rw [e, scan_num n hn])
theorem at_bool {s : ByteArray} {p : Nat} {b : Bool} (h : Hs s p (boolF b)) : rdG false scanB s (p, 0) = (b, (p + (boolF b).length, 0)) := by
  obtain ⟨rest, e⟩ := h
  refine rdG_at false scanB s p b _ ?_
  have e2 : scan (boolF b ++ rest) = ((if b then 1 else 0), ((boolF b).length : Int), 0) := scan_num (if b then 1 else 0) (by cases b <;> exact ⟨by decide, by decide⟩) rest
  rw [e]; unfold scanB
  rw [e2]
  cases b <;> simp
theorem scanZ_at (most too : Int) (n : Nat) (hn : (n : Int) ≤ most) (hin : In64 (n : Int)) (rest : List UInt8) (hr : n ≤ rest.length) : scanZ most too (num (n : Int) ++ rest) = ((n : Int), ((num (n : Int)).length : Int), 0) := by
  unfold scanZ
  rw [scan_num (n : Int) hin rest]
  rw [List.length_append]
  dsimp only
  rw [if_pos rfl, if_neg (by omega), if_neg (by omega), if_neg (by omega)]
theorem at_text {s : ByteArray} {p : Nat} {t : ByteArray} (ht : t.size ≤ 4096) (h : Hs s p (text t)) : rdG ByteArray.empty (scanT 4096) s (p, 0) = (t, (p + (text t).length, 0)) := by
  obtain ⟨rest, e⟩ := h
  refine rdG_at ByteArray.empty (scanT 4096) s p t _ ?_
  rw [e]
  have e2 : text t ++ rest = num (t.size : Int) ++ (t.data.toList ++ rest) := by unfold text; rw [List.append_assoc]
  have hz := scanZ_at 4096 5 t.size (by omega) ⟨by omega, by omega⟩ (t.data.toList ++ rest) (by rw [List.length_append]; simp)
  rw [e2]
  unfold scanT
  rw [hz]
  simp only [if_true, Int.toNat_natCast]
  rw [List.drop_left, show t.size = t.data.toList.length by simp, List.take_left, text_len, show t.data.toList.length = t.size by simp]
  exact Prod.ext (bytesOf_data' t) (Prod.ext (by show _ = _; push_cast; rfl) rfl)
end Go.Proofs.Ytajainkaomkbjaa.E
namespace Go.Proofs.Ytajainkaomkbjaa.E
open Go.ChangeShapes Go.WideShapes Go.ChangeAt Go.RowKit En
theorem rdG_err {α : Type} (z : α) (f : List UInt8 → α × Int × Int) (s : ByteArray) (st : St) (h : st.2 ≠ 0) : (rdG z f s st).2 = st := by
  unfold rdG; rw [if_neg h]
theorem num_length (n : Int) : (num n).length = sz n.natAbs + 1 := by
  unfold num
  rw [List.length_cons, digs_len]; omega
end Go.Proofs.Ytajainkaomkbjaa.E
namespace Go.Proofs.Ytajainkaomkbjaa.E
open Go.ChangeShapes Go.WideShapes Go.ChangeAt Go.RowKit En
theorem xor_inj8 {a b m : UInt8} (h : (a ^^^ m).toNat = (b ^^^ m).toNat) : a = b := by
  have h1 := UInt8.toNat_inj.1 h
  have h2 := congrArg (· ^^^ m) h1
  simpa [UInt8.xor_assoc] using h2
theorem magL_inj (m : UInt8) : ∀ (n : Nat) (l k : List UInt8), l.length = n → k.length = n → magL m l = magL m k → l = k := by
  intro n
  induction n with
  | zero => intro l k hl hk _; rw [List.eq_nil_of_length_eq_zero hl, List.eq_nil_of_length_eq_zero hk]
  | succ n ih =>
    intro l k hl hk h
    have hl0 : l ≠ [] := fun e => by rw [e] at hl; simp at hl
    have hk0 : k ≠ [] := fun e => by rw [e] at hk; simp at hk
    obtain ⟨L, b, rfl⟩ : ∃ L b, l = L ++ [b] := ⟨l.dropLast, l.getLast hl0, (List.dropLast_concat_getLast hl0).symm⟩
    obtain ⟨K, c, rfl⟩ : ∃ L b, k = L ++ [b] := ⟨k.dropLast, k.getLast hk0, (List.dropLast_concat_getLast hk0).symm⟩
    rw [magL_snoc, magL_snoc] at h
    have h1 := (b ^^^ m).toNat_lt
    have h2 := (c ^^^ m).toNat_lt
    have e1 : magL m L = magL m K := by omega
    have e2 : (b ^^^ m).toNat = (c ^^^ m).toNat := by omega
    rw [ih L K (by simpa using hl) (by simpa using hk) e1, xor_inj8 e2]
theorem magL_ge (m : UInt8) (d : UInt8) (D : List UInt8) (h : d ≠ m) : 256 ^ D.length ≤ magL m (d :: D) := by
  have gen : ∀ (l : List UInt8) (x : Nat), x * 256 ^ l.length ≤ l.foldl (fun y b => y * 256 + (b ^^^ m).toNat) x := by
    intro l
    induction l with
    | nil => intro x; simp
    | cons b l ih =>
      intro x
      rw [List.foldl_cons, List.length_cons, Nat.pow_succ]
      refine Nat.le_trans ?_ (ih _)
      rw [Nat.mul_comm (256 ^ l.length) 256, ← Nat.mul_assoc]
      exact Nat.mul_le_mul_right _ (Nat.le_add_right _ _)
  have h1 : 1 ≤ (d ^^^ m).toNat := by
    rcases Nat.eq_zero_or_pos (d ^^^ m).toNat with h0 | h0
    · exact absurd (xor_inj8 (a := d) (b := m) (m := m) (by rw [h0, UInt8.xor_self]; rfl)) h
    · exact h0
  have h2 := gen D (0 * 256 + (d ^^^ m).toNat)
  rw [Nat.zero_mul, Nat.zero_add] at h2
  have h3 : 256 ^ D.length ≤ (d ^^^ m).toNat * 256 ^ D.length := Nat.le_mul_of_pos_left _ h1
  refine Nat.le_trans h3 ?_
  show _ ≤ (d :: D).foldl _ 0
  rw [List.foldl_cons, Nat.zero_mul, Nat.zero_add]
  exact h2
theorem pow256 (z : Nat) : 256 ^ z = 2 ^ (8 * z) := by rw [Nat.pow_mul]
theorem sz_eq {m z : Nat} (hm : m < 18446744073709551616) (h1 : m < 256 ^ z) (h2 : z = 0 ∨ 256 ^ (z - 1) ≤ m) : sz m = z := by
  rw [pow256] at h1
  rw [pow256] at h2
  rcases Nat.eq_zero_or_pos m with rfl | h0
  · rcases h2 with rfl | h2
    · rfl
    · have := Nat.pow_pos (n := 8 * (z - 1)) (show 0 < 2 by decide); omega
  · obtain ⟨_, b1, b2⟩ := Lib.bitLenAux_bounds 64 m hm (by omega)
    have b1' : 2 ^ (Lib.bitLen m - 1) ≤ m := b1
    have b2' : m < 2 ^ Lib.bitLen m := b2
    have c1 : Lib.bitLen m - 1 < 8 * z := (Nat.pow_lt_pow_iff_right (by decide)).1 (Nat.lt_of_le_of_lt b1' h1)
    have hz : z ≠ 0 := fun e => by rw [e] at h1; simp at h1; omega
    have c2 : 8 * (z - 1) < Lib.bitLen m := (Nat.pow_lt_pow_iff_right (by decide)).1 (Nat.lt_of_le_of_lt (h2.resolve_left hz) b2')
    unfold sz
    omega
theorem scan_sound {l : List UInt8} (h : (scan l).2.2 = 0) : ∃ rest, l = num (scan l).1 ++ rest ∧ (scan l).2.1 = ((num (scan l).1).length : Int) ∧ In64 (scan l).1 := by
  cases l with
  | nil => exact absurd h (by decide)
  | cons b t =>
    rw [scan_cons] at h ⊢
    by_cases h1 : 8 < szB b
    · rw [if_pos h1] at h; exact absurd h (by decide)
    · rw [if_neg h1] at h ⊢
      by_cases h2 : t.length < szB b
      · rw [if_pos h2] at h; exact absurd h (by decide)
      · rw [if_neg h2] at h ⊢
        by_cases h3 : 0 < szB b ∧ t.head? = some (maskB b)
        · rw [if_pos h3] at h; exact absurd h (by decide)
        · rw [if_neg h3] at h ⊢
          obtain ⟨D, hD⟩ : ∃ D, D = t.take (szB b) := ⟨_, rfl⟩
          rw [← hD] at h ⊢
          have hDl : D.length = szB b := by rw [hD, List.length_take]; omega
          obtain ⟨m, hm⟩ : ∃ m, m = magL (maskB b) D := ⟨_, rfl⟩
          rw [← hm] at h ⊢
          have hlt := magL_lt (maskB b) D
          rw [← hm, hDl] at hlt
          have hge : szB b = 0 ∨ 256 ^ (szB b - 1) ≤ m := by
            rcases Nat.eq_zero_or_pos (szB b) with h0 | h0
            · exact Or.inl h0
            · right
              cases hDc : D with
              | nil => rw [hDc] at hDl; simp at hDl; omega
              | cons d E =>
                have hne : d ≠ maskB b := fun e => h3 ⟨h0, by
                  have : t.head? = D.head? := by rw [hD]; cases t with
                    | nil => simp
                    | cons x y => cases hz : szB b with
                      | zero => omega
                      | succ k => rfl
                  rw [this, hDc, e]; rfl⟩
                have := magL_ge (maskB b) d E hne
                rw [hm, hDc]
                have e1 : E.length = szB b - 1 := by rw [hDc] at hDl; simp at hDl; omega
                rw [← e1]; exact this
          have hm64 : m < 18446744073709551616 := Nat.lt_of_lt_of_le hlt (by
            rw [pow256]
            exact Nat.le_trans (Nat.pow_le_pow_right (by decide) (show 8 * szB b ≤ 64 by omega)) (by decide))
          have hs := sz_eq hm64 hlt hge
          by_cases h4 : (sg m (decide (b.toNat < 128))).2 = 0
          · rw [if_pos h4]
            dsimp only
            have key : ∃ n : Int, sg m (decide (b.toNat < 128)) = (n, 0) ∧ n.natAbs = m ∧ (n < 0 ↔ b.toNat < 128) ∧ In64 n := by
              unfold sg at h4 ⊢
              by_cases hb : b.toNat < 128
              · rw [decide_eq_true hb] at h4 ⊢
                by_cases hmm : m ≤ 9223372036854775808
                · rw [if_pos ⟨rfl, hmm⟩]
                  have hpos : 1 ≤ m := by
                    have : szB b ≠ 0 := by unfold szB; rw [if_pos hb]; omega
                    exact Nat.le_trans (Nat.pow_pos (by decide)) (hge.resolve_left this)
                  exact ⟨_, rfl, by omega, ⟨fun _ => hb, fun _ => by omega⟩, by constructor <;> omega⟩
                · rw [if_neg (fun hh => hmm hh.2), if_neg (fun hh => nomatch hh.1)] at h4
                  exact absurd h4 (by decide)
              · rw [decide_eq_false hb] at h4 ⊢
                by_cases hmm : m ≤ 9223372036854775807
                · rw [if_neg (fun hh => nomatch hh.1), if_pos ⟨rfl, hmm⟩]
                  exact ⟨_, rfl, by omega, ⟨fun h => absurd h (by omega), fun h => absurd h hb⟩, by constructor <;> omega⟩
                · rw [if_neg (fun hh => nomatch hh.1), if_neg (fun hh => hmm hh.2)] at h4
                  exact absurd h4 (by decide)
            obtain ⟨n, hn1, hn2, hn3, hn4⟩ := key
            rw [hn1]
            dsimp only
            have hmk : mask n = maskB b := by
              unfold mask maskB
              by_cases hb : b.toNat < 128
              · rw [if_pos (hn3.2 hb), if_pos hb]
              · rw [if_neg (fun h => hb (hn3.1 h)), if_neg hb]
            have hf : first n = b := by
              refine UInt8.toNat_inj.1 ?_
              have h8 : sz n.natAbs ≤ 8 := by rw [hn2, hs]; omega
              have hblt := b.toNat_lt
              by_cases hb : b.toNat < 128
              · have := first_neg n (hn3.2 hb) h8
                rw [hn2, hs] at this
                have hz : szB b = 128 - b.toNat := by unfold szB; rw [if_pos hb]
                omega
              · have := first_pos n (fun h => hb (hn3.1 h)) h8
                rw [hn2, hs] at this
                have hz : szB b = b.toNat - 128 := by unfold szB; rw [if_neg hb]
                omega
            have hd : digs n 0 = D := by
              refine magL_inj (maskB b) (szB b) _ _ (by rw [digs_len, hn2, hs]; omega) hDl ?_
              rw [← hm, ← hmk, ← hn2]
              exact mag_all n hn4.abs
            refine ⟨t.drop (szB b), ?_, ?_, hn4⟩
            · unfold num
              rw [hf, hd, hD, List.cons_append, List.take_append_drop]
            · rw [num_length, hn2, hs]; push_cast; omega
          · rw [if_neg h4] at h
            exact absurd h h4
theorem Hs.comb {s : ByteArray} {p : Nat} {F G : List UInt8} (h : Hs s p F) (k : Hs s (p + F.length) G) : Hs s p (F ++ G) := by
  obtain ⟨r, e⟩ := h
  obtain ⟨r', e'⟩ := k
  rw [← List.drop_drop, e, List.drop_left] at e'
  exact ⟨r', by rw [e, e', List.append_assoc]⟩
theorem Hs.nil {s : ByteArray} {p : Nat} : Hs s p [] := ⟨_, rfl⟩
/-- What is read without an error stands there as a form, and is as it should be. -/
def Snd {α : Type} (f : ByteArray → St → α × St) (form : α → List UInt8) (Ok : α → Prop) : Prop := ∀ s st, (f s st).2.2 = 0 → st.2 = 0 ∧ Hs s st.1 (form (f s st).1) ∧ (f s st).2.1 = st.1 + (form (f s st).1).length ∧ Ok (f s st).1
theorem rdG_sound {α : Type} {z : α} {f : List UInt8 → α × Int × Int} {s : ByteArray} {st : St} (h : (rdG z f s st).2.2 = 0) : st.2 = 0 ∧ (f (s.data.toList.drop st.1)).2.2 = 0 ∧ (rdG z f s st).1 = (f (s.data.toList.drop st.1)).1 ∧ (rdG z f s st).2.1 = st.1 + (f (s.data.toList.drop st.1)).2.1.toNat := by
  unfold rdG at h ⊢
  by_cases h1 : st.2 = 0
  · rw [if_pos h1] at h ⊢
    by_cases h2 : (f (s.data.toList.drop st.1)).2.2 = 0
    · rw [if_pos h2]; exact ⟨h1, h2, rfl, rfl⟩
    · rw [if_neg h2] at h; exact absurd h h2
  · rw [if_neg h1] at h; exact absurd h h1
theorem snd_num : Snd (fun s st => rdG 0 scan s st) num In64 := fun s st h => by
  obtain ⟨h1, h2, h3, h4⟩ := rdG_sound h
  obtain ⟨rest, e, hl, hi⟩ := scan_sound h2
  dsimp only
  rw [h3, h4, hl]
  exact ⟨h1, ⟨rest, e⟩, by simp, hi⟩
theorem snd_bool : Snd (fun s st => rdG false scanB s st) boolF (fun _ => True) := fun s st h => by
  obtain ⟨h1, h2, h3, h4⟩ := rdG_sound h
  dsimp only
  rw [h3, h4]
  unfold scanB at h2 ⊢
  by_cases h5 : (scan (s.data.toList.drop st.1)).2.2 = 0
  · obtain ⟨rest, e, hl, hi⟩ := scan_sound h5
    rw [if_pos h5] at h2 ⊢
    by_cases h6 : (scan (s.data.toList.drop st.1)).1 = 0
    · rw [if_pos h6]
      rw [h6] at e hl
      exact ⟨h1, ⟨rest, e⟩, by dsimp only; rw [hl]; simp [boolF], trivial⟩
    · rw [if_neg h6] at h2 ⊢
      by_cases h7 : (scan (s.data.toList.drop st.1)).1 = 1
      · rw [if_pos h7]
        rw [h7] at e hl
        exact ⟨h1, ⟨rest, e⟩, by dsimp only; rw [hl]; simp [boolF], trivial⟩
      · rw [if_neg h7] at h2; exact absurd h2 (by decide)
  · rw [if_neg h5] at h2; exact absurd h2 h5
theorem snd_text : Snd (fun s st => rdG ByteArray.empty (scanT 4096) s st) text (fun t => t.size ≤ 4096) := fun s st h => by
  obtain ⟨h1, h2, h3, h4⟩ := rdG_sound h
  dsimp only
  rw [h3, h4]
  unfold scanT at h2 ⊢
  by_cases h5 : (scanZ 4096 5 (s.data.toList.drop st.1)).2.2 = 0
  · rw [if_pos h5]
    obtain ⟨n, k, e1, e2, e3, e4⟩ := scanZ_ok 4096 5 _ (by decide) h5
    rw [e1]
    obtain ⟨rest, e, hl, hi⟩ := scan_sound (l := s.data.toList.drop st.1) (by rw [e4])
    rw [e4] at e hl hi
    dsimp only at e hl hi ⊢
    have hk : k = (num (n : Int)).length := by omega
    have hr : n ≤ rest.length := by
      have := congrArg List.length e
      rw [List.length_append] at this
      omega
    have hdrop : (s.data.toList.drop st.1).drop k = rest := by rw [e, hk, List.drop_left]
    simp only [Int.toNat_natCast]
    rw [hdrop]
    have hsz : (bytesOf (rest.take n)).size = n := by rw [bytesOf_size, List.length_take]; omega
    refine ⟨h1, ⟨rest.drop n, ?_⟩, ?_, by rw [hsz]; omega⟩
    · unfold text
      rw [hsz, e, List.append_assoc]
      congr 1
      exact (List.take_append_drop n rest).symm
    · rw [text_len, hsz]; omega
  · rw [if_neg h5] at h2; exact absurd h2 h5
/-- A form that stands in a string is no longer than the string. -/
theorem Hs.le {s : ByteArray} {p : Nat} {F : List UInt8} (h : Hs s p F) : F.length ≤ s.size := by
  have := h.len
  rw [List.length_drop] at this
  have e : s.data.toList.length = s.size := by simp
  omega
/-- What is read up to the end is the whole string. -/
theorem Hs.all {s : ByteArray} {F : List UInt8} (h : Hs s 0 F) (hl : s.size ≤ F.length) : bytesOf F = s := by
  obtain ⟨rest, e⟩ := h
  rw [List.drop_zero] at e
  have e1 : s.data.toList.length = s.size := by simp
  have e2 := congrArg List.length e
  rw [List.length_append] at e2
  have e3 : rest = [] := List.eq_nil_of_length_eq_zero (by omega)
  rw [e3, List.append_nil] at e
  rw [← e]; rfl
theorem end_ok {s : ByteArray} {st : St} (h : endE s st = 0) : st.2 = 0 ∧ s.size ≤ st.1 := by
  unfold endE at h
  by_cases h1 : st.2 = 0
  · rw [if_pos h1] at h
    by_cases h2 : st.1 < s.size
    · rw [if_pos h2] at h; exact absurd h (by decide)
    · exact ⟨h1, by omega⟩
  · rw [if_neg h1] at h; exact absurd h h1
end Go.Proofs.Ytajainkaomkbjaa.E
