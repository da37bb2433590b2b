/- Plain: the bytewise order of forms is the order of numbers. -/
import Derived.Test.YtepcihfkkeahhaaSc
namespace Go.Proofs.Ytepcihfkkeahhaa
open En

theorem mask_xor (x m : UInt8) : x ^^^ m ^^^ m = x := by rw [UInt8.xor_assoc, UInt8.xor_self, UInt8.xor_zero]
theorem lt_sz (m : Nat) (h : m < 18446744073709551616) : m < 2 ^ (8 * sz m) := by
  rcases Nat.eq_zero_or_pos m with rfl | h0
  · exact Nat.pow_pos (by omega)
  · obtain ⟨_, _, h3⟩ := Lib.bitLenAux_bounds 64 m h (by omega)
    have h3' : m < 2 ^ Lib.bitLen m := h3
    exact Nat.lt_of_lt_of_le h3' (Nat.pow_le_pow_right (by omega) (by unfold sz; omega))
theorem sz_mono (m n : Nat) (h : m ≤ n) (hn : n < 18446744073709551616) : sz m ≤ sz n := by
  rcases Nat.eq_zero_or_pos m with rfl | h0
  · have : sz 0 = 0 := by decide
    omega
  · obtain ⟨_, h2, _⟩ := Lib.bitLenAux_bounds 64 m (by omega) (by omega)
    obtain ⟨_, _, h3⟩ := Lib.bitLenAux_bounds 64 n hn (by omega)
    have h2' : 2 ^ (Lib.bitLen m - 1) ≤ m := h2
    have h3' : n < 2 ^ Lib.bitLen n := h3
    have : Lib.bitLen m ≤ Lib.bitLen n := by
      rcases Nat.lt_or_ge (Lib.bitLen n) (Lib.bitLen m) with hh | hh
      · have := Nat.pow_le_pow_right (show 0 < 2 by omega) (show Lib.bitLen n ≤ Lib.bitLen m - 1 by omega)
        omega
      · exact hh
    unfold sz; omega
theorem sz_pos (m : Nat) (h0 : 0 < m) (h : m < 18446744073709551616) : 0 < sz m := by
  rcases Nat.eq_zero_or_pos (sz m) with hz | hz
  · have := lt_sz m h
    rw [hz] at this; omega
  · exact hz
theorem mag_digs (n : Int) (h : n.natAbs < 18446744073709551616) (t : Nat) : ∀ j, j + t = sz n.natAbs → magL (mask n) (digs n j) = n.natAbs / 2 ^ (8 * j) := by
  induction t with
  | zero =>
    intro j hj
    have : j = sz n.natAbs := by omega
    rw [this, digs_all, Nat.div_eq_of_lt (lt_sz _ h)]; rfl
  | succ t ih =>
    intro j hj
    rw [← digs_step n j (by omega), magL_snoc, ih (j + 1) (by omega)]
    have e : dig n j ^^^ mask n = UInt8.ofNat (n.natAbs / 2 ^ (8 * j) % 256) := by unfold dig; rw [mask_xor]
    rw [e, UInt8.toNat_ofNat', show 8 * (j + 1) = 8 * j + 8 by omega, Nat.pow_add, ← Nat.div_div_eq_div_mul]
    omega
theorem mag_all (n : Int) (h : n.natAbs < 18446744073709551616) : magL (mask n) (digs n 0) = n.natAbs := by
  rw [mag_digs n h (sz n.natAbs) 0 (by omega)]; simp
theorem magL_cons (m b : UInt8) (l : List UInt8) : magL m (b :: l) = (b ^^^ m).toNat * 256 ^ l.length + magL m l := by
  have gen : ∀ (l : List UInt8) (a : Nat), l.foldl (fun x b => x * 256 + (b ^^^ m).toNat) a = a * 256 ^ l.length + magL m l := by
    intro l
    induction l with
    | nil => intro a; simp [magL]
    | cons c l ih =>
      intro a
      show l.foldl _ (a * 256 + (c ^^^ m).toNat) = _ + l.foldl _ (0 * 256 + (c ^^^ m).toNat)
      rw [ih, ih, List.length_cons, Nat.pow_succ]
      simp only [Nat.zero_mul, Nat.zero_add, Nat.add_mul]
      rw [Nat.mul_assoc, Nat.mul_comm 256]; omega
  show l.foldl _ (0 * 256 + (b ^^^ m).toNat) = _
  rw [gen]; simp
set_option maxRecDepth 100000 in
theorem nat_255 : ∀ x : Fin 256, x.val ^^^ 255 = 255 - x.val := by decide
theorem xor_255 (b : UInt8) : (b ^^^ 255).toNat = 255 - b.toNat := by
  rw [UInt8.toNat_xor]
  exact nat_255 ⟨b.toNat, b.toNat_lt⟩
theorem xor_0 (b : UInt8) : (b ^^^ 0).toNat = b.toNat := by rw [UInt8.xor_zero]
theorem compl (l : List UInt8) : magL 255 l + magL 0 l + 1 = 256 ^ l.length := by
  induction l with
  | nil => rfl
  | cons b l ih =>
    rw [magL_cons, magL_cons, xor_255, xor_0, List.length_cons, Nat.pow_succ]
    have hb := b.toNat_lt
    have e : (255 - b.toNat) * 256 ^ l.length + b.toNat * 256 ^ l.length = 255 * 256 ^ l.length := by
      rw [← Nat.add_mul]; congr 1; omega
    omega
theorem bl_val (l : List UInt8) : ∀ l', l.length = l'.length → Op.bytesLess l l' = decide (magL 0 l < magL 0 l') := by
  induction l with
  | nil =>
    intro l' h
    cases l' with
    | nil => rfl
    | cons b t => simp at h
  | cons a x ih =>
    intro l' h
    cases l' with
    | nil => simp at h
    | cons b y =>
      have hl : x.length = y.length := by simpa using h
      have e := ih y hl
      have hx := magL_lt 0 x
      have hy := magL_lt 0 y
      rw [magL_cons, magL_cons, xor_0, xor_0, hl]
      rw [hl] at hx
      show (decide (a < b) || (a == b && Op.bytesLess x y)) = _
      rcases Nat.lt_trichotomy a.toNat b.toNat with hlt | heq | hgt
      · have h1 : a < b := UInt8.lt_iff_toNat_lt.2 hlt
        have h2 : (a.toNat + 1) * 256 ^ y.length ≤ b.toNat * 256 ^ y.length := Nat.mul_le_mul_right _ hlt
        rw [Nat.add_mul] at h2
        rw [decide_eq_true h1, Bool.true_or, decide_eq_true (by omega)]
      · have h1 : a = b := UInt8.toNat_inj.1 heq
        subst h1
        have h2 : ¬ a < a := fun h => Nat.lt_irrefl _ (UInt8.lt_iff_toNat_lt.1 h)
        rw [decide_eq_false h2, Bool.false_or, beq_self_eq_true, Bool.true_and, e]
        exact decide_eq_decide.2 (by omega)
      · have h1 : ¬ a < b := fun h => by have := UInt8.lt_iff_toNat_lt.1 h; omega
        have h3 : (a == b) = false := by rw [beq_eq_false_iff_ne]; intro h; rw [h] at hgt; omega
        have h2 : (b.toNat + 1) * 256 ^ y.length ≤ a.toNat * 256 ^ y.length := Nat.mul_le_mul_right _ hgt
        rw [Nat.add_mul] at h2
        rw [decide_eq_false h1, Bool.false_or, h3, Bool.false_and, decide_eq_false (by omega)]
def In64 (n : Int) : Prop := -9223372036854775808 ≤ n ∧ n ≤ 9223372036854775807
theorem In64.abs {n : Int} (h : In64 n) : n.natAbs < 18446744073709551616 := by have := h.1; have := h.2; omega
theorem first_same {m n : Int} (hm : In64 m) (hn : In64 n) (h : first m = first n) : (m < 0 ↔ n < 0) ∧ sz m.natAbs = sz n.natAbs := by
  have sm := sz_le _ hm.abs
  have sn := sz_le _ hn.abs
  have h' : ((first m).toNat : Int) = ((first n).toNat : Int) := by rw [h]
  by_cases m0 : m < 0
  · have pm := sz_pos m.natAbs (by omega) hm.abs
    rw [first_neg m m0 sm] at h'
    by_cases n0 : n < 0
    · rw [first_neg n n0 sn] at h'; exact ⟨⟨fun _ => n0, fun _ => m0⟩, by omega⟩
    · rw [first_pos n n0 sn] at h'; omega
  · rw [first_pos m m0 sm] at h'
    by_cases n0 : n < 0
    · have pn := sz_pos n.natAbs (by omega) hn.abs
      rw [first_neg n n0 sn] at h'; omega
    · rw [first_pos n n0 sn] at h'; exact ⟨⟨fun h => absurd h m0, fun h => absurd h n0⟩, by omega⟩
theorem first_lt {m n : Int} (hm : In64 m) (hn : In64 n) (h : first m ≠ first n) : ((first m).toNat < (first n).toNat ↔ m < n) := by
  have sm := sz_le _ hm.abs
  have sn := sz_le _ hn.abs
  have hne : ((first m).toNat : Int) ≠ ((first n).toNat : Int) := fun e => h (UInt8.toNat_inj.1 (by omega))
  have hmn := hm.abs
  have hnn := hn.abs
  have hle : m.natAbs ≤ n.natAbs → sz m.natAbs ≤ sz n.natAbs := fun h => sz_mono _ _ h hnn
  have hge : n.natAbs ≤ m.natAbs → sz n.natAbs ≤ sz m.natAbs := fun h => sz_mono _ _ h hmn
  by_cases m0 : m < 0
  · have pm := sz_pos m.natAbs (by omega) hm.abs
    have fm := first_neg m m0 sm
    by_cases n0 : n < 0
    · have fn := first_neg n n0 sn
      rcases Nat.le_total m.natAbs n.natAbs with hh | hh
      · have := hle hh; omega
      · have := hge hh; omega
    · have fn := first_pos n n0 sn
      omega
  · have fm := first_pos m m0 sm
    by_cases n0 : n < 0
    · have pn := sz_pos n.natAbs (by omega) hn.abs
      have fn := first_neg n n0 sn
      omega
    · have fn := first_pos n n0 sn
      rcases Nat.le_total m.natAbs n.natAbs with hh | hh
      · have := hle hh; omega
      · have := hge hh; omega
theorem num_inj {m n : Int} (hm : In64 m) (hn : In64 n) (h : num m = num n) : m = n := by
  unfold num at h
  obtain ⟨h1, h2⟩ := List.cons.inj h
  obtain ⟨hs, _⟩ := first_same hm hn h1
  have em : mask m = mask n := by unfold mask; simp only [hs]
  have e := mag_all m hm.abs
  rw [h2, em, mag_all n hn.abs] at e
  by_cases m0 : m < 0
  · have := hs.1 m0; omega
  · have : ¬ n < 0 := fun h => m0 (hs.2 h)
    omega
theorem num_less {m n : Int} (hm : In64 m) (hn : In64 n) : Op.bytesLess (num m) (num n) = decide (m < n) := by
  show (decide (first m < first n) || (first m == first n && Op.bytesLess (digs m 0) (digs n 0))) = _
  by_cases h : first m = first n
  · obtain ⟨hs, hz⟩ := first_same hm hn h
    have hl : (digs m 0).length = (digs n 0).length := by rw [digs_len, digs_len, hz]
    have h2 : ¬ first n < first n := fun h => Nat.lt_irrefl _ (UInt8.lt_iff_toNat_lt.1 h)
    rw [h, decide_eq_false h2, Bool.false_or, beq_self_eq_true, Bool.true_and, bl_val _ _ hl]
    have e1 := mag_all m hm.abs
    have e2 := mag_all n hn.abs
    apply decide_eq_decide.2
    by_cases m0 : m < 0
    · have n0 := hs.1 m0
      have k1 : mask m = 255 := by unfold mask; rw [if_pos m0]
      have k2 : mask n = 255 := by unfold mask; rw [if_pos n0]
      rw [k1] at e1; rw [k2] at e2
      have c1 := compl (digs m 0)
      have c2 := compl (digs n 0)
      rw [hl] at c1
      omega
    · have n0 : ¬ n < 0 := fun h => m0 (hs.2 h)
      have k1 : mask m = 0 := by unfold mask; rw [if_neg m0]
      have k2 : mask n = 0 := by unfold mask; rw [if_neg n0]
      rw [k1] at e1; rw [k2] at e2
      rw [e1, e2]; omega
  · have h3 : (first m == first n) = false := by rw [beq_eq_false_iff_ne]; exact h
    rw [h3, Bool.false_and, Bool.or_false]
    exact decide_eq_decide.2 (by rw [UInt8.lt_iff_toNat_lt]; exact first_lt hm hn h)
theorem num_prefix {m n : Int} (hm : In64 m) (hn : In64 n) (hne : m ≠ n) : (num m).take (min (num m).length (num n).length) ≠ (num n).take (min (num m).length (num n).length) := by
  intro h
  have h0 : 0 < min (num m).length (num n).length := by rw [num_len, num_len]; omega
  have h1 : first m = first n := by
    have := congrArg List.head? h
    rw [List.head?_take, List.head?_take, if_neg (by omega), if_neg (by omega)] at this
    simpa [num] using this
  obtain ⟨_, hz⟩ := first_same hm hn h1
  have hl : (num m).length = (num n).length := by rw [num_len, num_len, hz]
  rw [hl, Nat.min_self, List.take_of_length_le (by omega), List.take_of_length_le (by omega)] at h
  exact hne (num_inj hm hn h)
end Go.Proofs.Ytepcihfkkeahhaa
