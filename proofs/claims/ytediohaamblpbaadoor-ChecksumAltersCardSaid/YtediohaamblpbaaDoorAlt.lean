/- A link tells its record and what stands before it: plain facts. -/
import Derived.Test.YtediohaamblpbaaDoorChain
import Derived.Test.YtediohaamblpbaaDoorDet
namespace Go.Proofs.YtediohaamblpbaaDoor
open Go.ChangeShapes Go.WideShapes Go.ChangeAt Go.RowKit Go.Joins Ck

/-- The four lowest bytes of a register make it up again. -/
theorem byte_bit (b : UInt8) (i : Nat) (hi : i < 32) : (byte b).getLsbD i = b.toNat.testBit i := by
  unfold byte
  rw [BitVec.getLsbD_ofNat]; simp [hi]
theorem leAt_bit (p i j : Nat) : (leAt p i).toNat.testBit j = (decide (j < 8) && p.testBit (8 * i + j)) := by
  have h := leAt_int p i
  have h' : (leAt p i).toNat = p / 256 ^ i % 2 ^ 8 := by
    have : (2 : Nat) ^ 8 = 256 := rfl
    rw [this]; omega
  rw [h', Nat.testBit_mod_two_pow, ← pow_8, Nat.testBit_div_two_pow, Nat.add_comm]
theorem reg4 (c : BitVec 32) (b0 b1 b2 b3 : UInt8) : reg c [b0, b1, b2, b3] = shn 32 (c ^^^ (byte b0 ^^^ byte b1 <<< 8 ^^^ byte b2 <<< 16 ^^^ byte b3 <<< 24)) := by
  have low : ∀ (b : UInt8) (k : Nat), k ≤ 24 → shn k (byte b <<< k) = byte b := by
    intro b k hk
    rw [shn_low k _ (fun i hi => by rw [BitVec.getLsbD_shiftLeft]; simp [hi])]
    apply BitVec.eq_of_getLsbD_eq
    intro i hi
    rw [BitVec.getLsbD_ushiftRight]
    by_cases h : k + i < 32
    · rw [BitVec.getLsbD_shiftLeft]
      simp [h]
    · have : (byte b).getLsbD i = false := by
        rw [byte_bit _ _ hi]
        exact Nat.testBit_lt_two_pow (Nat.lt_of_lt_of_le b.toNat_lt (Nat.pow_le_pow_right (by omega) (show 8 ≤ i by omega)))
      rw [BitVec.getLsbD_of_ge _ _ (by omega), this]
  show shn 8 (shn 8 (shn 8 (shn 8 (c ^^^ byte b0) ^^^ byte b1) ^^^ byte b2) ^^^ byte b3) = _
  have e1 := low b1 8 (by omega)
  have e2 := low b2 16 (by omega)
  have e3 := low b3 24 (by omega)
  have s32 : ∀ x, shn 32 x = shn 8 (shn 24 x) := fun x => shn_add 24 8 x
  have s24 : ∀ x, shn 24 x = shn 8 (shn 16 x) := fun x => shn_add 16 8 x
  have s16 : ∀ x, shn 16 x = shn 8 (shn 8 x) := fun x => shn_add 8 8 x
  have h3 : shn 24 (c ^^^ (byte b0 ^^^ byte b1 <<< 8 ^^^ byte b2 <<< 16 ^^^ byte b3 <<< 24)) = shn 24 (c ^^^ (byte b0 ^^^ byte b1 <<< 8 ^^^ byte b2 <<< 16)) ^^^ byte b3 := by
    rw [← BitVec.xor_assoc c, shn_xor, e3]
  have h2 : shn 16 (c ^^^ (byte b0 ^^^ byte b1 <<< 8 ^^^ byte b2 <<< 16)) = shn 16 (c ^^^ (byte b0 ^^^ byte b1 <<< 8)) ^^^ byte b2 := by
    rw [← BitVec.xor_assoc c, shn_xor, e2]
  have h1 : shn 8 (c ^^^ (byte b0 ^^^ byte b1 <<< 8)) = shn 8 (c ^^^ byte b0) ^^^ byte b1 := by
    rw [← BitVec.xor_assoc c, shn_xor, e1]
  rw [s32, h3, s24, h2, s16, h1]
theorem le4 (p : BitVec 32) : byte (leAt p.toNat 0) ^^^ byte (leAt p.toNat 1) <<< 8 ^^^ byte (leAt p.toNat 2) <<< 16 ^^^ byte (leAt p.toNat 3) <<< 24 = p := by
  apply BitVec.eq_of_getLsbD_eq
  intro i hi
  have hb : ∀ k m : Nat, (byte (leAt p.toNat k) <<< m).getLsbD i = (decide (m ≤ i ∧ i < m + 8) && p.toNat.testBit (8 * k + (i - m))) := by
    intro k m
    rw [BitVec.getLsbD_shiftLeft]
    by_cases h : i < m
    · have : ¬ m ≤ i := by omega
      simp [h, this]
    · rw [byte_bit _ _ (by omega), leAt_bit]
      have h2 : m ≤ i := by omega
      by_cases h3 : i - m < 8
      · have : i < m + 8 := by omega
        simp [h2, h3, this, hi]
      · have : ¬ i < m + 8 := by omega
        simp [h2, h3, this, hi]
  have h0 : (byte (leAt p.toNat 0)).getLsbD i = (decide (i < 8) && p.toNat.testBit i) := by
    rw [byte_bit _ _ hi, leAt_bit]; simp
  simp only [BitVec.getLsbD_xor, hb, h0]
  show _ = p.toNat.testBit i
  rcases (show i < 8 ∨ (8 ≤ i ∧ i < 16) ∨ (16 ≤ i ∧ i < 24) ∨ 24 ≤ i by omega) with h | h | h | h
  · have a1 : ¬ 8 ≤ i := by omega
    have a2 : ¬ 16 ≤ i := by omega
    have a3 : ¬ 24 ≤ i := by omega
    simp [h, a1, a2, a3]
  · have a0 : ¬ i < 8 := by omega
    have a2 : ¬ 16 ≤ i := by omega
    have a3 : ¬ 24 ≤ i := by omega
    have e : 8 * 1 + (i - 8) = i := by omega
    rw [e]; simp [a0, a2, a3, h]
  · have a0 : ¬ i < 8 := by omega
    have a1 : ¬ i < 8 + 8 := by omega
    have a3 : ¬ 24 ≤ i := by omega
    have e : 8 * 2 + (i - 16) = i := by omega
    rw [e]; simp [a0, a1, a3, h]
  · have a0 : ¬ i < 8 := by omega
    have a1 : ¬ i < 8 + 8 := by omega
    have a2 : ¬ i < 16 + 8 := by omega
    have a3 : i < 24 + 8 := by omega
    have e : 8 * 3 + (i - 24) = i := by omega
    rw [e]; simp [a0, a1, a2, a3, h]
theorem le_4 (n : Nat) : le n 4 = [leAt n 0, leAt n 1, leAt n 2, leAt n 3] := rfl
theorem reg_inj (c d : BitVec 32) (l : List UInt8) (h : reg c l = reg d l) : c = d := by
  have e := reg_xor d (d ^^^ c) l
  rw [← BitVec.xor_assoc, BitVec.xor_self, BitVec.zero_xor, h] at e
  have z := shn_inj0 _ _ (xor_self_eq e)
  exact (xor_eq_zero z).symm
/-- Another link before leads to another link. -/
theorem link_before (p q : BitVec 32) (r : List UInt8) (h : linkS p r = linkS q r) : p = q := by
  unfold linkS Ck.sum at h
  have h2 := BitVec.not_inj.1 h
  simp only [reg_append] at h2
  have h3 := reg_inj _ _ _ (reg_inj _ _ _ h2)
  rw [le_4, le_4, reg4, reg4, le4, le4] at h3
  have h4 := shn_inj _ _ _ h3
  have := congrArg (fun x => ~~~0#32 ^^^ x) h4
  simpa only [← BitVec.xor_assoc, BitVec.xor_self, BitVec.zero_xor] using this
/-- A record of which one byte is another leads to another link. -/
theorem link_record (p : BitVec 32) (r : List UInt8) (k : Nat) (hk : k < r.length) (b : UInt8) (h : linkS p r = linkS p (r.set k b)) : b = r[k] := by
  unfold linkS Ck.sum at h
  rw [List.length_set] at h
  have h2 := BitVec.not_inj.1 h
  rw [reg_append, reg_append _ (le p.toNat 4 ++ le r.length 8) (r.set k b)] at h2
  generalize reg (~~~0#32) (le p.toNat 4 ++ le r.length 8) = c at h2
  have e1 : r = r.take k ++ r[k] :: r.drop (k + 1) := by rw [← List.drop_eq_getElem_cons hk, List.take_append_drop]
  have e2 : r.set k b = r.take k ++ b :: r.drop (k + 1) := by rw [List.set_eq_take_append_cons_drop, if_pos hk]
  rw [e2] at h2
  have h3 : reg c (r.take k ++ r[k] :: r.drop (k + 1)) = reg c (r.take k ++ b :: r.drop (k + 1)) := by rw [← e1]; exact h2
  rw [reg_append, reg_append] at h3
  have h4 := shn_inj 8 _ _ (reg_inj _ _ _ (show reg (shn 8 (reg c (r.take k) ^^^ byte r[k])) (r.drop (k + 1)) = reg (shn 8 (reg c (r.take k) ^^^ byte b)) (r.drop (k + 1)) from h3))
  have h5 : byte r[k] = byte b := by
    have := congrArg (fun x => reg c (r.take k) ^^^ x) h4
    simpa only [← BitVec.xor_assoc, BitVec.xor_self, BitVec.zero_xor] using this
  have h6 := congrArg BitVec.toNat h5
  unfold byte at h6
  rw [BitVec.toNat_ofNat, BitVec.toNat_ofNat] at h6
  have hb := b.toNat_lt
  have hr := r[k].toNat_lt
  apply UInt8.toNat_inj.1
  omega
theorem pre_same (ss tt : Nat → List UInt8) (k : Nat) (h : ∀ j, j < k → ss j = tt j) : pre ss k = pre tt k := by
  induction k with
  | zero => rfl
  | succ k ih =>
    show linkS (pre ss k) (ss k) = linkS (pre tt k) (tt k)
    rw [ih (fun j hj => h j (by omega)), h k (by omega)]
theorem pre_other (ss tt : Nat → List UInt8) (k : Nat) (h : ∀ j, j ≠ k → ss j = tt j) (hk : ∀ p, linkS p (ss k) ≠ linkS p (tt k)) : ∀ i, k < i → pre ss i ≠ pre tt i := by
  intro i
  induction i with
  | zero => intro h; omega
  | succ i ih =>
    intro hi e
    have e' : linkS (pre ss i) (ss i) = linkS (pre tt i) (tt i) := e
    rcases Nat.lt_or_eq_of_le (Nat.le_of_lt_succ hi) with h1 | h1
    · rw [h i (by omega)] at e'
      exact ih h1 (link_before _ _ _ e')
    · subst h1
      rw [pre_same ss tt k (fun j hj => h j (by omega))] at e'
      exact hk _ e'
end Go.Proofs.YtediohaamblpbaaDoor
