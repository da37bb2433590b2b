/- Plain facts on the mixing function and on the checksum's register, over bit vectors. -/
import Derived.KernelRfl
namespace Go.Proofs.YtediohaamblpbaaDoor.Ck

/-- The mixed word. -/
def word (s n : BitVec 64) : BitVec 64 :=
  let z := s * 11400714819323198485#64 + n
  let z := (z ^^^ z >>> 30) * 13787848793156543929#64
  let z := (z ^^^ z >>> 27) * 10723151780598845931#64
  z ^^^ z >>> 31
/-- What undoes an xor with the word shifted by k. -/
def unsh (w : BitVec 64) (k : Nat) : BitVec 64 := w ^^^ w >>> k ^^^ w >>> (2 * k)
def inv1 : BitVec 64 := 10871156337175269513#64
def inv2 : BitVec 64 := 3573116690164977347#64
def inv (s w : BitVec 64) : BitVec 64 := unsh (unsh (unsh w 31 * inv2) 27 * inv1) 30 - s * 11400714819323198485#64

theorem inv1_mul : 13787848793156543929#64 * inv1 = 1#64 := by decide +kernel
theorem inv2_mul : 10723151780598845931#64 * inv2 = 1#64 := by decide +kernel

theorem shift_far (z : BitVec 64) (k : Nat) (h : 64 ≤ k) : z >>> k = 0#64 := by
  apply BitVec.eq_of_getLsbD_eq
  intro i _
  rw [BitVec.getLsbD_ushiftRight, BitVec.getLsbD_zero]
  exact BitVec.getLsbD_of_ge _ _ (by omega)
theorem unsh_shift (z : BitVec 64) (k : Nat) (h : 22 ≤ k) : unsh (z ^^^ z >>> k) k = z := by
  have hz := shift_far z (3 * k) (by omega)
  apply BitVec.eq_of_getLsbD_eq
  intro i _
  have hi : z.getLsbD (3 * k + i) = false := BitVec.getLsbD_of_ge _ _ (by omega)
  simp only [unsh, BitVec.getLsbD_xor, BitVec.getLsbD_ushiftRight]
  have e1 : k + (k + i) = 2 * k + i := by omega
  have e2 : k + (2 * k + i) = 3 * k + i := by omega
  rw [e1, e2, hi]
  cases z.getLsbD i <;> cases z.getLsbD (k + i) <;> cases z.getLsbD (2 * k + i) <;> rfl
theorem shift_unsh (w : BitVec 64) (k : Nat) (h : 22 ≤ k) : unsh w k ^^^ unsh w k >>> k = w := by
  apply BitVec.eq_of_getLsbD_eq
  intro i _
  have hi : w.getLsbD (3 * k + i) = false := BitVec.getLsbD_of_ge _ _ (by omega)
  simp only [unsh, BitVec.getLsbD_xor, BitVec.getLsbD_ushiftRight]
  have e1 : k + (k + i) = 2 * k + i := by omega
  have e2 : 2 * k + (k + i) = 3 * k + i := by omega
  rw [e1, e2, hi]
  cases w.getLsbD i <;> cases w.getLsbD (k + i) <;> cases w.getLsbD (2 * k + i) <;> rfl

theorem inv_word (s n : BitVec 64) : inv s (word s n) = n := by
  unfold inv word
  simp only []
  rw [unsh_shift _ 31 (by omega), BitVec.mul_assoc, inv2_mul, BitVec.mul_one, unsh_shift _ 27 (by omega), BitVec.mul_assoc, inv1_mul, BitVec.mul_one, unsh_shift _ 30 (by omega)]
  rw [BitVec.add_comm, BitVec.add_sub_cancel]
theorem word_inv (s n : BitVec 64) : word s (inv s n) = n := by
  unfold inv word
  simp only []
  rw [BitVec.add_comm, BitVec.sub_add_cancel, shift_unsh _ 30 (by omega), BitVec.mul_assoc, BitVec.mul_comm inv1, inv1_mul, BitVec.mul_one, shift_unsh _ 27 (by omega), BitVec.mul_assoc, BitVec.mul_comm inv2, inv2_mul, BitVec.mul_one, shift_unsh _ 31 (by omega)]
theorem word_inj (s a b : BitVec 64) (h : word s a = word s b) : a = b := by
  have := congrArg (inv s) h
  rwa [inv_word, inv_word] at this

/-- The text's word: the length, then each byte. -/
def text (h : BitVec 64) : List UInt8 → BitVec 64
  | [] => h
  | b :: l => text (word h (BitVec.ofNat 64 b.toNat)) l
theorem text_snoc (h : BitVec 64) (l : List UInt8) (b : UInt8) : text h (l ++ [b]) = word (text h l) (BitVec.ofNat 64 b.toNat) := by
  induction l generalizing h with
  | nil => rfl
  | cons c l ih => simp [text, ih]

/- The register. -/
def poly : BitVec 32 := 2197175160#32
def sh (c : BitVec 32) : BitVec 32 := c >>> 1 ^^^ (if c.getLsbD 0 then poly else 0#32)
def shn : Nat → BitVec 32 → BitVec 32
  | 0, c => c
  | n + 1, c => shn n (sh c)
theorem shn_add (m n : Nat) (c : BitVec 32) : shn (m + n) c = shn n (shn m c) := by
  induction m generalizing c with
  | zero => simp [shn]
  | succ m ih => rw [Nat.succ_add]; exact ih _
theorem shn_succ (n : Nat) (c : BitVec 32) : shn (n + 1) c = sh (shn n c) := shn_add n 1 c
theorem sh_xor (a b : BitVec 32) : sh (a ^^^ b) = sh a ^^^ sh b := by
  unfold sh
  rw [BitVec.getLsbD_xor, BitVec.ushiftRight_xor_distrib]
  cases a.getLsbD 0 <;> cases b.getLsbD 0 <;> simp
  · rw [BitVec.xor_assoc]
  · rw [BitVec.xor_assoc, BitVec.xor_assoc, BitVec.xor_comm poly]
  · have : a >>> 1 ^^^ poly ^^^ (b >>> 1 ^^^ poly) = a >>> 1 ^^^ b >>> 1 ^^^ (poly ^^^ poly) := by
      rw [BitVec.xor_assoc, BitVec.xor_assoc, BitVec.xor_comm poly, BitVec.xor_assoc]
    rw [this, BitVec.xor_self, BitVec.xor_zero]
theorem shn_xor (n : Nat) (a b : BitVec 32) : shn n (a ^^^ b) = shn n a ^^^ shn n b := by
  induction n generalizing a b with
  | zero => rfl
  | succ n ih => simp only [shn, sh_xor, ih]
theorem sh_zero : sh 0#32 = 0#32 := by decide
theorem shn_zero (n : Nat) : shn n 0#32 = 0#32 := by
  induction n with
  | zero => rfl
  | succ n ih => simp only [shn, sh_zero, ih]
theorem sh_low (c : BitVec 32) (h : c.getLsbD 0 = false) : sh c = c >>> 1 := by
  unfold sh; rw [h]; simp
theorem shn_low : ∀ (n : Nat) (c : BitVec 32), (∀ i, i < n → c.getLsbD i = false) → shn n c = c >>> n
  | 0, c, _ => by simp [shn]
  | n + 1, c, h => by
    rw [shn, sh_low c (h 0 (by omega)), shn_low n _ (fun i hi => by rw [BitVec.getLsbD_ushiftRight]; exact h _ (by omega)), ← BitVec.shiftRight_add, Nat.add_comm]

/-- The table: what a low half of a byte adds. -/
def tab (k : Nat) : BitVec 32 := shn 4 (BitVec.ofNat 32 k)
theorem and15 (c : BitVec 32) : c = (c &&& 4294967280#32) ^^^ BitVec.ofNat 32 (c.toNat % 16) := by
  apply BitVec.eq_of_getLsbD_eq
  intro i hi
  have h1 : (4294967280#32).getLsbD i = decide (4 ≤ i) := by
    rcases (show i = 0 ∨ i = 1 ∨ i = 2 ∨ i = 3 ∨ 4 ≤ i by omega) with rfl | rfl | rfl | rfl | h
    · decide
    · decide
    · decide
    · decide
    · have : ∀ i : Fin 32, 4 ≤ i.val → (4294967280#32).getLsbD i.val = true := by decide
      rw [this ⟨i, hi⟩ h]; simp [h]
  have h2 : (c.toNat % 16).testBit i = (decide (i < 4) && c.toNat.testBit i) := Nat.testBit_mod_two_pow (x := c.toNat) (j := 4) (i := i)
  rw [BitVec.getLsbD_xor, BitVec.getLsbD_and, h1, BitVec.getLsbD_ofNat, h2]
  simp only [BitVec.getLsbD, hi]
  by_cases h : 4 ≤ i
  · have : ¬ i < 4 := by omega
    simp [h, this]
  · have : i < 4 := by omega
    simp [h, this]
theorem nib (c : BitVec 32) : c >>> 4 ^^^ tab (c.toNat % 16) = shn 4 c := by
  have e := and15 c
  have hl : shn 4 (c &&& 4294967280#32) = c >>> 4 := by
    rw [shn_low]
    · apply BitVec.eq_of_getLsbD_eq
      intro i hi
      rw [BitVec.getLsbD_ushiftRight, BitVec.getLsbD_ushiftRight, BitVec.getLsbD_and]
      by_cases h : 4 + i < 32
      · have : ∀ i : Fin 32, 4 + i.val < 32 → (4294967280#32).getLsbD (4 + i.val) = true := by decide
        rw [this ⟨i, hi⟩ h]; simp
      · rw [BitVec.getLsbD_of_ge c _ (by omega)]; rfl
    · intro i hi
      rw [BitVec.getLsbD_and]
      have : ∀ i : Fin 4, (4294967280#32).getLsbD i.val = false := by decide
      rw [this ⟨i, hi⟩]; simp
  conv => rhs; rw [e]
  rw [shn_xor, hl]; rfl
theorem pass_nib (c : BitVec 32) : shn 4 (shn 4 c) = shn 8 c := (shn_add 4 4 c).symm

def byte (b : UInt8) : BitVec 32 := BitVec.ofNat 32 b.toNat
def reg (c : BitVec 32) : List UInt8 → BitVec 32
  | [] => c
  | b :: l => reg (shn 8 (c ^^^ byte b)) l
theorem reg_append (c : BitVec 32) (l m : List UInt8) : reg c (l ++ m) = reg (reg c l) m := by
  induction l generalizing c with
  | nil => rfl
  | cons b l ih => exact ih _
theorem reg_snoc (c : BitVec 32) (l : List UInt8) (b : UInt8) : reg c (l ++ [b]) = shn 8 (reg c l ^^^ byte b) := reg_append c l [b]
theorem reg_xor (c d : BitVec 32) (l : List UInt8) : reg (c ^^^ d) l = reg c l ^^^ shn (8 * l.length) d := by
  induction l generalizing c d with
  | nil => rfl
  | cons b l ih =>
    show reg (shn 8 (c ^^^ d ^^^ byte b)) l = reg (shn 8 (c ^^^ byte b)) l ^^^ shn (8 * (l.length + 1)) d
    rw [BitVec.xor_assoc, BitVec.xor_comm d, ← BitVec.xor_assoc, shn_xor, ih, Nat.mul_add, Nat.add_comm (8 * l.length), show 8 * 1 = 8 from rfl, shn_add]
def sum (l : List UInt8) : BitVec 32 := ~~~(reg (~~~0#32) l)
def ext (c : BitVec 32) (l : List UInt8) : BitVec 32 := ~~~(reg (~~~c) l)
theorem ext_sum (l m : List UInt8) : ext (sum l) m = sum (l ++ m) := by
  unfold ext sum; rw [BitVec.not_not, reg_append]
theorem ext_zero (l : List UInt8) : ext 0#32 l = sum l := rfl
theorem ext_nil (c : BitVec 32) : ext c [] = c := by unfold ext; simp [reg]
def comb (a b : BitVec 32) (n : Nat) : BitVec 32 := shn (8 * n) a ^^^ b
theorem comb_sum (l m : List UInt8) : comb (sum l) (sum m) m.length = sum (l ++ m) := by
  have h : reg (~~~0#32) l = ~~~0#32 ^^^ sum l := by
    unfold sum
    rw [← BitVec.xor_allOnes (x := reg (~~~0#32) l), ← BitVec.xor_assoc, BitVec.not_zero, BitVec.xor_comm (BitVec.allOnes 32), BitVec.xor_assoc, BitVec.xor_self, BitVec.xor_zero]
  conv => rhs; unfold sum
  rw [reg_append, h, reg_xor]
  unfold comb
  show shn (8 * m.length) (sum l) ^^^ ~~~(reg (~~~0#32) m) = _
  generalize reg (~~~0#32) m = R at *
  show shn (8 * m.length) (sum l) ^^^ ~~~R = ~~~(R ^^^ shn (8 * m.length) (sum l))
  generalize shn (8 * m.length) (sum l) = X
  have nt : ∀ x : BitVec 32, ~~~x = x ^^^ BitVec.allOnes 32 := fun x => (BitVec.xor_allOnes (x := x)).symm
  rw [nt, nt, ← BitVec.xor_assoc, BitVec.xor_comm X]

/-- The bits of a register below place k. -/
def low (c : BitVec 32) (k : Nat) : BitVec 32 := BitVec.ofNat 32 (c.toNat % 2 ^ k)
theorem low_bitAt (c : BitVec 32) (k i : Nat) (hi : i < 32) : (low c k).getLsbD i = (decide (i < k) && c.getLsbD i) := by
  unfold low
  rw [BitVec.getLsbD_ofNat, Nat.testBit_mod_two_pow]
  simp [hi, BitVec.getLsbD]
theorem low_zero (c : BitVec 32) : low c 0 = 0#32 := by unfold low; simp [Nat.mod_one]
theorem low_all (c : BitVec 32) : low c 32 = c := by
  apply BitVec.eq_of_getLsbD_eq
  intro i hi
  rw [low_bitAt _ _ _ hi]; simp [hi]
theorem one_at (k i : Nat) (hi : i < 32) : (1#32 <<< k).getLsbD i = decide (i = k) := by
  rw [BitVec.getLsbD_shiftLeft, BitVec.getLsbD_one]
  by_cases h : i = k
  · simp [h]; omega
  · by_cases h2 : i < k
    · simp [h, h2]
    · have : ¬ i - k = 0 := by omega
      simp [h, this]
theorem low_succ_on (c : BitVec 32) (k : Nat) (h : c.getLsbD k = true) : low c (k + 1) = low c k ^^^ 1#32 <<< k := by
  apply BitVec.eq_of_getLsbD_eq
  intro i hi
  rw [BitVec.getLsbD_xor, low_bitAt _ _ _ hi, low_bitAt _ _ _ hi, one_at _ _ hi]
  by_cases h1 : i < k
  · have h2 : i < k + 1 := by omega
    have h3 : ¬ i = k := by omega
    simp [h1, h2, h3]
  · by_cases h3 : i = k
    · subst h3; simp [h]
    · have h2 : ¬ i < k + 1 := by omega
      simp [h1, h2, h3]
theorem low_succ_off (c : BitVec 32) (k : Nat) (h : c.getLsbD k = false) : low c (k + 1) = low c k := by
  apply BitVec.eq_of_getLsbD_eq
  intro i hi
  rw [low_bitAt _ _ _ hi, low_bitAt _ _ _ hi]
  by_cases h1 : i < k
  · have h2 : i < k + 1 := by omega
    simp [h1, h2]
  · by_cases h3 : i = k
    · subst h3; simp [h]
    · have h2 : ¬ i < k + 1 := by omega
      simp [h1, h2]
theorem bit_div (c : BitVec 32) (k : Nat) : c.getLsbD k = decide (c.toNat / 2 ^ k % 2 = 1) := by
  rw [BitVec.getLsbD, Nat.testBit_eq_decide_div_mod_eq]
end Go.Proofs.YtediohaamblpbaaDoor.Ck
