/- What a change of bits does to the register: bursts, and up to three bits. -/
import Derived.Test.YtediohaamblpbaaDoorCk
namespace Go.Proofs.YtediohaamblpbaaDoor.Ck

/- What a change of bits does to the register. -/
theorem sh_inj0 (c : BitVec 32) (h : sh c = 0#32) : c = 0#32 := by
  have h0 : c.getLsbD 0 = false := by
    have := congrArg (fun x : BitVec 32 => x.getLsbD 31) h
    simp only [sh, BitVec.getLsbD_xor, BitVec.getLsbD_ushiftRight, BitVec.getLsbD_zero] at this
    rw [BitVec.getLsbD_of_ge c (1 + 31) (by omega)] at this
    cases hc : c.getLsbD 0 with
    | false => rfl
    | true =>
      rw [hc] at this
      exact absurd this (by decide)
  rw [sh_low c h0] at h
  apply BitVec.eq_of_getLsbD_eq
  intro i hi
  rw [BitVec.getLsbD_zero]
  cases i with
  | zero => exact h0
  | succ i =>
    have := congrArg (fun x : BitVec 32 => x.getLsbD i) h
    simp only [BitVec.getLsbD_ushiftRight, BitVec.getLsbD_zero] at this
    rw [Nat.add_comm]; exact this
theorem shn_inj0 : ∀ (n : Nat) (c : BitVec 32), shn n c = 0#32 → c = 0#32
  | 0, _, h => h
  | n + 1, c, h => sh_inj0 c (shn_inj0 n _ h)
theorem xor_eq_zero {a b : BitVec 32} (h : a ^^^ b = 0#32) : a = b := by
  have := congrArg (fun x => x ^^^ b) h
  simpa [BitVec.xor_assoc] using this
theorem xor_self_eq {a b : BitVec 32} (h : a = a ^^^ b) : b = 0#32 := by
  have := congrArg (fun x => a ^^^ x) h
  simp only [← BitVec.xor_assoc, BitVec.xor_self, BitVec.zero_xor] at this
  exact this.symm
theorem shn_inj (n : Nat) (a b : BitVec 32) (h : shn n a = shn n b) : a = b := by
  apply xor_eq_zero
  apply shn_inj0 n
  rw [shn_xor, h, BitVec.xor_self]

/-- The parity of the bits below k. -/
def parN : Nat → BitVec 32 → Bool
  | 0, _ => false
  | k + 1, c => Bool.xor (parN k c) (c.getLsbD k)
theorem parN_xor (k : Nat) (a b : BitVec 32) : parN k (a ^^^ b) = Bool.xor (parN k a) (parN k b) := by
  induction k with
  | zero => rfl
  | succ k ih =>
    simp only [parN, ih, BitVec.getLsbD_xor]
    cases parN k a <;> cases parN k b <;> cases a.getLsbD k <;> cases b.getLsbD k <;> rfl
theorem parN_shift (k : Nat) (c : BitVec 32) : parN (k + 1) c = Bool.xor (c.getLsbD 0) (parN k (c >>> 1)) := by
  induction k with
  | zero => simp [parN]
  | succ k ih =>
    rw [parN, ih]
    conv => rhs; rw [parN]
    rw [BitVec.getLsbD_ushiftRight, Nat.add_comm 1 k]
    cases c.getLsbD 0 <;> cases parN k (c >>> 1) <;> cases c.getLsbD (k + 1) <;> rfl
def par (c : BitVec 32) : Bool := parN 32 c
theorem par_xor (a b : BitVec 32) : par (a ^^^ b) = Bool.xor (par a) (par b) := parN_xor 32 a b
theorem par_sh (c : BitVec 32) : par (sh c) = par c := by
  have e : parN 32 (c >>> 1) = parN 31 (c >>> 1) := by
    rw [parN, BitVec.getLsbD_ushiftRight, BitVec.getLsbD_of_ge c _ (by omega)]; simp
  have e2 : par c = Bool.xor (c.getLsbD 0) (parN 32 (c >>> 1)) := by rw [e]; exact parN_shift 31 c
  unfold sh
  rw [par_xor, e2]
  have hp : par poly = true := by decide
  have hz : par 0#32 = false := by decide
  show Bool.xor (par (c >>> 1)) _ = Bool.xor _ (par (c >>> 1))
  cases c.getLsbD 0
  · simp [hz]
  · simp [hp]
theorem par_shn (n : Nat) (c : BitVec 32) : par (shn n c) = par c := by
  induction n generalizing c with
  | zero => rfl
  | succ n ih => rw [shn, ih, par_sh]

/-- None of the next n steps leads to 1. -/
def noOne : Nat → BitVec 32 → Bool
  | 0, _ => true
  | n + 1, c => (sh c != 1#32) && noOne n (sh c)
theorem noOne_at : ∀ (n : Nat) (c : BitVec 32), noOne n c = true → ∀ d, 0 < d → d ≤ n → shn d c ≠ 1#32
  | 0, _, _, d, h1, h2 => absurd h1 (by omega)
  | n + 1, c, h, d, h1, h2 => by
    simp only [noOne, Bool.and_eq_true, bne_iff_ne] at h
    obtain ⟨d, rfl⟩ : ∃ e, d = e + 1 := ⟨d - 1, by omega⟩
    rw [shn]
    rcases Nat.eq_zero_or_pos d with rfl | hd
    · exact h.1
    · exact noOne_at n _ h.2 d hd (by omega)
theorem noOne_4000 : noOne 4000 1#32 = true := by decide +kernel

/-- What a bit at place p of n bytes adds to the register behind them. -/
def eff (n p : Nat) : BitVec 32 := shn (8 * n - p) 1#32
theorem eff_ne (n p : Nat) : eff n p ≠ 0#32 := fun h => absurd (shn_inj0 _ _ h) (by decide)
theorem eff_par (n p : Nat) : par (eff n p) = true := by
  unfold eff; rw [par_shn]; decide
theorem eff_two (n p q : Nat) (hn : n ≤ 500) (hp : p < 8 * n) (hq : q < 8 * n) (h : p ≠ q) : eff n p ≠ eff n q := by
  have main : ∀ p q, p < 8 * n → q < 8 * n → p < q → eff n p ≠ eff n q := by
    intro p q hp hq h e
    unfold eff at e
    have e1 : 8 * n - p = (q - p) + (8 * n - q) := by omega
    rw [e1, shn_add] at e
    exact noOne_at 4000 1#32 noOne_4000 (q - p) (by omega) (by omega) (shn_inj _ _ _ e)
  rcases Nat.lt_or_gt_of_ne h with h | h
  · exact main p q hp hq h
  · exact fun e => main q p hq hp h e.symm

/-- The bytes with the bit at place p turned. -/
def flip (l : List UInt8) (p : Nat) : List UInt8 := l.modify (p / 8) (· ^^^ ((1 : UInt8) <<< (UInt8.ofNat (p % 8))))
theorem flip_len (l : List UInt8) (p : Nat) : (flip l p).length = l.length := by unfold flip; simp
theorem byte_xor (a b : UInt8) : byte (a ^^^ b) = byte a ^^^ byte b := by
  apply BitVec.eq_of_toNat_eq
  have ha := a.toNat_lt
  have hb := b.toNat_lt
  unfold byte
  rw [BitVec.toNat_xor, BitVec.toNat_ofNat, BitVec.toNat_ofNat, BitVec.toNat_ofNat, UInt8.toNat_xor, Nat.mod_eq_of_lt (by omega : a.toNat < 2 ^ 32), Nat.mod_eq_of_lt (by omega : b.toNat < 2 ^ 32)]
  exact Nat.mod_eq_of_lt (Nat.lt_of_lt_of_le (Nat.xor_lt_two_pow (n := 8) ha hb) (by decide))
theorem bit_shn : ∀ k : Fin 8, shn 8 (byte ((1 : UInt8) <<< (UInt8.ofNat k.val))) = shn (8 - k.val) 1#32 := by decide +kernel
theorem reg_flip (c : BitVec 32) (l : List UInt8) (p : Nat) (hp : p < 8 * l.length) : reg c (flip l p) = reg c l ^^^ eff l.length p := by
  induction l generalizing c p with
  | nil => simp at hp
  | cons b l ih =>
    simp only [List.length_cons] at hp
    by_cases h : p < 8
    · have e0 : p / 8 = 0 := by omega
      unfold flip
      rw [e0]
      simp only [List.modify_zero_cons]
      show reg (shn 8 (c ^^^ byte (b ^^^ _))) l = reg (shn 8 (c ^^^ byte b)) l ^^^ _
      rw [byte_xor, ← BitVec.xor_assoc, shn_xor, reg_xor]
      congr 1
      rw [bit_shn ⟨p % 8, by omega⟩, ← shn_add]
      unfold eff
      congr 1
      simp only [List.length_cons]; omega
    · have e0 : p / 8 = (p - 8) / 8 + 1 := by omega
      have e1 : p % 8 = (p - 8) % 8 := by omega
      have hf : flip (b :: l) p = b :: flip l (p - 8) := by
        unfold flip; rw [e0, e1]; simp only [List.modify_succ_cons]
      rw [hf]
      show reg (shn 8 (c ^^^ byte b)) (flip l (p - 8)) = reg (shn 8 (c ^^^ byte b)) l ^^^ _
      rw [ih _ _ (by omega)]
      congr 1
      unfold eff
      congr 1
      simp only [List.length_cons]; omega
theorem sum_flip (l : List UInt8) (m : List UInt8) (x : BitVec 32) (h : reg (~~~0#32) m = reg (~~~0#32) l ^^^ x) : (sum m = sum l) → x = 0#32 := by
  intro e
  unfold sum at e
  have e2 : reg (~~~0#32) m = reg (~~~0#32) l := BitVec.not_inj.1 e
  exact xor_self_eq (e2.symm.trans h)

/-- The burst: the bits below place i of w are those that were turned, from place a of l on. -/
structure Burst (l m : List UInt8) (a i : Nat) (w : BitVec 32) : Prop where
  len : m.length = l.length
  high : ∀ j, i ≤ j → w.getLsbD j = false
  reg : reg (~~~0#32) m = reg (~~~0#32) l ^^^ shn (8 * l.length - a) w
  none : w = 0#32 → m = l
theorem Burst.start (l : List UInt8) (a : Nat) : Burst l l a 0 0#32 :=
  ⟨rfl, fun _ _ => BitVec.getLsbD_zero, by rw [shn_zero, BitVec.xor_zero], fun _ => rfl⟩
theorem Burst.skip {l m : List UInt8} {a i : Nat} {w : BitVec 32} (h : Burst l m a i w) : Burst l m a (i + 1) w :=
  ⟨h.len, fun j hj => h.high j (by omega), h.reg, h.none⟩
theorem Burst.turn {l m : List UInt8} {a i : Nat} {w : BitVec 32} (h : Burst l m a i w) (hi : i < 32) (ha : a + i < 8 * l.length) : Burst l (flip m (a + i)) a (i + 1) (w ^^^ 1#32 <<< i) := by
  refine ⟨by rw [flip_len, h.len], fun j hj => ?_, ?_, fun e => ?_⟩
  · rw [BitVec.getLsbD_xor, h.high j (by omega)]
    by_cases h32 : j < 32
    · rw [one_at _ _ h32]; simp; omega
    · rw [BitVec.getLsbD_of_ge _ _ (by omega)]; rfl
  · rw [reg_flip _ _ _ (by rw [h.len]; exact ha), h.len, h.reg, shn_xor, BitVec.xor_assoc]
    congr 2
    unfold eff
    have e : 8 * l.length - a = i + (8 * l.length - (a + i)) := by omega
    rw [e, shn_add, shn_low i _ (fun j hj => by rw [one_at _ _ (by omega)]; simp; omega)]
    congr 1
    apply BitVec.eq_of_getLsbD_eq
    intro j hj
    rw [BitVec.getLsbD_ushiftRight, BitVec.getLsbD_one]
    by_cases h32 : i + j < 32
    · rw [one_at _ _ h32]
      by_cases hz : j = 0
      · simp [hz]
      · simp [hz]
    · rw [BitVec.getLsbD_of_ge _ _ (by omega)]; simp; omega
  · exfalso
    have := congrArg (fun x : BitVec 32 => x.getLsbD i) e
    simp only [BitVec.getLsbD_xor, h.high i (Nat.le_refl _), one_at _ _ hi, BitVec.getLsbD_zero] at this
    simp at this
theorem Burst.found {l m : List UInt8} {a i : Nat} {w : BitVec 32} (h : Burst l m a i w) (e : sum m = sum l) : m = l :=
  h.none (shn_inj0 _ _ (sum_flip l m _ h.reg e))

/-- Up to three bits: the places that were turned. -/
def effs (n : Nat) : List Nat → BitVec 32
  | [] => 0#32
  | p :: ps => effs n ps ^^^ eff n p
structure Turned (l m : List UInt8) (ps : List Nat) : Prop where
  len : m.length = l.length
  low : ∀ p ∈ ps, p < 8 * l.length
  apart : ps.Nodup
  reg : reg (~~~0#32) m = reg (~~~0#32) l ^^^ effs l.length ps
  none : ps = [] → m = l
theorem Turned.start (l : List UInt8) : Turned l l [] :=
  ⟨rfl, by simp, List.nodup_nil, by simp [effs], fun _ => rfl⟩
theorem Turned.turn {l m : List UInt8} {ps : List Nat} (h : Turned l m ps) (p : Nat) (hp : p < 8 * l.length) (hn : p ∉ ps) : Turned l (flip m p) (p :: ps) := by
  refine ⟨by rw [flip_len, h.len], ?_, List.nodup_cons.2 ⟨hn, h.apart⟩, ?_, fun e => by cases e⟩
  · intro q hq
    rcases List.mem_cons.1 hq with rfl | hq
    · exact hp
    · exact h.low q hq
  · rw [reg_flip _ _ _ (by rw [h.len]; exact hp), h.len, h.reg, BitVec.xor_assoc]; rfl
theorem Turned.found {l m : List UInt8} {ps : List Nat} (h : Turned l m ps) (h3 : ps.length ≤ 3) (hl : l.length ≤ 500) (e : sum m = sum l) : m = l := by
  have hz := sum_flip l m _ h.reg e
  match ps, h, h3, hz with
  | [], h, _, _ => exact h.none rfl
  | [p], h, _, hz =>
    exfalso
    have := congrArg par hz
    simp only [effs, par_xor, eff_par] at this
    exact absurd this (by decide)
  | [p, q], h, _, hz =>
    exfalso
    have hd : p ≠ q := by
      have := h.apart
      simp at this
      exact this
    simp only [effs, BitVec.zero_xor] at hz
    exact eff_two l.length q p hl (h.low q (by simp)) (h.low p (by simp)) (Ne.symm hd) (xor_eq_zero hz)
  | [p, q, r], h, _, hz =>
    exfalso
    have := congrArg par hz
    simp only [effs, par_xor, eff_par] at this
    exact absurd this (by decide)
  | p :: q :: r :: s :: t, _, h3, _ => simp at h3
end Go.Proofs.YtediohaamblpbaaDoor.Ck
