/- writePacked: the parts that it writes. -/
import Derived.Test.YtomjgkflnfjjbaaKk
import Derived.Lib.Slices
import Derived.Deep.DeepCutAuto
import Derived.Laws.MathBits
namespace Go.Proofs.Ytomjgkflnfjjbaa
open Go.ChangeShapes Go.WideShapes Go.ChangeAt Go.RowKit En

set_option maxRecDepth 100000 in
theorem w_text (g : Nat) (fs : List (List UInt8)) (s : ByteArray) (hs : s.size ≤ 100000) (htot : total fs ≤ 1000000) (w : World) (hW : WS w g fs) :
    Calls Try.prog 74 #[.pointer (some ⟨g, 0, none⟩), .string s] w fun e w' => e = .returned (.tuple #[]) ∧ WS w' g (text s :: fs) ∧ w.grownBy w' (some g) := by
  have Hn : Hid (0 < (text s).length ∧ (text s).length ≤ 1000000) := Lib.hid (by
    have := num_bounds (s.size : Int) (by omega) (by omega)
    rw [text_len]; omega)
  have HW := Lib.hid hW
  have Hnil : Hid (w.ownsRow w.heap.size 5 1 (.slice none 0 0) 0 (List.map u8v [])) := Lib.hid (by exact ⟨rfl, Or.inl ⟨rfl, rfl⟩⟩)
  clear hW
  go_enter Try.func74, Try.ntmps74
  go_wp2_with fail
  refine (append_text w.heap.size _ 0 [] (by omega) s hs w (Nat.le_refl _) Hnil.out).mono ?_
  rintro e w1 ⟨⟨v, hown, rfl⟩, hB, _⟩
  have HW1 := Lib.hid (HW.out.below hB)
  have Hown : Hid (w1.ownsRow w.heap.size 5 1 v (text s).length ((text s).map u8v)) := Lib.hid (by rw [Nat.zero_add, List.nil_append] at hown; exact hown)
  have HB := Lib.hid hB
  clear hown hB
  go_wp2_with fail
  refine (add_any g fs (text s) _ v Hn.out.1 Hn.out.2 (by omega) w1 HW1.out Hown.out).mono ?_
  rintro e w2 ⟨rfl, hWS, hgr⟩
  go_wp2_with fail
  go_end0
  exact ⟨rfl, hWS, hgr.os.trans HB.out.os, hgr.tape.trans HB.out.tape, hgr.output.trans HB.out.output, Nat.le_trans HB.out.size hgr.size, fun i hi hne => (hgr.block i (by have := HB.out.size; omega) hne).trans (HB.out.block i hi)⟩

/- The least and the greatest value, the width, the bytes. -/
theorem min_take (L : List Int) (k : Nat) (h0 : 0 < k) (hk : k ≤ L.length) : ∀ j, j < k → Lib.minOf (L.take k) ≤ L.getD j 0 := by
  induction k with
  | zero => omega
  | succ k ih =>
    intro j hj
    by_cases h : k = 0
    · subst h
      rw [Lib.minOf_one]
      obtain rfl : j = 0 := by omega
      omega
    · rw [Lib.minOf_step L k (by omega) (by omega)]
      by_cases e : j = k
      · subst e; omega
      · have := ih (by omega) (by omega) j (by omega); omega
theorem max_take (L : List Int) (k : Nat) (h0 : 0 < k) (hk : k ≤ L.length) : ∀ j, j < k → L.getD j 0 ≤ Lib.maxOf (L.take k) := by
  induction k with
  | zero => omega
  | succ k ih =>
    intro j hj
    by_cases h : k = 0
    · subst h
      rw [Lib.maxOf_one]
      obtain rfl : j = 0 := by omega
      omega
    · rw [Lib.maxOf_step L k (by omega) (by omega)]
      by_cases e : j = k
      · subst e; omega
      · have := ih (by omega) (by omega) j (by omega); omega
theorem min_mem (L : List Int) (k : Nat) (h0 : 0 < k) (hk : k ≤ L.length) : ∃ j, j < k ∧ Lib.minOf (L.take k) = L.getD j 0 := by
  induction k with
  | zero => omega
  | succ k ih =>
    by_cases h : k = 0
    · subst h; exact ⟨0, by omega, Lib.minOf_one L⟩
    · rw [Lib.minOf_step L k (by omega) (by omega)]
      obtain ⟨j, hj, e⟩ := ih (by omega) (by omega)
      rw [e]
      by_cases hm : L.getD j 0 ≤ L.getD k 0
      · exact ⟨j, by omega, by omega⟩
      · exact ⟨k, by omega, by omega⟩
theorem max_mem (L : List Int) (k : Nat) (h0 : 0 < k) (hk : k ≤ L.length) : ∃ j, j < k ∧ Lib.maxOf (L.take k) = L.getD j 0 := by
  induction k with
  | zero => omega
  | succ k ih =>
    by_cases h : k = 0
    · subst h; exact ⟨0, by omega, Lib.maxOf_one L⟩
    · rw [Lib.maxOf_step L k (by omega) (by omega)]
      obtain ⟨j, hj, e⟩ := ih (by omega) (by omega)
      rw [e]
      by_cases hm : L.getD k 0 ≤ L.getD j 0
      · exact ⟨j, by omega, by omega⟩
      · exact ⟨k, by omega, by omega⟩
/-- The least value, or 0. -/
def lsF (L : List Int) : Int := if L.length = 0 then 0 else Lib.minOf L
/-- The greatest value, or 0. -/
def gtF (L : List Int) : Int := if L.length = 0 then 0 else Lib.maxOf L
theorem getD_vs {L : List Int} (h : Vs L) (j : Nat) : -1152921504606846976 ≤ L.getD j 0 ∧ L.getD j 0 ≤ 1152921504606846976 := bfL_bd h (j + 1)
theorem lsF_le (L : List Int) (j : Nat) (hj : j < L.length) : lsF L ≤ L.getD j 0 := by
  unfold lsF; rw [if_neg (by omega)]
  have := min_take L L.length (by omega) (Nat.le_refl _) j hj
  rwa [List.take_length] at this
theorem le_gtF (L : List Int) (j : Nat) (hj : j < L.length) : L.getD j 0 ≤ gtF L := by
  unfold gtF; rw [if_neg (by omega)]
  have := max_take L L.length (by omega) (Nat.le_refl _) j hj
  rwa [List.take_length] at this
theorem lsF_bd {L : List Int} (h : Vs L) : -1152921504606846976 ≤ lsF L ∧ lsF L ≤ 1152921504606846976 := by
  by_cases h0 : L.length = 0
  · unfold lsF; rw [if_pos h0]; omega
  · obtain ⟨j, _, e⟩ := min_mem L L.length (by omega) (Nat.le_refl _)
    rw [List.take_length] at e
    unfold lsF; rw [if_neg h0, e]; exact getD_vs h j
theorem gtF_bd {L : List Int} (h : Vs L) : -1152921504606846976 ≤ gtF L ∧ gtF L ≤ 1152921504606846976 := by
  by_cases h0 : L.length = 0
  · unfold gtF; rw [if_pos h0]; omega
  · obtain ⟨j, _, e⟩ := max_mem L L.length (by omega) (Nat.le_refl _)
    rw [List.take_length] at e
    unfold gtF; rw [if_neg h0, e]; exact getD_vs h j
theorem ls_le_gt (L : List Int) : lsF L ≤ gtF L := by
  by_cases h0 : L.length = 0
  · unfold lsF gtF; rw [if_pos h0, if_pos h0]; omega
  · have := lsF_le L 0 (by omega); have := le_gtF L 0 (by omega); omega
/-- The width. -/
def wdF (L : List Int) : Nat := Lib.bitLen (gtF L - lsF L).toNat
theorem wdF_le {L : List Int} (h : Vs L) : wdF L ≤ 62 := by
  have h1 := lsF_bd h
  have h2 := gtF_bd h
  exact Lib.bitLen_le _ 62 (by omega) (by omega)
/-- How many bytes so many bits need. -/
def szF (n wd : Nat) : Nat := (n * wd + 7) / 8
/-- A value less the least one. -/
def dfF (L : List Int) (i : Nat) : Nat := (L.getD i 0 - lsF L).toNat
/-- The bytes behind the first i values. -/
def pkA (L : List Int) : Nat → List Nat
  | 0 => List.replicate (szF L.length (wdF L)) 0
  | i + 1 => pkL (i * wdF L) (dfF L i) (pkA L i) (wdF L)
theorem pkA_len (L : List Int) (i : Nat) : (pkA L i).length = szF L.length (wdF L) := by
  induction i with
  | zero => simp [pkA]
  | succ i ih => show (pkL _ _ _ _).length = _; rw [pkL_len, ih]
theorem pkA_byte (L : List Int) (i : Nat) : ∀ x ∈ pkA L i, x < 256 := by
  induction i with
  | zero =>
    intro x hx
    have := (List.mem_replicate.1 hx).2
    omega
  | succ i ih => exact pkL_byte _ _ _ ih _
theorem fits (n wd i : Nat) (h : i < n) : i * wd + wd ≤ 8 * szF n wd := by
  unfold szF
  have : (i + 1) * wd ≤ n * wd := Nat.mul_le_mul_right wd (by omega)
  rw [Nat.add_mul, Nat.one_mul] at this
  omega
theorem szF_le (n wd : Nat) (hn : n ≤ 4096) (hw : wd ≤ 62) : szF n wd ≤ 31744 := by
  unfold szF
  have := Nat.mul_le_mul hn hw
  omega
/-- The bytes of a packed form. -/
def pkB (L : List Int) : List UInt8 := (pkA L L.length).map fun x => UInt8.ofNat x
theorem pkB_len (L : List Int) : (pkB L).length = szF L.length (wdF L) := by unfold pkB; rw [List.length_map, pkA_len]
/-- The parts of a packed form. -/
def prK (L : List Int) (fs : List (List UInt8)) : List (List UInt8) := text ⟨(pkB L).toArray⟩ :: num (wdF L : Int) :: num (lsF L) :: num (L.length : Int) :: fs
end Go.Proofs.Ytomjgkflnfjjbaa
