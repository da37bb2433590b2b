/- pack: the bits of a number behind others. -/
import Derived.Test.YtomjgkflnfjjbaaKj
import Derived.StillTailTactics
namespace Go.Proofs.Ytomjgkflnfjjbaa
open Go.ChangeShapes Go.WideShapes Go.ChangeAt Go.RowKit En

/-- Bytes as cells. -/
def byV (x : Nat) : Value := .int .u8 (x : Int)
/-- A block of bytes. -/
def By (w : World) (g : Nat) (q : List Nat) : Prop := w.heap[g]? = some (.cells (q.map byV).toArray 5 (0, 0))
/-- The k lowest bits of n behind the first a bits of some bytes. -/
def pkL (a n : Nat) (q : List Nat) : Nat → List Nat
  | 0 => q
  | k + 1 => (pkL a n q k).set ((a + k) / 8) ((pkL a n q k).getD ((a + k) / 8) 0 ||| n / 2 ^ k % 2 * 2 ^ ((a + k) % 8))
theorem pkL_len (a n : Nat) (q : List Nat) (k : Nat) : (pkL a n q k).length = q.length := by
  induction k with
  | zero => rfl
  | succ k ih => show (List.set _ _ _).length = _; rw [List.length_set, ih]
theorem or_lt {a b : Nat} (ha : a < 256) (hb : b < 256) : a ||| b < 256 := Nat.or_lt_two_pow (n := 8) ha hb
theorem bit_lt (n k s : Nat) (hs : s < 8) : n / 2 ^ k % 2 * 2 ^ s < 256 := by
  have h1 : n / 2 ^ k % 2 ≤ 1 := by omega
  have h2 : 2 ^ s ≤ 128 := Nat.pow_le_pow_right (n := 2) (by omega) (show s ≤ 7 by omega)
  have := Nat.mul_le_mul h1 h2
  omega
theorem pkL_byte (a n : Nat) (q : List Nat) (hq : ∀ x ∈ q, x < 256) (k : Nat) : ∀ x ∈ pkL a n q k, x < 256 := by
  induction k with
  | zero => exact hq
  | succ k ih =>
    intro x hx
    rcases List.mem_or_eq_of_mem_set hx with hx | rfl
    · exact ih x hx
    · refine or_lt ?_ (bit_lt n k _ (Nat.mod_lt _ (by omega)))
      by_cases h : (a + k) / 8 < (pkL a n q k).length
      · rw [show (pkL a n q k).getD ((a + k) / 8) 0 = (pkL a n q k)[(a + k) / 8] by simp [List.getD, List.getElem?_eq_getElem h]]
        exact ih _ (List.getElem_mem h)
      · rw [show (pkL a n q k).getD ((a + k) / 8) 0 = 0 by simp [List.getD, List.getElem?_eq_none (Nat.le_of_not_lt h)]]
        omega
theorem grown_set {w w' : World} {g i : Nat} (h : w.grownBy w' (some g)) (v : Value) : w.grownBy (w'.setCell ⟨g, i, none⟩ v) (some g) :=
  ⟨h.os, h.tape, h.output, by simpa using h.size, fun k hk hne => (Below.heap_setCell w' _ v k (fun e => hne (by rw [e]))).trans (h.block k hk hne)⟩
theorem grown_drewN {w w' : World} {r : Option Nat} (h : w.grownBy w' r) (n : Nat) : w.grownBy (w'.drewN n) r := ⟨h.os, h.tape, h.output, h.size, h.block⟩
theorem grown_drew {w w' : World} {r : Option Nat} (h : w.grownBy w' r) : w.grownBy w'.drew r := ⟨h.os, h.tape, h.output, h.size, h.block⟩
theorem by_set {w : World} {g : Nat} {q : List Nat} (h : By w g q) (i x : Nat) : By (w.setCell ⟨g, i, none⟩ (.int .u8 (x : Int))) g (q.set i x) := by
  unfold By
  rw [blk_set _ h]
  congr 2
  simp [byV, List.map_set]
theorem by_cell {w : World} {g : Nat} {q : List Nat} (h : By w g q) (i : Nat) (hi : i < q.length) : w.cell? ⟨g, i, none⟩ = some (.int .u8 (q.getD i 0 : Int)) := by
  rw [cell_of_row w g i _ _ _ h]
  simp [byV, List.getD, List.getElem?_eq_getElem hi]
theorem by_frozen {w : World} {g : Nat} {q : List Nat} (h : By w g q) (i : Nat) : w.frozen? ⟨g, i, none⟩ = false := by
  unfold By at h
  simp [World.frozen?, h]
theorem by_lt {w : World} {g : Nat} {q : List Nat} (h : By w g q) : g < w.heap.size := (Array.getElem?_eq_some_iff.1 h).1
/- What the region computes, each result under a name that the walk does not look into. -/
def smN (a j : Nat) : Nat := a + j
def dvN (p : Nat) : Nat := p / 8
def rmN (p : Nat) : Nat := p % 8
def btN (n j : Nat) : Nat := n / 2 ^ j % 2
def w8N (b : Nat) : Nat := b % 256
def shN (b s : Nat) : Nat := b * 2 ^ s % 256
def orN (x v : Nat) : Nat := x ||| v
/-- A number that no sum of ints overflows. -/
def Sm (p : Nat) : Prop := p ≤ 9000000
def B8 (p : Nat) : Prop := p < 256
def B64 (p : Nat) : Prop := p < 18446744073709551616
section
theorem sum_at (a j : Nat) (h : Sm (smN a j)) : IntKind.i64.wrap ((a : Int) + (j : Int)) = ((smN a j : Nat) : Int) := by unfold Sm smN at h; unfold smN; simp only [IntKind.wrap_i64]; omega
theorem sum_at' (a j : Nat) (h : Sm (smN a j)) : wrap64 ((a : Int) + (j : Int)) = ((smN a j : Nat) : Int) := by unfold Sm smN at h; unfold smN wrap64; omega
theorem wrap_at (p : Nat) (h : Sm p) : IntKind.i64.wrap (p : Int) = (p : Int) := by unfold Sm at h; simp only [IntKind.wrap_i64]; omega
theorem quo_at (p : Nat) : (p : Int).tdiv 8 = ((dvN p : Nat) : Int) := by rw [Int.tdiv_eq_ediv_of_nonneg (by omega)]; unfold dvN; omega
theorem quo_at' (p : Nat) : (p : Int) / 8 = ((dvN p : Nat) : Int) := by unfold dvN; omega
theorem rem_at (p : Nat) : (p : Int).tmod 8 = ((rmN p : Nat) : Int) := by rw [Int.tmod_eq_emod_of_nonneg (by omega)]; unfold rmN; omega
theorem rem_at' (p : Nat) : (p : Int) % 8 = ((rmN p : Nat) : Int) := by unfold rmN; omega
theorem and_at (n j : Nat) (h : B64 n) : bits .and .u64 ((n : Int) / 2 ^ j) 1 = ((btN n j : Nat) : Int) := by
  unfold B64 at h
  have h1 : ((n : Int) / 2 ^ j) = ((n / 2 ^ j : Nat) : Int) := by simp
  have h2 : n / 2 ^ j < 18446744073709551616 := Nat.lt_of_le_of_lt (Nat.div_le_self _ _) h
  rw [h1]
  refine (u64_and_nat (n / 2 ^ j) 1 h2 (by decide)).trans ?_
  rw [Nat.and_one_is_mod]; rfl
theorem bit_at (b : Nat) : IntKind.u8.wrap (b : Int) = ((w8N b : Nat) : Int) := by unfold w8N; simp only [IntKind.wrap_u8]; omega
theorem shl_at (b s : Nat) : IntKind.u8.wrap ((b : Int) * 2 ^ s) = ((shN b s : Nat) : Int) := by
  have h1 : ((b : Int) * 2 ^ s) = ((b * 2 ^ s : Nat) : Int) := by simp
  rw [h1]; unfold shN; simp only [IntKind.wrap_u8]; omega
theorem or_at (x v : Nat) (hx : B8 x) (hv : B8 v) : bits .or .u8 (x : Int) (v : Int) = ((orN x v : Nat) : Int) := by rw [u8_or_nat x v hx hv]; rfl
attribute [local go_sem] sum_at sum_at' wrap_at quo_at quo_at' rem_at rem_at' and_at bit_at shl_at or_at
set_option maxRecDepth 100000 in
set_option maxHeartbeats 2000000 in
theorem pack_any (g c a wd n : Nat) (q : List Nat) (hq : ∀ x ∈ q, x < 256) (hl : q.length ≤ 100000) (hfit : a + wd ≤ 8 * q.length) (hwd : wd ≤ 62) (hn : n < 18446744073709551616) (w : World) (hB : By w g q) :
    Calls Try.prog 73 #[.slice (some ⟨g, 0, none⟩) q.length c, .int .i64 (a : Int), .int .i64 (wd : Int), .int .u64 (n : Int)] w fun e w' => e = .returned (.tuple #[]) ∧ By w' g (pkL a n q wd) ∧ w.grownBy w' (some g) := by
  have HB := Lib.hid hB
  have HQ := Lib.hid (pkL_byte a n q hq)
  have HL := Lib.hid (pkL_len a n q)
  clear hB hq
  go_enter Try.func73, Try.ntmps73
  go_wp2_with fail
  go_loopw [10] (fun iv wr => ∃ j : Nat, j ≤ wd ∧ iv = .int .i64 (j : Int) ∧ Hid (By wr g (pkL a n q j)) ∧ Hid (w.grownBy wr (some g))) (fun iv _ => wd - (intOf iv).toNat)
  case atStart => exact ⟨0, Nat.zero_le _, rfl, HB, Lib.hid ⟨rfl, rfl, rfl, Nat.le_refl _, fun _ _ _ => rfl⟩⟩
  case round =>
    obtain ⟨j, hj, rfl, HW, HG⟩ := hrel
    by_cases hlt : j < wd
    · have hlen := HL.out j
      have hil : dvN (smN a j) < q.length := by unfold dvN smN; omega
      have hcell := by_cell HW.out (dvN (smN a j)) (by omega)
      obtain ⟨x, hx⟩ : ∃ x : Nat, x = (pkL a n q j).getD (dvN (smN a j)) 0 := ⟨_, rfl⟩
      rw [← hx] at hcell
      have hx8 : B8 x := by
        rw [hx, show (pkL a n q j).getD (dvN (smN a j)) 0 = (pkL a n q j)[dvN (smN a j)] by simp [List.getD, List.getElem?_eq_getElem (show dvN (smN a j) < (pkL a n q j).length by omega)]]
        exact HQ.out j _ (List.getElem_mem _)
      have hw8 : w8N (btN n j) = n / 2 ^ j % 2 := by unfold w8N btN; omega
      have hr8 : rmN (smN a j) ≤ 7 := by unfold rmN; omega
      have hsh : shN (w8N (btN n j)) (rmN (smN a j)) = n / 2 ^ j % 2 * 2 ^ ((a + j) % 8) := by
        unfold shN
        rw [hw8]
        exact Nat.mod_eq_of_lt (bit_lt n j _ (by unfold rmN; omega))
      have hv8 : B8 (shN (w8N (btN n j)) (rmN (smN a j))) := Nat.mod_lt _ (by decide)
      have HS : Hid (pkL a n q (j + 1) = (pkL a n q j).set (dvN (smN a j)) (orN x (shN (w8N (btN n j)) (rmN (smN a j))))) := Lib.hid (by
        rw [hsh, hx]; rfl)
      have hs0 : Sm (smN a j) := by unfold Sm smN; omega
      have hs1 : Sm (dvN (smN a j)) := by unfold Sm; omega
      have hs2 : Sm (rmN (smN a j)) := by unfold Sm; omega
      have hn64 : B64 n := hn
      have hiI : ((dvN (smN a j) : Nat) : Int) < (q.length : Int) := by omega
      have hj64 : (j : Int) ≤ 64 := by omega
      have hfr := by_frozen HW.out (dvN (smN a j))
      have hlg := by_lt HW.out
      clear hx hsh hlen hw8
      go_wp2_with fail
      go_still_tail 18, (by kernel_rfl)
      change wpList _ _ _ _ _ wr.drew
      go_wp2_with fail
      go_roundw
      case rel => exact ⟨j + 1, by omega, by go_num, by rw [HS.out]; exact Lib.hid (by_set (w := wr.drew) HW.out _ _), Lib.hid (grown_set (grown_drew HG.out) _)⟩
      case measure => simp [intOf] <;> omega
    · obtain rfl : j = wd := by omega
      go_wp2_with fail
      exact bodyPost_end (results_none rfl _ _ _) rfl ⟨rfl, HW.out, HG.out⟩
end
end Go.Proofs.Ytomjgkflnfjjbaa
