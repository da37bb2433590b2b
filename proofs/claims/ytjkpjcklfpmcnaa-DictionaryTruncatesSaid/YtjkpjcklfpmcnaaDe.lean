/- Decode as a plain function; scanParts and join over any input. -/
import Derived.Test.YtjkpjcklfpmcnaaJn
namespace Go.Proofs.Ytjkpjcklfpmcnaa
open Go.ChangeShapes Go.WideShapes Go.ChangeAt Go.RowKit Dp

def scH (k : Nat) : Nat := if k % 16 = 0 then 1 else 2
def scE (k : Nat) (r : ByteArray) : Int := if r.size < scH k then 4 else if r.size < scH k + byt r (scH k - 1) then 4 else 0
def scS (k : Nat) (r : ByteArray) : Nat := if scE k r = 0 then (if k % 16 = 0 then 0 else byt r 0) else 0
def scN (k : Nat) (r : ByteArray) : Nat := if scE k r = 0 then scH k + byt r (scH k - 1) else 0
def scO (k : Nat) (r : ByteArray) : ByteArray := if scE k r = 0 then r.extract (scH k) (scN k r) else ByteArray.empty
def lst (D : List ByteArray) : ByteArray := D.getD (D.length - 1) ByteArray.empty
def jE (D : List ByteArray) (sh : Nat) (o : ByteArray) : Int := if D.length = 0 then 0 else jnE D.length (lst D) sh o
def jV (D : List ByteArray) (sh : Nat) (o : ByteArray) : ByteArray := if jE D sh o = 0 then jn (lst D) sh o else ByteArray.empty
/-- The rest of a decoding: n strings are still to come. -/
def dgo : Nat → List ByteArray → ByteArray → Int × List ByteArray
  | 0, D, r => if r.size = 0 then (0, D) else (3, [])
  | n + 1, D, r => if scE D.length r = 0 then (if jE D (scS D.length r) (scO D.length r) = 0 then dgo n (D ++ [jV D (scS D.length r) (scO D.length r)]) (r.extract (scN D.length r) r.size) else (jE D (scS D.length r) (scO D.length r), [])) else (scE D.length r, [])
def cnt (s : ByteArray) : Nat := byt s 0 * 256 + byt s 1
def dec (s : ByteArray) : Int × List ByteArray := if s.size < 2 then (4, []) else if 4096 < cnt s then (6, []) else dgo (cnt s) [] (s.extract 2 s.size)

theorem scE_cases (k : Nat) (r : ByteArray) : scE k r = 0 ∨ scE k r = 4 := by
  unfold scE; split
  · exact .inr rfl
  · split
    · exact .inr rfl
    · exact .inl rfl
theorem scE_ok {k : Nat} {r : ByteArray} (h : scE k r = 0) : scH k ≤ r.size ∧ scH k + byt r (scH k - 1) ≤ r.size := by
  unfold scE at h
  by_cases h1 : r.size < scH k
  · rw [if_pos h1] at h; cases h
  · rw [if_neg h1] at h
    by_cases h2 : r.size < scH k + byt r (scH k - 1)
    · rw [if_pos h2] at h; cases h
    · exact ⟨by omega, by omega⟩
theorem scS_le (k : Nat) (r : ByteArray) : scS k r ≤ 255 := by
  have := byt_le r 0
  unfold scS; split
  · split <;> omega
  · omega
theorem scS_zero {k : Nat} (r : ByteArray) (h : k % 16 = 0) : scS k r = 0 := by
  unfold scS
  rw [if_pos h]
  split <;> rfl
theorem scN_le (k : Nat) (r : ByteArray) : scN k r ≤ r.size := by
  unfold scN; split
  · exact (scE_ok (by assumption)).2
  · omega
theorem scO_le (k : Nat) (r : ByteArray) : (scO k r).size ≤ 255 := by
  unfold scO; split
  · rename_i h
    have := byt_le r (scH k - 1)
    have := (scE_ok h).2
    unfold scN; rw [if_pos h]; simp; omega
  · decide
theorem scan_any (k : Nat) (r : ByteArray) (hr : r.size ≤ 9223372036854775807) (w : World) :
    Calls Try.prog 59 #[.string r, .bool (decide (k % 16 = 0))] w fun e w' => Sp w w' e (scS k r) (scO k r) (scN k r) (scE k r) := by
  by_cases h16 : k % 16 = 0
  · rw [decide_eq_true h16]
    have hH : scH k = 1 := if_pos h16
    by_cases h1 : r.size < 1
    · have hE : scE k r = 4 := by unfold scE; rw [hH, if_pos h1]
      unfold scS scO scN
      rw [hE]
      exact scan_few1 r h1 w
    · have hm := byt_at r 0 (by omega)
      have hm2 := byt_le r 0
      by_cases h2 : r.size < 1 + byt r 0
      · have hE : scE k r = 4 := by unfold scE; rw [hH, if_neg h1, if_pos h2]
        unfold scS scO scN
        rw [hE]
        exact scan_short1 r (by omega) hr _ hm hm2 h2 w
      · have hE : scE k r = 0 := by unfold scE; rw [hH, if_neg h1, if_neg h2]
        unfold scS scO scN
        rw [hE, if_pos rfl, if_pos rfl, if_pos rfl, if_pos h16, hH]
        exact scan_good1 r (by omega) hr _ hm hm2 (by omega) w
  · rw [decide_eq_false h16]
    have hH : scH k = 2 := if_neg h16
    by_cases h1 : r.size < 2
    · have hE : scE k r = 4 := by unfold scE; rw [hH, if_pos h1]
      unfold scS scO scN
      rw [hE]
      exact scan_few2 r h1 w
    · have hm0 := byt_at r 0 (by omega)
      have hm02 := byt_le r 0
      have hm := byt_at r 1 (by omega)
      have hm2 := byt_le r 1
      by_cases h2 : r.size < 2 + byt r 1
      · have hE : scE k r = 4 := by unfold scE; rw [hH, if_neg h1, if_pos h2]
        unfold scS scO scN
        rw [hE]
        exact scan_short2 r (by omega) hr _ hm hm2 h2 w
      · have hE : scE k r = 0 := by unfold scE; rw [hH, if_neg h1, if_neg h2]
        unfold scS scO scN
        rw [hE, if_pos rfl, if_pos rfl, if_pos rfl, if_neg h16, hH]
        exact scan_good2 r (by omega) hr _ _ hm0 hm hm02 hm2 (by omega) w
theorem join_any (A : Option Addr) (c : Nat) (D : List ByteArray) (sh : Nat) (o : ByteArray) (hD : D.length ≤ 4096) (hs : ∀ x ∈ D, x.size ≤ 255) (ho : o.size ≤ 255) (hsh : sh ≤ 255) (h0 : D.length % 16 = 0 → sh = 0) (w : World) (hR : Rd Value.string w A D) :
    Calls Try.prog 60 #[.agg #[.int .i64 (sh : Int), .string o], .slice A D.length c] w fun e w' => Jo w w' e (jV D sh o) (jE D sh o) := by
  by_cases hk : D.length = 0
  · obtain rfl : D = [] := List.eq_nil_of_length_eq_zero hk
    obtain rfl := h0 rfl
    exact join_zero A c o ho w
  · obtain ⟨b, off, rfl, hb, hc⟩ := hR (D.length - 1) (by omega)
    have hl : lst D = D[D.length - 1] := getD_at D _ (by omega)
    have hy := hs _ (List.getElem_mem (show D.length - 1 < D.length by omega))
    unfold jV jE
    rw [if_neg hk, hl]
    by_cases h1 : D[D.length - 1].size < sh
    · have hE : jnE D.length D[D.length - 1] sh o = 3 := by unfold jnE; rw [if_pos h1]
      rw [hE, if_neg (by decide)]
      exact join_form b off c D.length _ o sh (by omega) hD hy ho hsh w hc h1
    · by_cases h2 : 255 < sh + o.size
      · have hE : jnE D.length D[D.length - 1] sh o = 5 := by unfold jnE; rw [if_neg h1, if_pos h2]
        rw [hE, if_neg (by decide)]
        exact join_long b off c D.length _ o sh (by omega) hD hy ho hsh w hc (by omega) h2
      · by_cases hr : o.size = 0
        · obtain rfl : o = ByteArray.empty := by
            cases o with
            | mk d => 
              congr 1
              exact Array.eq_empty_of_size_eq_zero hr
          exact join_less b off c D.length _ sh (by omega) hD hy hsh w hc (by omega) (by omega) h0
        · exact join_more b off c D.length _ o sh (by omega) hD hy ho hsh w hc (by omega) (by omega) (by omega) h0
end Go.Proofs.Ytjkpjcklfpmcnaa
