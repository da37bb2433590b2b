/- Lists of ints in increasing order, each once, by insertion (layer 3's text). -/
import Derived.Test.YtacgomhegjilgaaTr
namespace Go.Proofs.Ytacgomhegjilgaa.Ts

def insN (n : Int) : List Int → List Int
  | [] => [n]
  | y :: L => if y < n then y :: insN n L else if y = n then y :: L else n :: y :: L
theorem insN_mem (n : Int) (L : List Int) (v : Int) : v ∈ insN n L ↔ v = n ∨ v ∈ L := by
  induction L with
  | nil => simp [insN]
  | cons y L ih =>
    unfold insN
    by_cases h1 : y < n
    · rw [if_pos h1, List.mem_cons, ih, List.mem_cons]
      exact ⟨fun h => by rcases h with h | h | h <;> simp [h], fun h => by rcases h with h | h | h <;> simp [h]⟩
    · rw [if_neg h1]
      by_cases h2 : y = n
      · rw [if_pos h2]; subst h2; simp
      · rw [if_neg h2]; simp
theorem insN_inc (n : Int) (L : List Int) (h : L.Pairwise (· < ·)) : (insN n L).Pairwise (· < ·) := by
  induction L with
  | nil => simp [insN]
  | cons y L ih =>
    obtain ⟨p1, p2⟩ := List.pairwise_cons.1 h
    unfold insN
    by_cases h1 : y < n
    · rw [if_pos h1]
      refine List.pairwise_cons.2 ⟨fun z hz => ?_, ih p2⟩
      rcases (insN_mem n L z).1 hz with rfl | hz
      · exact h1
      · exact p1 z hz
    · rw [if_neg h1]
      by_cases h2 : y = n
      · rw [if_pos h2]; exact h
      · rw [if_neg h2]
        refine List.pairwise_cons.2 ⟨fun z hz => ?_, h⟩
        rcases List.mem_cons.1 hz with rfl | hz
        · omega
        · have := p1 z hz; omega
theorem insN_len (n : Int) (L : List Int) : (insN n L).length ≤ L.length + 1 := by
  induction L with
  | nil => exact Nat.le_refl _
  | cons y L ih =>
    unfold insN
    by_cases h1 : y < n
    · rw [if_pos h1, List.length_cons, List.length_cons]; omega
    · rw [if_neg h1]
      by_cases h2 : y = n
      · rw [if_pos h2]; omega
      · rw [if_neg h2]; simp
/-- A number goes in ahead of the first that is greater. -/
theorem insN_new (n : Int) (S : List Int) (k : Nat) (hk : k ≤ S.length) (hlt : ∀ i (h : i < S.length), i < k → S[i] < n) (hge : ∀ h : k < S.length, n < S[k]) : insN n S = S.take k ++ [n] ++ S.drop k := by
  induction S generalizing k with
  | nil => simp [insN]
  | cons y S ih =>
    cases k with
    | zero =>
      have := hge (by simp)
      simp only [List.getElem_cons_zero] at this
      unfold insN
      rw [if_neg (by omega), if_neg (by omega)]; rfl
    | succ k =>
      have h0 := hlt 0 (by simp) (by omega)
      simp only [List.getElem_cons_zero] at h0
      unfold insN
      rw [if_pos h0, ih k (by simp at hk; exact hk) (fun i h hi => hlt (i + 1) (by simp; exact h) (by omega)) (fun h => hge (by simp; exact h))]
      rfl
/-- A number that is there stays. -/
theorem insN_old (n : Int) (S : List Int) (k : Nat) (hk : k < S.length) (hlt : ∀ i (h : i < S.length), i < k → S[i] < n) (he : S[k] = n) : insN n S = S := by
  induction S generalizing k with
  | nil => simp at hk
  | cons y S ih =>
    cases k with
    | zero =>
      simp only [List.getElem_cons_zero] at he
      unfold insN
      rw [if_neg (by omega), if_pos he]
    | succ k =>
      have h0 := hlt 0 (by simp) (by omega)
      simp only [List.getElem_cons_zero] at h0
      unfold insN
      rw [if_pos h0, ih k (by simpa using hk) (fun i h hi => hlt (i + 1) (by simp; exact h) (by omega)) (by simpa using he)]
def bds (F : List Int) : List Int := F.foldl (fun S x => insN x S) []
def bdk (F : List Int) (j : Nat) : List Int := bds (F.take j)
theorem bdk_zero (F : List Int) : bdk F 0 = [] := rfl
theorem bdk_all (F : List Int) : bdk F F.length = bds F := by unfold bdk; rw [List.take_length]
theorem bdk_succ (F : List Int) (j : Nat) (h : j < F.length) : bdk F (j + 1) = insN F[j] (bdk F j) := by
  unfold bdk bds
  rw [List.take_add_one, List.getElem?_eq_getElem h, List.foldl_append]; rfl
theorem bds_gen (F S : List Int) (h : S.Pairwise (· < ·)) : (F.foldl (fun S x => insN x S) S).Pairwise (· < ·) ∧ (∀ v, v ∈ F.foldl (fun S x => insN x S) S ↔ v ∈ S ∨ v ∈ F) ∧ (F.foldl (fun S x => insN x S) S).length ≤ S.length + F.length := by
  induction F generalizing S with
  | nil => exact ⟨h, fun v => by simp, by simp⟩
  | cons x F ih =>
    obtain ⟨a, b, c⟩ := ih (insN x S) (insN_inc x S h)
    refine ⟨a, fun v => ?_, ?_⟩
    · rw [List.foldl_cons, b v, insN_mem, List.mem_cons]
      exact ⟨fun h => by rcases h with (h | h) | h <;> simp [h], fun h => by rcases h with h | h | h <;> simp [h]⟩
    · have := insN_len x S
      rw [List.foldl_cons, List.length_cons]; omega
theorem bdk_inc (F : List Int) (j : Nat) : (bdk F j).Pairwise (· < ·) := (bds_gen _ [] List.Pairwise.nil).1
theorem bdk_len (F : List Int) (j : Nat) : (bdk F j).length ≤ j := by
  have h := (bds_gen (F.take j) [] List.Pairwise.nil).2.2
  have h2 : (F.take j).length ≤ j := by rw [List.length_take]; omega
  unfold bdk bds
  simp only [List.length_nil] at h
  omega
theorem bds_mem (F : List Int) (v : Int) : v ∈ bds F ↔ v ∈ F := by
  have h := (bds_gen F [] List.Pairwise.nil).2.1 v
  unfold bds
  rw [h]; simp
end Go.Proofs.Ytacgomhegjilgaa.Ts
