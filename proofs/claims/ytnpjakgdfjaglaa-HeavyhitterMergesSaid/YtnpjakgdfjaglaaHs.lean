/- Plain facts: two summaries together. -/
import Derived.Test.YtnpjakgdfjaglaaGs
import Derived.Test.YtnpjakgdfjaglaaHc
namespace Go.Proofs.Ytnpjakgdfjaglaa
open Go

theorem mg_comm {a b : Su} (hA : Sd a.cs) (hB : Sd b.cs) (hm : a.mo = b.mo) : mgS a b = mgS b a := by
  unfold mgS
  rw [co_comm hA hB, hm, Int.add_comm a.to, Int.add_comm a.lo]
theorem rk_low {M : List Ct} (hP : Ps M) {m : Nat} (hm : m < M.length) :
    1 ≤ rkN M m ∧ (loC M (rkN M m)).length ≤ m ∧ sm (loC M (rkN M m)) + rkN M m * ((m : Int) + 1) ≤ sm M := by
  have k := rkS_ok M
  have hl : m < (rkS M).length := by rw [k.1.length_eq]; exact hm
  have e := rkN_at k m hl
  have hp : ∀ p ∈ rkS M, 1 ≤ p.2 := fun p hp => hP p (k.1.mem_iff.1 hp)
  have ho : ∀ i j (hi : i < (rkS M).length) (hj : j < (rkS M).length), i ≤ j → (rkS M)[j].2 ≤ (rkS M)[i].2 := by
    intro i j hi hj hij
    by_cases e : i = j
    · subst e; exact Int.le_refl _
    · have := List.pairwise_iff_getElem.1 k.2 i j hi hj (by omega)
      unfold rkl at this
      simp at this
      exact this.1
  have hd1 := hp _ (List.getElem_mem hl)
  rw [e] at hd1
  obtain ⟨h1, h2⟩ := rank_low (D := rkS M) (d := rkN M m) (m := m) (fun j hj hjm => by rw [← e]; exact ho j m hj hl hjm) (fun j hj hjm => by rw [← e]; exact ho m j hl hj hjm) hl (fun p h => by have := hp p h; omega)
  have hperm : (loC (rkS M) (rkN M m)).Perm (loC M (rkN M m)) := (k.1.map _).filter _
  rw [hperm.length_eq] at h1
  rw [perm_sm hperm, perm_sm k.1] at h2
  exact ⟨hd1, h1, h2⟩
theorem Gd.merge {a b : Su} {f g : ByteArray → Int} (ha : Gd a f) (hb : Gd b g) (hm : a.mo = b.mo) : Gd (mgS a b) fun k => f k + g k := by
  obtain ⟨aS, aP, aN, aL, al, au, aB⟩ := ha
  obtain ⟨bS, bP, bN, bL, bl', bs, bB⟩ := hb
  obtain ⟨mo, to, lo, cs⟩ := a
  obtain ⟨mo', to', lo', cs'⟩ := b
  dsimp only at aS aP aN aL al au aB bS bP bN bL bl' bs bB hm
  subst hm
  unfold mgS
  dsimp only
  have hS := sd_coC (cs ++ cs')
  have hP := ps_two aS bS aP bP
  have hN : ∀ p ∈ coC (cs ++ cs'), nmK p.1 = true := fun p hp => by
    rcases (hs_two cs cs' p.1).1 (mem_keys hp) with h | h
    · obtain ⟨q, hq, e⟩ := List.mem_map.1 h; rw [← e]; exact aN q hq
    · obtain ⟨q, hq, e⟩ := List.mem_map.1 h; rw [← e]; exact bN q hq
  have hsm : sm (coC (cs ++ cs')) = sm cs + sm cs' := by rw [sm_coC, sm_append]
  have hg : ∀ k, gt (coC (cs ++ cs')) k = gt cs k + gt cs' k := gt_two aS bS
  obtain ⟨M, hM⟩ : ∃ M, M = coC (cs ++ cs') := ⟨_, rfl⟩
  rw [← hM] at hS hP hN hsm hg ⊢
  have hmul : (lo + lo') * (mo + 1) = lo * (mo + 1) + lo' * (mo + 1) := Int.add_mul _ _ _
  by_cases hc : mo < (M.length : Int)
  · rw [if_pos hc]
    obtain ⟨m, rfl⟩ := Int.eq_ofNat_of_zero_le (show 0 ≤ mo by omega)
    obtain ⟨r1, r2, r3⟩ := rk_low hP (m := m) (by omega)
    rw [show (m : Int).toNat = m by omega]
    obtain ⟨d, hd⟩ : ∃ d, d = rkN M m := ⟨_, rfl⟩
    rw [← hd] at r1 r2 r3 ⊢
    have hmul2 : (lo + lo' + d) * ((m : Int) + 1) = lo * ((m : Int) + 1) + lo' * ((m : Int) + 1) + d * ((m : Int) + 1) := by rw [Int.add_mul, hmul]
    refine ⟨sd_loC hS d, ps_loC _ _, nm_loC hN d, ?_, by show 0 ≤ lo + lo' + d; omega, ?_, fun k => ?_⟩
    · show ((loC M d).length : Int) ≤ m; omega
    · show sm (loC M d) + (lo + lo' + d) * ((m : Int) + 1) ≤ to + to'
      rw [hmul2]; omega
    · show gt (loC M d) k ≤ _ ∧ _ ≤ gt (loC M d) k + (lo + lo' + d)
      rw [gt_loC hS d (by omega), hg]
      have := aB k
      have := bB k
      have := (gt_sm aP.nn k).1
      have := (gt_sm bP.nn k).1
      split <;> omega
  · rw [if_neg hc]
    refine ⟨hS, hP, hN, by show (M.length : Int) ≤ mo; omega, by show 0 ≤ lo + lo'; omega, ?_, fun k => ?_⟩
    · show sm M + (lo + lo') * (mo + 1) ≤ to + to'
      rw [hmul]; omega
    · show gt M k ≤ _ ∧ _ ≤ gt M k + (lo + lo')
      rw [hg]
      have := aB k
      have := bB k
      omega
end Go.Proofs.Ytnpjakgdfjaglaa
