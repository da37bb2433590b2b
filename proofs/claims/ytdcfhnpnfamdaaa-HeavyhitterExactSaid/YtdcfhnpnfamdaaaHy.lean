/- Plain facts: a stream of at most eight keys, in any order. -/
import Derived.Test.YtdcfhnpnfamdaaaHx
namespace Go.Proofs.Ytdcfhnpnfamdaaa
open Go

/-- An item whose key is one of eight. -/
def k8 (x : It) : It := (x.1 % 8, x.2)
def Only8 (L : List Ct) : Prop := ∀ p ∈ L, ∃ r, r < 8 ∧ p.1 = kyI r
theorem only8_len {L : List Ct} (hS : Sd L) (h : Only8 L) {r : Nat} (hr : r < 8) (hn : ¬ hs L (kyI r)) : L.length < 8 := by
  have h1 : (kyI r :: L.map (·.1)).Nodup := List.nodup_cons.2 ⟨hn, keys_nodup hS⟩
  have h2 : kyI r :: L.map (·.1) ⊆ (List.range 8).map kyI := by
    intro k hk
    rcases List.mem_cons.1 hk with rfl | hk
    · exact List.mem_map.2 ⟨r, List.mem_range.2 hr, rfl⟩
    · obtain ⟨p, hp, rfl⟩ := List.mem_map.1 hk
      obtain ⟨q, hq, e⟩ := h p hp
      exact List.mem_map.2 ⟨q, List.mem_range.2 hq, e.symm⟩
  have h3 := List.Nodup.length_le_of_subset h1 h2
  simp at h3
  omega
theorem st8 (l : List It) (h : ∀ x ∈ l, x.1 < 8) : (stL 8 l).lo = 0 := by
  have : ∀ (l : List It) (s : Su), Sd s.cs → s.mo = 8 → s.lo = 0 → Only8 s.cs → (∀ x ∈ l, x.1 < 8) → (l.foldl stI s).lo = 0 := by
    intro l
    induction l with
    | nil => intro s _ _ h _ _; exact h
    | cons x l ih =>
      intro s hS hm hl h8 hx
      have e : stI s x = ⟨s.mo, s.to + wtI x, s.lo, adC s.cs (kyI x.1) (wtI x)⟩ := by
        unfold stI adS
        rw [if_neg]
        rintro ⟨h1, h2⟩
        have := only8_len hS h8 (hx x (by simp)) h1
        omega
      rw [List.foldl_cons, e]
      refine ih _ (sd_adC hS _ _) hm hl (fun p hp => ?_) (fun y hy => hx y (by simp [hy]))
      rcases mem_pt hp with e | e
      · exact ⟨x.1, hx x (by simp), by rw [e]⟩
      · exact h8 p e
  exact this l ⟨8, 0, 0, []⟩ List.Pairwise.nil rfl rfl (fun p hp => by simp at hp) h
/-- A list that begins at another place. -/
def rot (L : List It) (b : Nat) : List It := L.drop (b % L.length) ++ L.take (b % L.length)
theorem rot_len (L : List It) (b : Nat) : (rot L b).length = L.length := by
  unfold rot
  rw [List.length_append, List.length_drop, List.length_take]
  rcases Nat.eq_zero_or_pos L.length with h | h
  · rw [h]; simp
  · have := Nat.mod_lt b h; omega
theorem rot_at (L : List It) (b j : Nat) (h : j < L.length) : (rot L b)[j]'(by rw [rot_len]; exact h) = L[(j + b) % L.length]'(Nat.mod_lt _ (by omega)) := by
  have hr := Nat.mod_lt b (show 0 < L.length by omega)
  have e : (j + b) % L.length = (j + b % L.length) % L.length := by rw [Nat.add_mod_mod]
  have hl := List.length_drop (i := b % L.length) (l := L)
  unfold rot
  by_cases h1 : j < L.length - b % L.length
  · rw [List.getElem_append_left (by rw [hl]; exact h1), List.getElem_drop]
    have e2 : (j + b % L.length) % L.length = j + b % L.length := Nat.mod_eq_of_lt (by omega)
    congr 1
    rw [e, e2]; omega
  · rw [List.getElem_append_right (by rw [hl]; omega), List.getElem_take]
    have e2 : (j + b % L.length) % L.length = j + b % L.length - L.length := by
      rw [Nat.mod_eq_sub_mod (by omega)]; exact Nat.mod_eq_of_lt (by omega)
    congr 1
    rw [hl, e, e2]
    omega
theorem rot_ex (L : List It) (b : Nat) (k : ByteArray) : exL ((rot L b).map k8) k = exL (L.map k8) k := by
  unfold rot
  rw [List.map_append, exL_app, Int.add_comm, ← exL_app, ← List.map_append, List.take_append_drop]
theorem in_step (L : List It) (k : Nat) (hk : k < 8) {i : Nat} (hi : i < L.length) : exL ((L.take (i + 1)).map k8) (kyI k) = exL ((L.take i).map k8) (kyI k) + if L[i].1 % 8 = k then wtI L[i] else 0 := by
  rw [List.take_succ_eq_append_getElem hi, List.map_append, exL_app]
  congr 1
  show (if kyI k = kyI (L[i].1 % 8) then wtI (k8 L[i]) else 0) + 0 = _
  rw [Int.add_zero]
  have e : kyI k = kyI (L[i].1 % 8) ↔ L[i].1 % 8 = k := by rw [ky_inj]; omega
  by_cases h : L[i].1 % 8 = k
  · rw [if_pos (e.2 h), if_pos h]; rfl
  · rw [if_neg (fun x => h (e.1 x)), if_neg h]
theorem ex_exact (L : List It) (b k : Nat) : gt (stL 8 ((rot L b).map k8)).cs (kyI k) = exL (L.map k8) (kyI k) ∧ (stL 8 ((rot L b).map k8)).lo = 0 := by
  have h0 : (stL 8 ((rot L b).map k8)).lo = 0 := st8 _ (fun x hx => by
    obtain ⟨y, _, rfl⟩ := List.mem_map.1 hx
    exact Nat.mod_lt _ (by decide))
  have h1 := (st_gd (mo := 8) (by decide) ((rot L b).map k8)).bd (kyI k)
  rw [rot_ex, h0] at h1
  exact ⟨by omega, h0⟩
end Go.Proofs.Ytdcfhnpnfamdaaa
