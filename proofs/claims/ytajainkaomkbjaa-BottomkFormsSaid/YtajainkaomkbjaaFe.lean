/- Decode of what Encode gives; forms tell sketches apart. -/
import Derived.Test.YtajainkaomkbjaaFc
namespace Go.Proofs.Ytajainkaomkbjaa
open Go.ChangeShapes Go.WideShapes Go.ChangeAt Go.RowKit Go.Joins Bt

/-- Keys with their hashes, which are permitted and short. -/
def Kd (sd : Int) (S : List Ky) : Prop := ∀ k ∈ S, k = kyO sd k.2 ∧ chkK k.2 = 0 ∧ k.2.size ≤ 300
theorem Kd.take {sd : Int} {S : List Ky} (h : Kd sd S) (n : Nat) : Kd sd (S.take n) := fun k hk => h k (List.mem_of_mem_take hk)
theorem Kd.eq {sd : Int} {S : List Ky} (h : Kd sd S) : kys sd (S.map (·.2)) = S := by
  unfold kys
  rw [List.map_map]
  conv => rhs; rw [← List.map_id S]
  exact List.map_congr_left (fun k hk => ((h k hk).1).symm)
theorem kd_kys (sd : Int) {K : List ByteArray} (h : ∀ t ∈ K, chkK t = 0 ∧ t.size ≤ 300) : Kd sd (bld (kys sd K)) := fun k hk => by
  have hk := (bld_mem _ _).1 hk
  unfold kys at hk
  obtain ⟨t, ht, rfl⟩ := List.mem_map.1 hk
  exact ⟨rfl, h t ht⟩
theorem Kd.sz {sd : Int} {S : List Ky} (h : Kd sd S) : Sz S := fun k hk => (h k hk).2.2
/-- The texts of what a sketch keeps. -/
def tks (n : Nat) (S : List Ky) : List ByteArray := (S.take n).map (·.2)
theorem frE_tks {n : Nat} {sd : Int} {S : List Ky} (h : Kd sd S) : frE n sd (skt n S) = E.bytesOf (frB n sd (!decide (n < S.length)) (tks n S)) := by
  have e : skt n S = (kys sd (tks n S), decide (n < S.length)) := by unfold tks skt; rw [(h.take n).eq]
  rw [e, frE_kys]
theorem tks_len (n : Nat) (S : List Ky) : (tks n S).length = min n S.length := by unfold tks; rw [List.length_map, List.length_take]
theorem rd_skt {n : Nat} {sd : Int} (hn : n ≤ 1024) (hsd : 0 ≤ sd ∧ sd ≤ 1048576) {S : List Ky} (h : Kd sd S) :
    (r1 (frE n sd (skt n S))).1 = (n : Int) ∧ (r2 (frE n sd (skt n S))).1 = sd ∧ (r3 (frE n sd (skt n S))).1 = (!decide (n < S.length)) ∧ cn (frE n sd (skt n S)) = (tks n S).length ∧ (bdy (frE n sd (skt n S))).1 = tks n S ∧ endD (frE n sd (skt n S)) = 0 := by
  rw [frE_tks h]
  refine rd_form ⟨by omega, by omega⟩ ⟨by omega, by omega⟩ _ (by rw [tks_len]; omega) (fun t ht => ?_)
  unfold tks at ht
  obtain ⟨k, hk, rfl⟩ := List.mem_map.1 ht
  have := (h.take n k hk).2.2
  omega
/-- Sketches with the same form are the same. -/
theorem frE_inj {n : Nat} {sd : Int} (hn : n ≤ 1024) (hsd : 0 ≤ sd ∧ sd ≤ 1048576) {S T : List Ky} (h : Kd sd S) (k : Kd sd T) (e : frE n sd (skt n S) = frE n sd (skt n T)) : skt n S = skt n T := by
  obtain ⟨_, _, a3, _, a5, _⟩ := rd_skt hn hsd h
  obtain ⟨_, _, b3, _, b5, _⟩ := rd_skt hn hsd k
  rw [e, b3] at a3
  rw [e, b5] at a5
  have e1 : S.take n = T.take n := by rw [← (h.take n).eq, ← (k.take n).eq]; exact congrArg (kys sd) a5.symm
  have e2 : decide (n < S.length) = decide (n < T.length) := by
    have := congrArg (fun b => !b) a3
    simpa using this.symm
  unfold skt
  rw [e1, e2]
theorem dcE_skt {n : Nat} {sd : Int} (hn0 : 1 ≤ n) (hn : n ≤ 1024) (hsd : 0 ≤ sd ∧ sd ≤ 1048576) {S : List Ky} (hS : Srt S) (h : Kd sd S) : dcE (frE n sd (skt n S)) = 0 := by
  obtain ⟨a1, a2, a3, a4, a5, a6⟩ := rd_skt hn hsd h
  unfold dcE
  rw [a1, a2, a3, a4, a5, a6, tks_len]
  have hf : feK (tks n S) = 0 := by
    refine Classical.byContradiction fun hc => ?_
    obtain ⟨b, hb, _, h2, _⟩ := feK_bad hc
    have : (tks n S)[b] ∈ tks n S := List.getElem_mem hb
    unfold tks at this
    obtain ⟨k, hk, e⟩ := List.mem_map.1 this
    apply h2
    show chkK (tks n S)[b] = 0
    have e' : (tks n S)[b] = k.2 := e.symm
    rw [e']
    exact (h.take n k hk).2.1
  have hi : incB (kys sd (tks n S)) = true := by
    unfold tks
    rw [(h.take n).eq]
    exact srt_incB (List.Pairwise.sublist (List.take_sublist _ _) hS)
  rw [if_neg (by simp), if_neg (by omega), if_neg (by simp [hf]), if_neg (by simp [hi]), if_neg]
  rintro (hc | ⟨hc, hx⟩)
  · omega
  · by_cases hlt : n < S.length
    · omega
    · simp at hx; omega
theorem decode_enc (n : Nat) (sd : Int) (hn0 : 1 ≤ n) (hn : n ≤ 1024) (hsd : 0 ≤ sd ∧ sd ≤ 1048576) (S : List Ky) (hS : Srt S) (h : Kd sd S) (hsz : (frE n sd (skt n S)).size ≤ 1000000) (w : World) :
    Calls Try.prog 34 #[.string (frE n sd (skt n S))] w fun e w' => (∃ g, e = .returned (.tuple #[.pointer (some ⟨g, 0, none⟩), .int .i64 0]) ∧ w.heap.size ≤ g ∧ Sk w' g n sd (skt n S)) ∧ Below w.heap.size w w' := by
  obtain ⟨a1, a2, a3, _, a5, _⟩ := rd_skt hn hsd h
  have hd := dcE_skt hn0 hn hsd hS h
  refine (decode_any _ hsz w).mono ?_
  rintro e w' ⟨⟨p, rfl, hp⟩, hb⟩
  refine ⟨?_, hb⟩
  rcases hp with ⟨hne, _⟩ | ⟨_, g, rfl, hg, hk⟩
  · exact absurd hd hne
  · refine ⟨g, by rw [hd], hg, ?_⟩
    rw [a1, a2, a3, a5, Bool.not_not] at hk
    have e : skt n S = (kys sd (tks n S), decide (n < S.length)) := by unfold tks skt; rw [(h.take n).eq]
    rw [e]
    exact hk
theorem frE_size {n sd : Int} (hn : 0 ≤ n ∧ n ≤ 4611686018427387904) (hsd : 0 ≤ sd ∧ sd ≤ 4611686018427387904) (x : List Ky × Bool) (hL : x.1.length ≤ 1024) (hz : Sz x.1) : (frE n sd x).size ≤ 1000000 := by
  have h := prE_total hn hsd x.2 hL hz x.1.length
  show (E.whole (prE n sd x.2 x.1 x.1.length)).toArray.size ≤ _
  rw [List.size_toArray, E.whole_len]
  omega
end Go.Proofs.Ytajainkaomkbjaa
