/- The program's Decode. -/
import Derived.Test.YtjkpjcklfpmcnaaDe
import Derived.Lib.EndianBits
namespace Go.Proofs.Ytjkpjcklfpmcnaa
open Go.ChangeShapes Go.WideShapes Go.ChangeAt Go.RowKit Dp

theorem or256 (m0 m1 : Nat) (h0 : m0 ≤ 255) (h1 : m1 ≤ 255) : bits BinOp.or IntKind.i64 ((m0 : Int) * 256) (m1 : Int) = ((m0 * 256 + m1 : Nat) : Int) := by
  have h := bits_join .i64 62 (by decide) (fun n h0 h1 => IntWalk.i64_in _ (by omega)) 8 ((m0 : Int) * 256) (m1 : Int) (by omega) (by omega) (by omega) (by omega) (by omega) (by omega)
  rw [h]; omega
/-- What Decode leaves behind. -/
def DecPost (w w' : World) (e : Ending) (s : ByteArray) : Prop :=
  Out Value.string w' e (dec s).2 (dec s).1 ∧ Below w.heap.size w w'
theorem dgo_bad {n : Nat} {D : List ByteArray} {r : ByteArray} (h : scE D.length r ≠ 0) : dgo (n + 1) D r = (scE D.length r, []) := by rw [dgo, if_neg h]
theorem dgo_bad2 {n : Nat} {D : List ByteArray} {r : ByteArray} (h : scE D.length r = 0) (h2 : jE D (scS D.length r) (scO D.length r) ≠ 0) : dgo (n + 1) D r = (jE D (scS D.length r) (scO D.length r), []) := by rw [dgo, if_pos h, if_neg h2]
theorem dgo_next {n : Nat} {D : List ByteArray} {r : ByteArray} (h : scE D.length r = 0) (h2 : jE D (scS D.length r) (scO D.length r) = 0) : dgo (n + 1) D r = dgo n (D ++ [jV D (scS D.length r) (scO D.length r)]) (r.extract (scN D.length r) r.size) := by rw [dgo, if_pos h, if_pos h2]
theorem jV_size {D : List ByteArray} {sh : Nat} {o : ByteArray} (_hs : ∀ x ∈ D, x.size ≤ 255) (ho : o.size ≤ 255) (h0 : D.length % 16 = 0 → sh = 0) : (jV D sh o).size ≤ 255 := by
  unfold jV
  by_cases h : jE D sh o = 0
  · rw [if_pos h]
    unfold jE at h
    by_cases hk : D.length = 0
    · obtain rfl := h0 (by omega)
      rw [jn_size _ _ _ (Nat.zero_le _)]; omega
    · rw [if_neg hk] at h
      unfold jnE at h
      by_cases h1 : (lst D).size < sh
      · rw [if_pos h1] at h; cases h
      · rw [if_neg h1] at h
        by_cases h2 : 255 < sh + o.size
        · rw [if_pos h2] at h; cases h
        · rw [jn_size _ _ _ (by omega)]; omega
  · rw [if_neg h]; decide
set_option maxRecDepth 100000 in
set_option maxHeartbeats 2000000 in
theorem decode_any (s : ByteArray) (hs : s.size ≤ 1000000) (w : World) :
    Calls Try.prog 41 #[.string s] w fun e w' => DecPost w w' e s := by
  by_cases h2 : s.size < 2
  · have hE : dec s = (4, []) := if_pos h2
    have HE := Lib.hid hE
    clear hE
    go_enter Try.func41, Try.ntmps41
    go_wp2_with fail
    go_ret2
    unfold DecPost
    rw [HE.out]
    exact ⟨⟨none, 0, rfl, Nat.le_refl _, Rd.nil⟩, Below.refl _ _⟩
  · have hm0 := byt_at s 0 (by omega)
    have hm1 := byt_at s 1 (by omega)
    have hb0 := byt_le s 0
    have hb1 := byt_le s 1
    have h2' : 2 ≤ s.size := by omega
    have hD : dec s = if 4096 < byt s 0 * 256 + byt s 1 then (6, []) else dgo (byt s 0 * 256 + byt s 1) [] (s.extract 2 s.size) := if_neg h2
    obtain ⟨m0, hm0e⟩ : ∃ m, m = byt s 0 := ⟨_, rfl⟩
    obtain ⟨m1, hm1e⟩ : ∃ m, m = byt s 1 := ⟨_, rfl⟩
    rw [← hm0e] at hm0 hb0 hD
    rw [← hm1e] at hm1 hb1 hD
    have HO := Lib.hid (or256 m0 m1 hb0 hb1)
    obtain ⟨N, hN⟩ : ∃ N, N = m0 * 256 + m1 := ⟨_, rfl⟩
    rw [← hN] at hD HO
    have HD := Lib.hid hD
    obtain ⟨i0, hi0, hz0, hz1, hz2⟩ := info_parts str_info
    have Hi0 := Lib.hid hi0
    have Hz0 := Lib.hid hz0
    have Hz1 := Lib.hid hz1
    have Hz2 := Lib.hid hz2
    clear hm0e hm1e hN hD hi0 hz0 hz1 hz2
    go_enter Try.func41, Try.ntmps41
    go_wp2_with fail
    go_quiet (fail)
    (refine (by assumption : ∀ _ _, _ → _) _ _ ?_)
    rw [HO.out]
    clear HO
    have hrs : (s.extract 2 s.size).size ≤ 1000000 := by simp; omega
    obtain ⟨r0, hr0⟩ : ∃ r, r = s.extract 2 s.size := ⟨_, rfl⟩
    rw [← hr0] at HD hrs ⊢
    clear hr0 hm0 hm1 hb0 hb1
    by_cases h4 : 4096 < N
    · rw [if_pos h4] at HD
      go_wp2_with fail
      go_ret2
      unfold DecPost
      rw [HD.out]
      exact ⟨⟨none, 0, rfl, Nat.le_refl _, Rd.nil⟩, drewN_below _ _⟩
    · rw [if_neg h4] at HD
      go_wp2_with fail
      go_loopw [5, 6, 27] (fun rv v i wr => ∃ (k : Nat) (D : List ByteArray) (r : ByteArray), k ≤ N ∧ k = D.length ∧ i = .int .i64 k ∧ rv = .string r ∧ r.size ≤ 1000000 ∧ Hid (∀ x ∈ D, x.size ≤ 255) ∧ Hid (wr.ownsRow w.heap.size 9 1 v k (D.map Value.string)) ∧ Hid (dgo N [] r0 = dgo (N - k) D r) ∧ Hid (Below w.heap.size w wr)) (fun _ _ i _ => N - (intOf i).toNat)
      case atStart => exact ⟨0, [], r0, Nat.zero_le _, rfl, rfl, rfl, hrs, Lib.hid (fun x hx => by simp at hx), Lib.hid ⟨by simp, .inl ⟨rfl, rfl⟩⟩, Lib.hid rfl, Lib.hid (drewN_below _ _)⟩
      case round =>
        obtain ⟨k, D, r, hk, hkD, rfl, rfl, hr, hsz, hO, hI, hB⟩ := hrel
        obtain ⟨A1, c1, rfl, hc1⟩ := own_slice hO.out
        by_cases hlt : k < N
        · have hbg := begins_any k (by omega)
          have hsc := fun W => scan_any k r (by omega) W
          have hjn := fun W => join_any A1 c1 D (scS k r) (scO k r) (by omega) hsz.out (scO_le k r) (scS_le k r) (fun h => scS_zero r (by rw [hkD]; exact h)) W
          obtain ⟨n, hn⟩ : ∃ n, N - k = n + 1 := ⟨N - k - 1, by omega⟩
          have hn2 : N - (k + 1) = n := by omega
          have h1 := fun h => dgo_bad (n := n) (D := D) (r := r) h
          have h2 := fun h g => dgo_bad2 (n := n) (D := D) (r := r) h g
          have h3 := fun h g => dgo_next (n := n) (D := D) (r := r) h g
          have hjs := jV_size (D := D) (sh := scS k r) hsz.out (scO_le k r) (fun h => scS_zero r (by rw [hkD]; exact h))
          have hnl := scN_le k r
          rw [← hkD] at hjn h1 h2 h3
          have HI := hI.out
          rw [hn] at HI
          have HRd : Hid (Rd Value.string wr A1 D) := by
            have := hO.out
            rw [hkD] at this
            exact Lib.hid (Rd.own this)
          obtain ⟨sh, hshe⟩ : ∃ x, x = scS k r := ⟨_, rfl⟩
          obtain ⟨o, hoe⟩ : ∃ x, x = scO k r := ⟨_, rfl⟩
          obtain ⟨m, hme⟩ : ∃ x, x = scN k r := ⟨_, rfl⟩
          obtain ⟨E, hEe⟩ : ∃ x, x = scE k r := ⟨_, rfl⟩
          have hEc := scE_cases k r
          rw [← hshe, ← hoe, ← hme, ← hEe] at hsc h3
          rw [← hshe, ← hoe] at hjn hjs
          rw [← hEe] at h1 hEc
          rw [← hshe, ← hoe, ← hEe] at h2
          rw [← hme] at hnl
          obtain ⟨F, hFe⟩ : ∃ x, x = jE D sh o := ⟨_, rfl⟩
          obtain ⟨t, hte⟩ : ∃ x, x = jV D sh o := ⟨_, rfl⟩
          rw [← hFe, ← hte] at hjn h3
          rw [← hFe] at h2
          rw [← hte] at hjs
          have HG := Lib.hid hbg
          have HS := Lib.hid hsc
          have HJ := Lib.hid hjn
          have HT := Lib.hid hjs
          have H1 := Lib.hid h1
          have H2 := Lib.hid h2
          have H3 := Lib.hid h3
          have HI' := Lib.hid HI
          have HkD := Lib.hid hkD
          clear hbg hsc hjn hjs h1 h2 h3 HI hI hkD hshe hoe hme hEe hFe hte
          rcases hEc with hE | hE
          · subst hE
            by_cases hF : F = 0
            · subst hF
              have HN := Lib.hid (H3.out rfl rfl)
              clear H1 H2 H3
              go_wp2_with fail
              refine (HG.out wr).mono ?_
              rintro e w1 ⟨rfl, rfl⟩
              go_wp2_with fail
              refine (HS.out _).mono ?_
              rintro e w1 ⟨rfl, hB1⟩
              have HB1 := Lib.hid (below_to hB.out hB1)
              have HO1 := Lib.hid (own_below hO.out hB1)
              have HR1 := Lib.hid (HRd.out.below hB1)
              clear hB1
              go_wp2_with fail
              refine (HJ.out _ (HR1.out.below ((Below.refl _ _).alloc (Nat.le_refl _) _))).mono ?_
              rintro e w2 ⟨rfl, hB2⟩
              have HB2 := Lib.hid (below_to (HB1.out.alloc HB1.out.size (.cells #[.int .i64 (sh : Int), .string o] 75)) hB2)
              have HO2 := Lib.hid (own_below (HO1.out.alloc (.cells #[.int .i64 (sh : Int), .string o] 75)) hB2)
              clear hB2
              go_wp2_with (at_builtin; refine wpList_append_one rfl (.tmp 50) (.tmp 52) 22 rfl w.heap.size 9 i0 _ 16 Try.underlying22 Hi0.out Hz0.out Hz1.out Hz2.out rfl (.slice A1 k c1) k _ rfl (HO2.out.alloc _) w2.heap.size 1 (.string t) rfl ?_ rfl ?_ ?_ ?_ ?_; exact (by simp [go_sem]); exact (by omega); exact (by omega); exact (by have := HB2.out.size; simp; omega); intro v3 w3 hown3 hg3; have HY := Lib.hid hown3; have HYB := Lib.hid (below_grownBy (B := w.heap.size) (a := w) (HB2.out.alloc HB2.out.size (.cells #[.string t] 9)) (HO2.out.alloc _) hg3 (Nat.le_refl _) (Nat.le_refl _)); clear hown3 hg3)
              go_roundw
              case rel =>
                refine ⟨k + 1, D ++ [t], r.extract m r.size, by omega, by rw [List.length_append, List.length_singleton, HkD.out], by go_num, rfl, by simp; omega, Lib.hid (fun x hx => ?_), by rw [List.map_append]; exact HY, Lib.hid (by rw [HI'.out, HN.out, hn2]), HYB⟩
                rcases List.mem_append.1 hx with h | h
                · exact hsz.out x h
                · rw [List.mem_singleton.1 h]; exact HT.out
              case measure => simp [intOf]; omega
            · have HN := Lib.hid (HD.out.trans (HI'.out.trans (H2.out rfl hF)))
              have hne : (F != 0) = true := by simpa using hF
              have hne2 : (F == 0) = false := by simpa using hF
              clear H1 H2 H3 HI' hF
              go_wp2_with fail
              refine (HG.out wr).mono ?_
              rintro e w1 ⟨rfl, rfl⟩
              go_wp2_with fail
              refine (HS.out _).mono ?_
              rintro e w1 ⟨rfl, hB1⟩
              have HB1 := Lib.hid (below_to hB.out hB1)
              have HO1 := Lib.hid (own_below hO.out hB1)
              have HR1 := Lib.hid (HRd.out.below hB1)
              clear hB1
              go_wp2_with fail
              refine (HJ.out _ (HR1.out.below ((Below.refl _ _).alloc (Nat.le_refl _) _))).mono ?_
              rintro e w2 ⟨rfl, hB2⟩
              have HB2 := Lib.hid (below_to (HB1.out.alloc HB1.out.size (.cells #[.int .i64 (sh : Int), .string o] 75)) hB2)
              have HO2 := Lib.hid (own_below (HO1.out.alloc (.cells #[.int .i64 (sh : Int), .string o] 75)) hB2)
              clear hB2
              go_wp2_with fail
              go_ret2
              unfold DecPost
              rw [HN.out]
              exact ⟨⟨none, 0, rfl, Nat.le_refl _, Rd.nil⟩, HB2.out⟩
          · subst hE
            have HN := Lib.hid (HD.out.trans (HI'.out.trans (H1.out (by decide))))
            clear H1 H2 H3 HI'
            go_wp2_with fail
            refine (HG.out wr).mono ?_
            rintro e w1 ⟨rfl, rfl⟩
            go_wp2_with fail
            refine (HS.out _).mono ?_
            rintro e w1 ⟨rfl, hB1⟩
            have HB1 := Lib.hid (below_to hB.out hB1)
            have HO1 := Lib.hid (own_below hO.out hB1)
            have HR1 := Lib.hid (HRd.out.below hB1)
            clear hB1
            go_wp2_with fail
            go_ret2
            unfold DecPost
            rw [HN.out]
            exact ⟨⟨none, 0, rfl, Nat.le_refl _, Rd.nil⟩, HB1.out.alloc HB1.out.size _⟩
        · obtain rfl : k = N := by omega
          have hI2 := hI.out
          rw [Nat.sub_self] at hI2
          have hI3 : dgo 0 D r = if r.size = 0 then (0, D) else (3, []) := rfl
          rw [hI3] at hI2
          have HkD := Lib.hid hkD
          by_cases hr0' : r = ByteArray.empty
          · have hz : r.size = 0 := by rw [hr0']; rfl
            rw [if_pos hz] at hI2
            have HN := Lib.hid (HD.out.trans hI2)
            subst hr0'
            clear hI hI2 hI3 hkD hz
            go_wp2_with fail
            go_ret2
            unfold DecPost
            rw [HN.out]
            have := hO.out
            rw [HkD.out] at this
            exact ⟨⟨A1, c1, by rw [HkD.out]; rfl, by rw [← HkD.out]; exact hc1, Rd.own this⟩, hB.out⟩
          · have hz : ¬ r.size = 0 := fun h => hr0' (by
              cases r with
              | mk d =>
                congr 1
                exact Array.eq_empty_of_size_eq_zero h)
            rw [if_neg hz] at hI2
            have HN := Lib.hid (HD.out.trans hI2)
            have hbe : r.toList.isEmpty = false := by
              rw [ByteArray.toList_eq, List.isEmpty_eq_false_iff]
              intro e
              exact hz (by have : r.data.toList.length = 0 := by rw [e]; rfl
                           simpa using this)
            clear hI hI2 hI3 hkD hz
            go_wp2_with fail
            go_ret2
            unfold DecPost
            rw [HN.out]
            exact ⟨⟨none, 0, rfl, Nat.le_refl _, Rd.nil⟩, hB.out⟩
end Go.Proofs.Ytjkpjcklfpmcnaa
