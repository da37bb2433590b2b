/- The reference's Decode. -/
import Derived.Test.YtjkpjcklfpmcnaaRd
namespace Go.Proofs.Ytjkpjcklfpmcnaa
open Go.ChangeShapes Go.WideShapes Go.ChangeAt Go.RowKit Dp

theorem take_good (r h t : ByteArray) (n : Nat) (i : Int) (hi : i = (n : Int)) (hh : h = r.extract 0 n) (ht : t = r.extract n r.size) (hn : n ≤ r.size) (hr : r.size ≤ 1000000) (W : World) :
    Calls Try.prog 61 #[.string r, .int .i64 i] W fun e w' => e = .returned (.tuple #[.string h, .string t, .bool true]) ∧ ∃ q, w' = W.drewN q := by
  subst hi hh ht; exact take_long r n hn (by omega) W
theorem take_bad (r : ByteArray) (n : Nat) (i : Int) (hi : i = (n : Int)) (hn : r.size < n) (hb : n ≤ 1000000) (W : World) :
    Calls Try.prog 61 #[.string r, .int .i64 i] W fun e w' => e = .returned (.tuple #[.string ByteArray.empty, .string ByteArray.empty, .bool false]) ∧ ∃ q, w' = W.drewN q := by
  subst hi; exact take_short r n hn (by omega) W
theorem cell_new (w : World) (q : Nat) (x : Value) (t : TypeId) : ((w.drewN q).alloc (.cells #[x] t)).cell? ⟨w.heap.size, 0, none⟩ = some x := by
  have h : ((w.drewN q).alloc (.cells #[x] t)).heap[w.heap.size]? = some (.cells #[x] t (0, 0)) := Deep.blk_alloc_new (w.drewN q) _
  rw [cell_of_row _ _ _ _ _ _ h]; rfl
set_option maxRecDepth 100000 in
set_option maxHeartbeats 4000000 in
theorem rdecode_any (s : ByteArray) (hs : s.size ≤ 1000000) (w : World) :
    Calls Try.prog 43 #[.string s] w fun e w' => DecPost w w' e s := by
  by_cases h2 : s.size < 2
  · have hE : dec s = (4, []) := if_pos h2
    have HE := Lib.hid hE
    have HT := Lib.hid (take_bad s 2 2 rfl h2 (by omega))
    clear hE
    go_enter Try.func43, Try.ntmps43
    go_wp2_with fail
    refine (HT.out w).mono ?_
    rintro e w1 ⟨rfl, q, rfl⟩
    go_wp2_with fail
    go_ret2
    unfold DecPost
    rw [HE.out]
    exact ⟨⟨none, 0, rfl, Nat.le_refl _, Rd.nil⟩, drewN_below _ _⟩
  · have hb0 := byt_le s 0
    have hb1 := byt_le s 1
    have hD : dec s = if 4096 < byt s 0 * 256 + byt s 1 then (6, []) else dgo (byt s 0 * 256 + byt s 1) [] (s.extract 2 s.size) := if_neg h2
    have hrs : (s.extract 2 s.size).size ≤ 1000000 := by simp; omega
    obtain ⟨r0, hr0⟩ : ∃ r, r = s.extract 2 s.size := ⟨_, rfl⟩
    obtain ⟨hd, hhd⟩ : ∃ r, r = s.extract 0 2 := ⟨_, rfl⟩
    have HT := Lib.hid (take_good s hd r0 2 2 rfl hhd hr0 (by omega) hs)
    have hds : 2 ≤ hd.size := by rw [hhd]; simp; omega
    have hm0 := byt_at hd 0 (by omega)
    have hm1 := byt_at hd 1 (by omega)
    rw [show byt hd 0 = byt s 0 by rw [hhd]; exact byt_take s (by omega)] at hm0
    rw [show byt hd 1 = byt s 1 by rw [hhd]; exact byt_take s (by omega)] at hm1
    obtain ⟨m0, hm0e⟩ : ∃ m, m = byt s 0 := ⟨_, rfl⟩
    obtain ⟨m1, hm1e⟩ : ∃ m, m = byt s 1 := ⟨_, rfl⟩
    rw [← hm0e] at hm0 hb0 hD
    rw [← hm1e] at hm1 hb1 hD
    rw [← hr0] at hD hrs
    obtain ⟨N, hN⟩ : ∃ N, N = m0 * 256 + m1 := ⟨_, rfl⟩
    rw [← hN] at hD
    have HO := Lib.hid (show (256 : Int) * (m0 : Int) + (m1 : Int) = (N : Int) by omega)
    have HD := Lib.hid hD
    obtain ⟨i0, hi0, hz0, hz1, hz2⟩ := info_parts str_info
    have Hi0 := Lib.hid hi0
    have Hz0 := Lib.hid hz0
    have Hz1 := Lib.hid hz1
    have Hz2 := Lib.hid hz2
    clear hm0e hm1e hN hD hi0 hz0 hz1 hz2 hhd hr0
    go_enter Try.func43, Try.ntmps43
    go_wp2_with fail
    refine (HT.out w).mono ?_
    rintro e w1 ⟨rfl, q1, rfl⟩
    go_wp2_with fail
    go_quiet (fail)
    (refine (by assumption : ∀ _ _, _ → _) _ _ ?_)
    rw [HO.out]
    clear HO HT hm0 hm1 hb0 hb1
    by_cases h4 : 4096 < N
    · rw [if_pos h4] at HD
      go_wp2_with fail
      go_ret2
      unfold DecPost
      rw [HD.out]
      exact ⟨⟨none, 0, rfl, Nat.le_refl _, Rd.nil⟩, drewN_below _ _⟩
    · rw [if_neg h4] at HD
      go_wp2_with fail
      go_loopw [5, 8, 9, 10] (fun rv v lv i wr => ∃ (k : Nat) (D : List ByteArray) (r y : ByteArray), k ≤ N ∧ k = D.length ∧ i = .int .i64 k ∧ rv = .string r ∧ lv = .string y ∧ r.size ≤ 1000000 ∧ y.size ≤ 255 ∧ Hid (y = lst D) ∧ Hid (wr.ownsRow w.heap.size 9 1 v k (D.map Value.string)) ∧ Hid (dgo N [] r0 = dgo (N - k) D r) ∧ Hid (Below w.heap.size w wr)) (fun _ _ _ i _ => N - (intOf i).toNat)
      case atStart => exact ⟨0, [], r0, ByteArray.empty, Nat.zero_le _, rfl, rfl, rfl, rfl, hrs, by decide, Lib.hid rfl, Lib.hid ⟨by simp, .inl ⟨rfl, rfl⟩⟩, Lib.hid rfl, Lib.hid (drewN_below _ _)⟩
      case round =>
        obtain ⟨k, D, r, y, hk, hkD, rfl, rfl, rfl, hr, hy, hl, hO, hI, hB⟩ := hrel
        obtain ⟨A1, c1, rfl, hc1⟩ := own_slice hO.out
        by_cases hlt : k < N
        · obtain ⟨n, hn⟩ : ∃ n, N - k = n + 1 := ⟨N - k - 1, by omega⟩
          have hn2 : N - (k + 1) = n := by omega
          have h1 := fun h => dgo_bad (n := n) (D := D) (r := r) h
          have h2 := fun h g => dgo_bad2 (n := n) (D := D) (r := r) h g
          have h3 := fun h g => dgo_next (n := n) (D := D) (r := r) h g
          rw [← hkD] at h1 h2 h3
          have HI := hI.out
          rw [hn] at HI
          have Hmod := Lib.hid (mod16 k)
          have hmod : (k : Int) % 16 = ((k % 16 : Nat) : Int) := by omega
          by_cases h16 : k % 16 = 0
          · have hH : scH k = 1 := if_pos h16
            have hk16 : ((k : Int).tmod 16 == 0) = true := by rw [mod16, decide_eq_true h16]
            have hk16' : (k : Int) % 16 = 0 := by omega
            by_cases q1 : r.size < 1
            · have hE : scE k r = 4 := sc_four (by rw [hH]; exact .inl q1)
              have hh := h1 (by rw [hE]; decide)
              rw [hE] at hh
              have HN := Lib.hid (HD.out.trans (HI.trans hh))
              have HT1 := Lib.hid (take_bad r 1 1 rfl q1 (by omega))
              clear h1 h2 h3 HI hI hE hh 
              go_wp2_with fail
              refine (HT1.out _).mono ?_
              rintro e w1 ⟨rfl, qw1, rfl⟩
              go_wp2_with fail
              go_ret2
              unfold DecPost
              rw [HN.out]
              exact ⟨⟨none, 0, rfl, Nat.le_refl _, Rd.nil⟩, below_drewN hB.out _⟩
            · have hbm := byt_le r 0
              obtain ⟨hd1, hhd1⟩ : ∃ x, x = r.extract 0 1 := ⟨_, rfl⟩
              obtain ⟨r1, hr1⟩ : ∃ x, x = r.extract 1 r.size := ⟨_, rfl⟩
              have HT1 := Lib.hid (take_good r hd1 r1 1 1 rfl hhd1 hr1 (by omega) hr)
              have hds1 : 1 ≤ hd1.size := by rw [hhd1]; simp; omega
              have hmm := byt_at hd1 0 (by omega)
              rw [show byt hd1 0 = byt r 0 by rw [hhd1]; exact byt_take r (by omega)] at hmm
              have hr1s : r1.size = r.size - 1 := by rw [hr1]; simp

              by_cases q2 : r.size < 1 + byt r 0
              · have hE : scE k r = 4 := sc_four (by rw [hH]; exact .inr q2)
                have hh := h1 (by rw [hE]; decide)
                rw [hE] at hh
                have HN := Lib.hid (HD.out.trans (HI.trans hh))
                have HT2 := Lib.hid (take_bad r1 (byt r 0) (byt r 0 : Int) rfl (by omega) (by omega))
                obtain ⟨m, hme⟩ : ∃ m, m = byt r 0 := ⟨_, rfl⟩
                rw [← hme] at hmm hbm HT2
                clear h1 h2 h3 HI hI hE hh hhd1 hr1 hme
                go_wp2_with fail
                refine (HT1.out _).mono ?_
                rintro e w1 ⟨rfl, qw1, rfl⟩
                go_wp2_with fail
                refine (HT2.out _).mono ?_
                rintro e w2 ⟨rfl, qw2, rfl⟩
                go_wp2_with fail
                go_ret2
                unfold DecPost
                rw [HN.out]
                exact ⟨⟨none, 0, rfl, Nat.le_refl _, Rd.nil⟩, below_drewN hB.out _⟩
              · obtain ⟨g1, g2, g3, g4⟩ := sc_good (k := k) (r := r) (by rw [hH]; omega) (by rw [hH]; show 1 + byt r 0 ≤ r.size; omega)
                rw [hH] at g2 g3
                rw [if_pos h16] at g4
                rw [g1, g2, g3, g4] at h3
                rw [g1, g3, g4] at h2
                obtain ⟨m, hme⟩ : ∃ m, m = byt r 0 := ⟨_, rfl⟩
                rw [show byt r (1 - 1) = byt r 0 by rfl, ← hme] at h2 h3
                rw [← hme] at hmm hbm q2
                obtain ⟨o, hoe⟩ : ∃ x, x = r.extract 1 (1 + m) := ⟨_, rfl⟩
                obtain ⟨r2, hr2⟩ : ∃ x, x = r.extract (1 + m) r.size := ⟨_, rfl⟩
                have HT2 := Lib.hid (take_good r1 o r2 m m rfl (by rw [hr1, ext_ext1, hoe]) (by rw [hr1, ext_ext2, hr2]) (by omega) (by omega))
                have hos : o.size = m := by rw [hoe]; simp; omega
                have hr2s : r2.size ≤ 1000000 := by rw [hr2]; simp; omega
                rw [← hoe] at h2 h3
                rw [← hr2] at h3

                by_cases hk0 : k = 0
                · have hDn : D = [] := List.eq_nil_of_length_eq_zero (by omega)
                  have j0 : jE D 0 o = 0 := by rw [hDn]; rfl
                  have jv : jV D 0 o = o := by unfold jV; rw [if_pos j0, jn_zero]
                  have hh := h3 rfl j0
                  rw [jv] at hh
                  have HN := Lib.hid (HI.trans hh)
                  have hy0 : y = ByteArray.empty := by rw [hl.out, hDn]; rfl
                  have HkD := Lib.hid hkD
                  subst hy0
                  subst hk0
                  clear h1 h2 h3 HI hI hh g1 g2 g3 g4 hme hoe hr2 hr1 hhd1 hkD j0 jv hDn
                  go_wp2_with fail
                  refine (HT1.out _).mono ?_
                  rintro e w1 ⟨rfl, qw1, rfl⟩
                  go_wp2_with fail
                  refine (HT2.out _).mono ?_
                  rintro e w2 ⟨rfl, qw2, rfl⟩
                  go_wp2_with (at_builtin; refine wpList_append_one rfl (.tmp 98) (.tmp 100) 22 rfl w.heap.size 9 i0 _ 16 Try.underlying22 Hi0.out Hz0.out Hz1.out Hz2.out rfl (.slice A1 0 c1) 0 _ rfl ((own_below hO.out (drewN_below _ _)).alloc _) wr.heap.size 1 (.string o) rfl ?_ rfl ?_ ?_ ?_ ?_; exact (cell_new _ _ _ _); exact (by omega); exact (by omega); exact ((below_drewN hB.out _).alloc (below_drewN hB.out _).size _).size; intro v3 w3 hown3 hg3; have HY := Lib.hid hown3; have HYB := Lib.hid (below_grownBy (B := w.heap.size) (a := w) ((below_drewN hB.out _).alloc (below_drewN hB.out _).size (.cells #[.string o] 9)) ((own_below hO.out (drewN_below _ _)).alloc _) hg3 (Nat.le_refl _) (Nat.le_refl _)); clear hown3 hg3)
                  go_roundw
                  case rel => exact ⟨0 + 1, D ++ [o], r2, o, by omega, by rw [List.length_append, List.length_singleton]; have := HkD.out; omega, by go_num, rfl, rfl, hr2s, by omega, Lib.hid (lst_snoc D o).symm, by rw [List.map_append]; exact HY, Lib.hid (by rw [HN.out]; congr 1; omega), HYB⟩
                  case measure => simp [intOf]; omega
                · have hyl : lst D = y := hl.out.symm
                  have hjE : jE D 0 o = if bl y o = false then 8 else 0 := by
                    unfold jE jnE
                    rw [if_neg (by omega), hyl, if_neg (by omega), if_neg (by omega), jn_zero, ← hkD]
                    rw [if_neg (fun g : k % 16 ≠ 0 ∧ _ => g.1 h16)]
                  have HkD := Lib.hid hkD
                  rcases tests o y with ⟨b1, b2, b3⟩ | ⟨b1, b2, b3⟩ | ⟨b1, b2, b3⟩
                  · rw [b1, if_neg (by decide)] at hjE
                    have jv : jV D 0 o = o := by unfold jV; rw [if_pos hjE, jn_zero]
                    have hh := h3 rfl hjE
                    rw [jv] at hh
                    have HN := Lib.hid (HI.trans hh)
                    clear h1 h2 h3 HI hI hh g1 g2 g3 g4 hme hoe hr2 hr1 hhd1 hkD jv hyl hjE b1
                    go_wp2_with fail
                    refine (HT1.out _).mono ?_
                    rintro e w1 ⟨rfl, qw1, rfl⟩
                    go_wp2_with fail
                    refine (HT2.out _).mono ?_
                    rintro e w2 ⟨rfl, qw2, rfl⟩
                    go_wp2_with (at_builtin; refine wpList_append_one rfl (.tmp 98) (.tmp 100) 22 rfl w.heap.size 9 i0 _ 16 Try.underlying22 Hi0.out Hz0.out Hz1.out Hz2.out rfl (.slice A1 k c1) k _ rfl ((own_below hO.out (drewN_below _ _)).alloc _) wr.heap.size 1 (.string o) rfl ?_ rfl ?_ ?_ ?_ ?_; exact (cell_new _ _ _ _); exact (by omega); exact (by omega); exact ((below_drewN hB.out _).alloc (below_drewN hB.out _).size _).size; intro v3 w3 hown3 hg3; have HY := Lib.hid hown3; have HYB := Lib.hid (below_grownBy (B := w.heap.size) (a := w) ((below_drewN hB.out _).alloc (below_drewN hB.out _).size (.cells #[.string o] 9)) ((own_below hO.out (drewN_below _ _)).alloc _) hg3 (Nat.le_refl _) (Nat.le_refl _)); clear hown3 hg3)
                    go_roundw
                    case rel => exact ⟨k + 1, D ++ [o], r2, o, by omega, by rw [List.length_append, List.length_singleton]; have := HkD.out; omega, by go_num, rfl, rfl, hr2s, by omega, Lib.hid (lst_snoc D o).symm, by rw [List.map_append]; exact HY, Lib.hid (by rw [HN.out]; congr 1; omega), HYB⟩
                    case measure => simp [intOf]; omega
                  · rw [b1, if_pos rfl] at hjE
                    have hh := h2 rfl (by rw [hjE]; decide)
                    rw [hjE] at hh
                    have HN := Lib.hid (HD.out.trans (HI.trans hh))
                    clear h1 h2 h3 HI hI hh g1 g2 g3 g4 hme hoe hr2 hr1 hhd1 hkD hyl hjE b1
                    go_wp2_with fail
                    refine (HT1.out _).mono ?_
                    rintro e w1 ⟨rfl, qw1, rfl⟩
                    go_wp2_with fail
                    refine (HT2.out _).mono ?_
                    rintro e w2 ⟨rfl, qw2, rfl⟩
                    go_wp2_with fail
                    go_ret2
                    unfold DecPost
                    rw [HN.out]
                    exact ⟨⟨none, 0, rfl, Nat.le_refl _, Rd.nil⟩, below_drewN hB.out _⟩
                  · rw [b1, if_pos rfl] at hjE
                    have hh := h2 rfl (by rw [hjE]; decide)
                    rw [hjE] at hh
                    have HN := Lib.hid (HD.out.trans (HI.trans hh))
                    clear h1 h2 h3 HI hI hh g1 g2 g3 g4 hme hoe hr2 hr1 hhd1 hkD hyl hjE b1
                    go_wp2_with fail
                    refine (HT1.out _).mono ?_
                    rintro e w1 ⟨rfl, qw1, rfl⟩
                    go_wp2_with fail
                    refine (HT2.out _).mono ?_
                    rintro e w2 ⟨rfl, qw2, rfl⟩
                    go_wp2_with fail
                    go_ret2
                    unfold DecPost
                    rw [HN.out]
                    exact ⟨⟨none, 0, rfl, Nat.le_refl _, Rd.nil⟩, below_drewN hB.out _⟩
          · have hH : scH k = 2 := if_neg h16
            have hk0 : 0 < k := by
              rcases Nat.eq_zero_or_pos k with h | h
              · subst h; exact absurd rfl h16
              · exact h
            have hk16 : ((k : Int).tmod 16 == 0) = false := by rw [mod16, decide_eq_false h16]
            have hk16' : ¬ (k : Int) % 16 = 0 := by omega
            by_cases q1 : r.size < 1
            · have hE : scE k r = 4 := sc_four (by rw [hH]; exact .inl (by omega))
              have hh := h1 (by rw [hE]; decide)
              rw [hE] at hh
              have HN := Lib.hid (HD.out.trans (HI.trans hh))
              have HT1 := Lib.hid (take_bad r 1 1 rfl q1 (by omega))
              clear h1 h2 h3 HI hI hE hh 
              go_wp2_with fail
              refine (HT1.out _).mono ?_
              rintro e w1 ⟨rfl, qw1, rfl⟩
              go_wp2_with fail
              go_ret2
              unfold DecPost
              rw [HN.out]
              exact ⟨⟨none, 0, rfl, Nat.le_refl _, Rd.nil⟩, below_drewN hB.out _⟩
            · have hbs := byt_le r 0
              obtain ⟨hd1, hhd1⟩ : ∃ x, x = r.extract 0 1 := ⟨_, rfl⟩
              obtain ⟨r1, hr1⟩ : ∃ x, x = r.extract 1 r.size := ⟨_, rfl⟩
              have HT1 := Lib.hid (take_good r hd1 r1 1 1 rfl hhd1 hr1 (by omega) hr)
              have hds1 : 1 ≤ hd1.size := by rw [hhd1]; simp; omega
              have hms := byt_at hd1 0 (by omega)
              rw [show byt hd1 0 = byt r 0 by rw [hhd1]; exact byt_take r (by omega)] at hms
              have hr1s : r1.size = r.size - 1 := by rw [hr1]; simp
              obtain ⟨sh, hsh⟩ : ∃ x, x = byt r 0 := ⟨_, rfl⟩
              rw [← hsh] at hms hbs
              by_cases q2 : r.size < 2
              · have hE : scE k r = 4 := sc_four (by rw [hH]; exact .inl q2)
                have hh := h1 (by rw [hE]; decide)
                rw [hE] at hh
                have HN := Lib.hid (HD.out.trans (HI.trans hh))
                have HT2 := Lib.hid (take_bad r1 1 1 rfl (by omega) (by omega))
                clear h1 h2 h3 HI hI hE hh hhd1 hr1 hsh
                go_wp2_with fail
                refine (HT1.out _).mono ?_
                rintro e w1 ⟨rfl, qw1, rfl⟩
                go_wp2_with fail
                refine (HT2.out _).mono ?_
                rintro e w2 ⟨rfl, qw2, rfl⟩
                go_wp2_with fail
                go_ret2
                unfold DecPost
                rw [HN.out]
                exact ⟨⟨none, 0, rfl, Nat.le_refl _, Rd.nil⟩, below_drewN hB.out _⟩
              · have hbm := byt_le r 1
                obtain ⟨hd2, hhd2⟩ : ∃ x, x = r.extract 1 2 := ⟨_, rfl⟩
                obtain ⟨r2, hr2⟩ : ∃ x, x = r.extract 2 r.size := ⟨_, rfl⟩
                have HT2 := Lib.hid (take_good r1 hd2 r2 1 1 rfl (by rw [hr1, ext_ext1, hhd2]) (by rw [hr1, ext_ext2, hr2]) (by omega) (by omega))
                have hds2 : 1 ≤ hd2.size := by rw [hhd2]; simp; omega
                have hmm := byt_at hd2 0 (by omega)
                rw [show byt hd2 0 = byt r 1 by rw [hhd2, ← ext_ext1 r 1 1]; exact (byt_take _ (by omega)).trans (byt_drop r 1 0)] at hmm
                have hr2s0 : r2.size = r.size - 2 := by rw [hr2]; simp
                by_cases q3 : r.size < 2 + byt r 1
                · have hE : scE k r = 4 := sc_four (by rw [hH]; exact .inr q3)
                  have hh := h1 (by rw [hE]; decide)
                  rw [hE] at hh
                  have HN := Lib.hid (HD.out.trans (HI.trans hh))
                  have HT3 := Lib.hid (take_bad r2 (byt r 1) (byt r 1 : Int) rfl (by omega) (by omega))
                  obtain ⟨m, hme⟩ : ∃ m, m = byt r 1 := ⟨_, rfl⟩
                  rw [← hme] at hmm hbm HT3
                  clear h1 h2 h3 HI hI hE hh hhd1 hr1 hsh hhd2 hr2 hme
                  go_wp2_with fail
                  refine (HT1.out _).mono ?_
                  rintro e w1 ⟨rfl, qw1, rfl⟩
                  go_wp2_with fail
                  refine (HT2.out _).mono ?_
                  rintro e w2 ⟨rfl, qw2, rfl⟩
                  go_wp2_with fail
                  refine (HT3.out _).mono ?_
                  rintro e w3 ⟨rfl, qw3, rfl⟩
                  go_wp2_with fail
                  go_ret2
                  unfold DecPost
                  rw [HN.out]
                  exact ⟨⟨none, 0, rfl, Nat.le_refl _, Rd.nil⟩, below_drewN hB.out _⟩
                · obtain ⟨g1, g2, g3, g4⟩ := sc_good (k := k) (r := r) (by rw [hH]; omega) (by rw [hH]; show 2 + byt r 1 ≤ r.size; omega)
                  rw [hH] at g2 g3
                  rw [if_neg h16] at g4
                  rw [g1, g2, g3, g4] at h3
                  rw [g1, g3, g4] at h2
                  obtain ⟨m, hme⟩ : ∃ m, m = byt r 1 := ⟨_, rfl⟩
                  rw [show byt r (2 - 1) = byt r 1 by rfl, ← hme, ← hsh] at h2 h3
                  rw [← hme] at hmm hbm q3
                  obtain ⟨o, hoe⟩ : ∃ x, x = r.extract 2 (2 + m) := ⟨_, rfl⟩
                  obtain ⟨r3, hr3⟩ : ∃ x, x = r.extract (2 + m) r.size := ⟨_, rfl⟩
                  have HT3 := Lib.hid (take_good r2 o r3 m m rfl (by rw [hr2, ext_ext1, hoe]) (by rw [hr2, ext_ext2, hr3]) (by omega) (by omega))
                  have hos : o.size = m := by rw [hoe]; simp; omega
                  have hr2s : r3.size ≤ 1000000 := by rw [hr3]; simp; omega
                  rw [← hoe] at h2 h3
                  rw [← hr3] at h3
                  have hyl : lst D = y := hl.out.symm
                  have hjE : jE D sh o = jnE k y sh o := by
                    unfold jE
                    rw [if_neg (by omega), hyl, ← hkD]
                  have hjv : jE D sh o = 0 → jV D sh o = jn y sh o := fun h => by unfold jV; rw [if_pos h, hyl]
                  have HkD := Lib.hid hkD
                  unfold jnE at hjE
                  by_cases f1 : y.size < sh
                  · rw [if_pos f1] at hjE
                    have hh := h2 rfl (by rw [hjE]; decide)
                    rw [hjE] at hh
                    have HN := Lib.hid (HD.out.trans (HI.trans hh))
                    clear h1 h2 h3 HI hI hh g1 g2 g3 g4 hme hoe hr2 hr1 hhd1 hkD hsh hhd2 hr3 hyl hjE hjv hmod hr1s hr2s0 hn q1 q2 q3 hH 
                    go_wp2_with fail
                    refine (HT1.out _).mono ?_
                    rintro e w1 ⟨rfl, qw1, rfl⟩
                    go_wp2_with fail
                    refine (HT2.out _).mono ?_
                    rintro e w2 ⟨rfl, qw2, rfl⟩
                    go_wp2_with fail
                    refine (HT3.out _).mono ?_
                    rintro e w3 ⟨rfl, qw3, rfl⟩
                    go_wp2_with fail
                    go_ret2
                    unfold DecPost
                    rw [HN.out]
                    exact ⟨⟨none, 0, rfl, Nat.le_refl _, Rd.nil⟩, below_drewN hB.out _⟩
                  · rw [if_neg f1] at hjE
                    have hadd := jn_add y sh o
                    have hts := jn_size y sh o (by omega)
                    have hcj := cm_jn y sh o (by omega)
                    obtain ⟨t, hte⟩ : ∃ x, x = jn y sh o := ⟨_, rfl⟩
                    rw [← hte] at hadd hts hjE hjv hcj
                    by_cases f2 : 255 < sh + o.size
                    · rw [if_pos f2] at hjE
                      have hh := h2 rfl (by rw [hjE]; decide)
                      rw [hjE] at hh
                      have HN := Lib.hid (HD.out.trans (HI.trans hh))
                      clear h1 h2 h3 HI hI hh g1 g2 g3 g4 hme hoe hr2 hr1 hhd1 hkD hsh hhd2 hr3 hyl hjE hjv hmod hr1s hr2s0 hn q1 q2 q3 hH hte
                      go_wp2_with fail
                      refine (HT1.out _).mono ?_
                      rintro e w1 ⟨rfl, qw1, rfl⟩
                      go_wp2_with fail
                      refine (HT2.out _).mono ?_
                      rintro e w2 ⟨rfl, qw2, rfl⟩
                      go_wp2_with fail
                      refine (HT3.out _).mono ?_
                      rintro e w3 ⟨rfl, qw3, rfl⟩
                      go_wp2_with fail
                      go_ret2
                      unfold DecPost
                      rw [HN.out]
                      exact ⟨⟨none, 0, rfl, Nat.le_refl _, Rd.nil⟩, below_drewN hB.out _⟩
                    · rw [if_neg f2] at hjE
                      have HC := Lib.hid (fun W => rcommon_any y t (by omega) (by omega) W)
                      obtain ⟨cm0, hcm⟩ : ∃ x, x = cm y t := ⟨_, rfl⟩
                      rw [← hcm] at HC hjE hcj
                      rcases tests t y with ⟨b1, b2, b3⟩ | ⟨b1, b2, b3⟩ | ⟨b1, b2, b3⟩
                      · rw [b1, if_neg (by decide)] at hjE
                        by_cases f3 : sh < cm0
                        · rw [if_pos ⟨h16, f3⟩] at hjE
                          have f4 : ((cm0 : Int) == (sh : Int)) = false := by simp; omega
                          have hh := h2 rfl (by rw [hjE]; decide)
                          rw [hjE] at hh
                          have HN := Lib.hid (HD.out.trans (HI.trans hh))
                          clear h1 h2 h3 HI hI hh g1 g2 g3 g4 hme hoe hr2 hr1 hhd1 hkD hsh hhd2 hr3 hyl hjE hjv hmod hr1s hr2s0 hn q1 q2 q3 hH hte hcm b1
                          go_wp2_with fail
                          refine (HT1.out _).mono ?_
                          rintro e w1 ⟨rfl, qw1, rfl⟩
                          go_wp2_with fail
                          refine (HT2.out _).mono ?_
                          rintro e w2 ⟨rfl, qw2, rfl⟩
                          go_wp2_with fail
                          refine (HT3.out _).mono ?_
                          rintro e w3 ⟨rfl, qw3, rfl⟩
                          go_wp2_with fail
                          refine (HC.out _).mono ?_
                          rintro e w4 ⟨rfl, q4, rfl⟩
                          go_wp2_with fail
                          go_ret2
                          unfold DecPost
                          rw [HN.out]
                          exact ⟨⟨none, 0, rfl, Nat.le_refl _, Rd.nil⟩, below_drewN hB.out _⟩
                        · rw [if_neg (fun g => f3 g.2)] at hjE
                          obtain rfl : cm0 = sh := by omega
                          have hh := h3 rfl hjE
                          rw [hjv hjE] at hh
                          have HN := Lib.hid (HI.trans hh)
                          clear h1 h2 h3 HI hI hh g1 g2 g3 g4 hme hoe hr2 hr1 hhd1 hkD hsh hhd2 hr3 hyl hjE hjv hmod hr1s hr2s0 hn q1 q2 q3 hH hte hcm b1 f3
                          go_wp2_with fail
                          refine (HT1.out _).mono ?_
                          rintro e w1 ⟨rfl, qw1, rfl⟩
                          go_wp2_with fail
                          refine (HT2.out _).mono ?_
                          rintro e w2 ⟨rfl, qw2, rfl⟩
                          go_wp2_with fail
                          refine (HT3.out _).mono ?_
                          rintro e w3 ⟨rfl, qw3, rfl⟩
                          go_wp2_with fail
                          refine (HC.out _).mono ?_
                          rintro e w4 ⟨rfl, q4, rfl⟩
                          go_wp2_with (at_builtin; refine wpList_append_one rfl (.tmp 98) (.tmp 100) 22 rfl w.heap.size 9 i0 _ 16 Try.underlying22 Hi0.out Hz0.out Hz1.out Hz2.out rfl (.slice A1 k c1) k _ rfl ((own_below hO.out (drewN_below _ _)).alloc _) wr.heap.size 1 (.string t) rfl ?_ rfl ?_ ?_ ?_ ?_; exact (cell_new _ _ _ _); exact (by omega); exact (by omega); exact ((below_drewN hB.out _).alloc (below_drewN hB.out _).size _).size; intro v3 w3 hown3 hg3; have HY := Lib.hid hown3; have HYB := Lib.hid (below_grownBy (B := w.heap.size) (a := w) ((below_drewN hB.out _).alloc (below_drewN hB.out _).size (.cells #[.string t] 9)) ((own_below hO.out (drewN_below _ _)).alloc _) hg3 (Nat.le_refl _) (Nat.le_refl _)); clear hown3 hg3)
                          go_roundw
                          case rel => exact ⟨k + 1, D ++ [t], r3, t, by omega, by rw [List.length_append, List.length_singleton]; have := HkD.out; omega, by go_num, rfl, rfl, hr2s, by omega, Lib.hid (lst_snoc D t).symm, by rw [List.map_append]; exact HY, Lib.hid (by rw [HN.out]; congr 1; omega), HYB⟩
                          case measure => simp [intOf]; omega
                      · rw [b1, if_pos rfl] at hjE
                        have hh := h2 rfl (by rw [hjE]; decide)
                        rw [hjE] at hh
                        have HN := Lib.hid (HD.out.trans (HI.trans hh))
                        clear h1 h2 h3 HI hI hh g1 g2 g3 g4 hme hoe hr2 hr1 hhd1 hkD hsh hhd2 hr3 hyl hjE hjv hmod hr1s hr2s0 hn q1 q2 q3 hH hte hcm b1
                        go_wp2_with fail
                        refine (HT1.out _).mono ?_
                        rintro e w1 ⟨rfl, qw1, rfl⟩
                        go_wp2_with fail
                        refine (HT2.out _).mono ?_
                        rintro e w2 ⟨rfl, qw2, rfl⟩
                        go_wp2_with fail
                        refine (HT3.out _).mono ?_
                        rintro e w3 ⟨rfl, qw3, rfl⟩
                        go_wp2_with fail
                        go_ret2
                        unfold DecPost
                        rw [HN.out]
                        exact ⟨⟨none, 0, rfl, Nat.le_refl _, Rd.nil⟩, below_drewN hB.out _⟩
                      · rw [b1, if_pos rfl] at hjE
                        have hh := h2 rfl (by rw [hjE]; decide)
                        rw [hjE] at hh
                        have HN := Lib.hid (HD.out.trans (HI.trans hh))
                        clear h1 h2 h3 HI hI hh g1 g2 g3 g4 hme hoe hr2 hr1 hhd1 hkD hsh hhd2 hr3 hyl hjE hjv hmod hr1s hr2s0 hn q1 q2 q3 hH hte hcm b1
                        go_wp2_with fail
                        refine (HT1.out _).mono ?_
                        rintro e w1 ⟨rfl, qw1, rfl⟩
                        go_wp2_with fail
                        refine (HT2.out _).mono ?_
                        rintro e w2 ⟨rfl, qw2, rfl⟩
                        go_wp2_with fail
                        refine (HT3.out _).mono ?_
                        rintro e w3 ⟨rfl, qw3, rfl⟩
                        go_wp2_with fail
                        go_ret2
                        unfold DecPost
                        rw [HN.out]
                        exact ⟨⟨none, 0, rfl, Nat.le_refl _, Rd.nil⟩, below_drewN hB.out _⟩
        · obtain rfl : k = N := by omega
          have hI2 := hI.out
          rw [Nat.sub_self] at hI2
          have hI3 : dgo 0 D r = if r.size = 0 then (0, D) else (3, []) := rfl
          rw [hI3] at hI2
          have HkD := Lib.hid hkD
          by_cases hr0' : r = ByteArray.empty
          · have hz : r.size = 0 := by rw [hr0']; rfl
            rw [if_pos hz] at hI2
            have HN := Lib.hid (HD.out.trans hI2)
            subst hr0'
            clear hI hI2 hI3 hkD hz
            go_wp2_with fail
            go_ret2
            unfold DecPost
            rw [HN.out]
            have := hO.out
            rw [HkD.out] at this
            exact ⟨⟨A1, c1, by rw [HkD.out]; rfl, by rw [← HkD.out]; exact hc1, Rd.own this⟩, hB.out⟩
          · have hz : ¬ r.size = 0 := fun h => hr0' (ba_ext (by
              have : r.data.toList.length = 0 := by simpa using h
              exact List.eq_nil_of_length_eq_zero this))
            rw [if_neg hz] at hI2
            have HN := Lib.hid (HD.out.trans hI2)
            have hbe : r.toList.isEmpty = false := by
              rw [ByteArray.toList_eq, List.isEmpty_eq_false_iff]
              intro e
              exact hz (by have : r.data.toList.length = 0 := by rw [e]; rfl
                           simpa using this)
            clear hI hI2 hI3 hkD hz
            go_wp2_with fail
            go_ret2
            unfold DecPost
            rw [HN.out]
            exact ⟨⟨none, 0, rfl, Nat.le_refl _, Rd.nil⟩, hB.out⟩
end Go.Proofs.Ytjkpjcklfpmcnaa
