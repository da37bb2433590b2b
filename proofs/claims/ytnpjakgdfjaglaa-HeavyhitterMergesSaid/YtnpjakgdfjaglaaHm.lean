/- Check, and the law's check (written by wip/bin/gen_hm22.py). -/
import Derived.Test.YtnpjakgdfjaglaaHk
import Derived.BigQuiet
namespace Go.Proofs.Ytnpjakgdfjaglaa
open Go.ChangeShapes Go.WideShapes Go.ChangeAt Go.RowKit Go.Joins

theorem sm_take1 {L : List Ct} (j : Nat) (h : j < L.length) : sm (L.take (j + 1)) = sm (L.take j) + L[j].2 := by
  rw [List.take_succ_eq_append_getElem h, sm_append]; simp [sm]
/-- The slice at A reads as the counters L, wherever they lie. -/
def CW (w : World) (A : Option Addr) (L : List Ct) : Prop :=
  ∀ j (h : j < L.length), ∃ b off, A = some ⟨b, off, none⟩ ∧ b < w.heap.size ∧ w.cell? ⟨b, off + j * 2, none⟩ = some (.string L[j].1) ∧ w.cell? ⟨b, off + j * 2 + 1, none⟩ = some (.int .i64 L[j].2)
theorem CW.of {w : World} {A : Option Addr} {L : List Ct} (h : CR w A L) : CW w A L := fun j hj => h.at j hj
theorem CW.at {w : World} {A : Option Addr} {L : List Ct} (h : CW w A L) (j : Nat) (hj : j < L.length) : ∃ b off, A = some ⟨b, off, none⟩ ∧ b < w.heap.size ∧ w.cell? ⟨b, off + j * 2, none⟩ = some (.string L[j].1) ∧ w.cell? ⟨b, off + j * 2 + 1, none⟩ = some (.int .i64 L[j].2) := h j hj
theorem CW.below {w w' : World} {A : Option Addr} {L : List Ct} (h : CW w A L) (hb : Below w.heap.size w w') : CW w' A L := fun j hj => by
  obtain ⟨b, off, e, hl, h0, h1⟩ := h j hj
  exact ⟨b, off, e, Nat.lt_of_lt_of_le hl hb.size, (hb.cell (p := ⟨b, off + j * 2, none⟩) hl).trans h0, (hb.cell (p := ⟨b, off + j * 2 + 1, none⟩) hl).trans h1⟩
def SuW (w : World) (v : Value) (s : Su) : Prop := ∃ A c, v = .agg #[.int .i64 s.mo, .int .i64 s.to, .int .i64 s.lo, .slice A s.cs.length c] ∧ CW w A s.cs
theorem SuW.of {w : World} {v : Value} {s : Su} (h : SuV w v s) : SuW w v s := by
  obtain ⟨u, rfl, A, c, rfl, _, _, hR⟩ := h
  exact ⟨A, c, rfl, CW.of hR⟩
theorem ct_prev {L : List Ct} (m : Nat) (h : m < L.length) : prevC L (m + 1) = some L[m].1 := by
  show (L[m]?).map Prod.fst = _; rw [List.getElem?_eq_getElem h]; rfl

set_option maxRecDepth 100000 in
set_option maxHeartbeats 8000000 in
theorem pck_any (v : Value) (s : Su) (hl : s.cs.length ≤ 300) (hk : ∀ p ∈ s.cs, p.1.size ≤ 1000000) (hc : ∀ p ∈ s.cs, -9223372036854775808 ≤ p.2 ∧ p.2 ≤ 9223372036854775807) (hm : -9223372036854775808 ≤ s.mo ∧ s.mo ≤ 9223372036854775807) (w : World) (hv : SuW w v s) :
    Calls Try.prog 16 #[v] w fun e w' => e = .returned (.int .i64 (ckS s)) ∧ Below w.heap.size w w' := by
  obtain ⟨mo, to, lo, cs⟩ := s
  obtain ⟨A, c, rfl, hR⟩ := hv
  dsimp only at hl hk hc hm hR ⊢
  have HR := Lib.hid hR
  have HK := Lib.hid hk
  have HC := Lib.hid hc
  obtain ⟨hm1, hm2⟩ := hm
  have HF : Hid (ckL none to cs = ckL none to cs) := Lib.hid rfl
  have HZ : Hid (ckS ⟨mo, to, lo, cs⟩ = if ¬(1 ≤ mo ∧ mo ≤ 256) ∨ ¬(0 ≤ to ∧ to ≤ 1125899906842624) ∨ lo < 0 then 2 else if mo < (cs.length : Int) then 6 else if ckL none to cs = 0 then (if sm cs + lo * (mo + 1) ≤ to then 0 else 17) else ckL none to cs) := Lib.hid rfl
  obtain ⟨Z, hZ⟩ : ∃ Z, Z = ckS ⟨mo, to, lo, cs⟩ := ⟨_, rfl⟩
  rw [← hZ] at HZ ⊢
  obtain ⟨F, hF⟩ : ∃ F, F = ckL none to cs := ⟨_, rfl⟩
  rw [← hF] at HZ
  have HF0 : Hid (F = ckL (prevC cs 0) to (cs.drop 0)) := Lib.hid (by rw [hF]; rfl)
  obtain ⟨ln, hln⟩ : ∃ ln, ln = cs.length := ⟨_, rfl⟩
  have HLn := Lib.hid hln
  rw [← hln] at HZ hl ⊢
  have HSm0 : Hid ((0 : Int) = sm (cs.take 0)) := Lib.hid (by rw [List.take_zero]; rfl)
  have HB0 : Hid (Below w.heap.size w (w.alloc (.cells #[.int .i64 mo, .int .i64 to, .int .i64 lo, .slice A ln c] 24))) := Lib.hid ((Below.refl _ _).alloc (Nat.le_refl _) _)
  have HG0 : Hid ((w.alloc (.cells #[.int .i64 mo, .int .i64 to, .int .i64 lo, .slice A ln c] 24)).heap[w.heap.size]? = some (.cells #[.int .i64 mo, .int .i64 to, .int .i64 lo, .slice A ln c] 24 (0, 0))) := Lib.hid (Deep.blk_alloc_new _ _)
  clear hR hk hc hZ hF hln HF
  go_enter Try.func16, Try.ntmps16
  have HB1 := Lib.hid (fun W => between22_any mo 1 256 W)
  have HB2 := Lib.hid (fun W => between22_any to 0 1125899906842624 W)
  go_wp2_with fail
  refine (HB1.out _).mono ?_
  rintro e w9 ⟨rfl, rfl⟩
  by_cases e1 : 1 ≤ mo ∧ mo ≤ 256
  · have d1 : (decide (1 ≤ mo) && decide (mo ≤ 256)) = true := by simpa using e1
    rw [d1]
    clear d1
    go_wp2_with fail
    refine (HB2.out _).mono ?_
    rintro e w9 ⟨rfl, rfl⟩
    by_cases e2 : 0 ≤ to ∧ to ≤ 1125899906842624
    · have d2 : (decide (0 ≤ to) && decide (to ≤ 1125899906842624)) = true := by simpa using e2
      rw [d2]
      clear d2
      by_cases e3 : lo < 0
      · have d3 : decide (lo < 0) = true := by simpa using e3
        have HT : Hid (Z = 2) := Lib.hid (by rw [HZ.out, if_pos (by omega)])
        clear e1 e2 e3
        go_wp2_with fail
        go_ret
        rw [HT.out]
        exact ⟨rfl, HB0.out⟩
      · have d3 : decide (lo < 0) = false := by simpa using e3
        have hlo : 0 ≤ lo := by omega
        have HE : Hid (¬(¬(1 ≤ mo ∧ mo ≤ 256) ∨ ¬(0 ≤ to ∧ to ≤ 1125899906842624) ∨ lo < 0)) := Lib.hid (by omega)
        obtain ⟨m1, m2⟩ := e1
        obtain ⟨t1, t2⟩ := e2
        clear e3
        by_cases e4 : mo < (ln : Int)
        · have d4 : decide (mo < (ln : Int)) = true := by simpa using e4
          have HT : Hid (Z = 6) := Lib.hid (by rw [HZ.out, if_neg HE.out, if_pos e4])
          clear e4
          go_wp2_with fail
          go_ret
          rw [HT.out]
          exact ⟨rfl, HB0.out⟩
        · have d4 : decide (mo < (ln : Int)) = false := by simpa using e4
          have HE4 : Hid ((ln : Int) ≤ mo) := Lib.hid (by omega)
          clear e4
          go_wp2_with fail
          go_loopw [3, 32] (fun tv iv wr => ∃ (j : Nat) (u : Int), j ≤ ln ∧ iv = .int .i64 (j : Int) ∧ tv = .int .i64 u ∧ 0 ≤ u ∧ u ≤ 1125899906842624 * (j : Int) ∧ Hid (u = sm (cs.take j)) ∧ Hid (F = ckL (prevC cs j) to (cs.drop j)) ∧ Hid (Below w.heap.size w wr) ∧ Hid (wr.heap[w.heap.size]? = some (.cells #[.int .i64 mo, .int .i64 to, .int .i64 lo, .slice A ln c] 24 (0, 0)))) (fun _ iv _ => ln - (intOf iv).toNat)
          case atStart => exact ⟨0, 0, Nat.zero_le _, rfl, rfl, Int.le_refl _, Int.le_refl _, HSm0, HF0, HB0, HG0⟩
          case round =>
            obtain ⟨j, u, hj, rfl, rfl, hu0, hu1, HU, HE5, HB, HG⟩ := hrel
            have hsz := HB.out.size
            have hXl := (Array.getElem?_eq_some_iff.1 HG.out).1
            have y0 := cell_of_row _ _ 0 _ _ _ HG.out
            have y1 := cell_of_row _ _ 1 _ _ _ HG.out
            have y2 := cell_of_row _ _ 2 _ _ _ HG.out
            have y3 := cell_of_row _ _ 3 _ _ _ HG.out
            simp at y0 y1 y2 y3
            by_cases hlt : j < ln
            · have hj2 : j < cs.length := by rw [← HLn.out]; exact hlt
              have hp := HE5.out
              rw [ck_step cs to j hj2] at hp
              have HP := Lib.hid hp
              clear hp
              have HUs := Lib.hid (sm_take1 j hj2)
              obtain ⟨b, off, rfl, hb, h0, h1⟩ := (HR.out.below HB.out).at j hj2
              have hprev : j = 0 ∨ ∃ q, j = q + 1 ∧ q < ln := by
                cases j with
                | zero => exact .inl rfl
                | succ q => exact .inr ⟨q, rfl, by omega⟩
              have hkx := HK.out _ (List.getElem_mem hj2)
              obtain ⟨hc1, hc2⟩ := HC.out _ (List.getElem_mem hj2)
              obtain ⟨x, hx⟩ : ∃ x, x = cs[j] := ⟨_, rfl⟩
              rw [← hx] at h0 h1 HP HUs hkx hc1 hc2
              clear hx hj2
              obtain ⟨t, m⟩ := x
              dsimp only at h0 h1 HP HUs hkx hc1 hc2
              have HNm := Lib.hid (fun W => name_any t hkx W)
              obtain ⟨nb, hnb⟩ : ∃ nb, nb = nmK t := ⟨_, rfl⟩
              rw [← hnb] at HNm HP
              clear hnb HE5
              have hjl : (j : Int) < (ln : Int) := by omega
              have hj0 : (0 : Int) ≤ (j : Int) := by omega
              have hw1 : IntKind.i64.wrap ((j : Int) + 1) = (j : Int) + 1 := by simp only [IntKind.wrap_i64]; omega
              have HBa := Lib.hid (HB.out.alloc hsz (.cells #[.string t, .int .i64 m] 27))
              have HKa := Lib.hid (Deep.blk_alloc_new wr (.cells #[.string t, .int .i64 m] 27))
              have HAa : Hid (Below wr.heap.size wr (wr.alloc (.cells #[.string t, .int .i64 m] 27))) := Lib.hid ((Below.refl _ _).alloc (Nat.le_refl _) _)
              go_wp2_with fail
              refine (HNm.out _).mono ?_
              rintro e w1 ⟨rfl, hb1⟩
              have HB1 : Hid (Below w.heap.size w w1) := Lib.hid (HBa.out.trans (hb1.mono HBa.out.size))
              have HA1 : Hid (Below wr.heap.size wr w1) := Lib.hid (HAa.out.trans (hb1.mono HAa.out.size))
              have HX1 : Hid (w1.heap[wr.heap.size]? = some (.cells #[.string t, .int .i64 m] 27 (0, 0))) := Lib.hid ((hb1.block _ (Array.getElem?_eq_some_iff.1 HKa.out).1).trans HKa.out)
              have HG1 := Lib.hid ((HA1.out.block _ hXl).trans HG.out)
              have k0 := cell_of_row w1 wr.heap.size 0 _ _ _ HX1.out
              have k1 := cell_of_row w1 wr.heap.size 1 _ _ _ HX1.out
              have z0 := cell_of_row w1 _ 0 _ _ _ HG1.out
              have z1 := cell_of_row w1 _ 1 _ _ _ HG1.out
              have z3 := cell_of_row w1 _ 3 _ _ _ HG1.out
              have hz1 : wr.heap.size < w1.heap.size := (Array.getElem?_eq_some_iff.1 HX1.out).1
              simp at k0 k1 z0 z1 z3
              clear hb1 h0 h1 y0 y1 y2 y3
              cases nb with
              | false =>
                have HT : Hid (Z = 11) := Lib.hid (by rw [HZ.out, if_neg HE.out, if_neg (Int.not_lt.2 HE4.out), if_neg (by rw [HP.out, if_pos rfl]; decide), HP.out, if_pos rfl])
                go_wp2_with fail
                go_ret
                rw [HT.out]
                exact ⟨rfl, HB1.out⟩
              | true =>
                rcases hprev with rfl | ⟨q, rfl, hq⟩
                · have HPc : Hid (F = if m < 1 ∨ to < m then 2 else ckL (prevC cs (0 + 1)) to (cs.drop (0 + 1))) := Lib.hid (by rw [HP.out, if_neg (by decide), if_neg (by simp [prevC])])
                  have hln0 : (0 : Int) < (ln : Int) := by omega
                  by_cases c1 : m < 1
                  · have d1 : decide (m < 1) = true := by simpa using c1
                    have hb1f : (decide (1 ≤ m) && decide (m ≤ to)) = false := by simp; omega
                    have HT : Hid (Z = 2) := Lib.hid (by rw [HZ.out, if_neg HE.out, if_neg (Int.not_lt.2 HE4.out), if_neg (by rw [HPc.out, if_pos (.inl c1)]; decide), HPc.out, if_pos (.inl c1)])
                    have HBt := Lib.hid (fun W => between22_any m 1 to W)
                    rw [hb1f] at HBt
                    clear c1
                    go_wp2_with fail
                    go_quiet (fail)
                    go_wp2_with fail
                    refine (HBt.out _).mono ?_
                    rintro e w9 ⟨rfl, rfl⟩
                    go_wp2_with fail
                    go_ret
                    rw [HT.out]
                    exact ⟨rfl, below_drewN HB1.out _⟩
                  · by_cases c2 : to < m
                    · have d1 : decide (m < 1) = false := by simpa using c1
                      have d2 : decide (to < m) = true := by simpa using c2
                      have hb1f : (decide (1 ≤ m) && decide (m ≤ to)) = false := by simp; omega
                      have HT : Hid (Z = 2) := Lib.hid (by rw [HZ.out, if_neg HE.out, if_neg (Int.not_lt.2 HE4.out), if_neg (by rw [HPc.out, if_pos (.inr c2)]; decide), HPc.out, if_pos (.inr c2)])
                      have HBt := Lib.hid (fun W => between22_any m 1 to W)
                      rw [hb1f] at HBt
                      clear c1 c2
                      go_wp2_with fail
                      go_quiet (fail)
                      go_wp2_with fail
                      refine (HBt.out _).mono ?_
                      rintro e w9 ⟨rfl, rfl⟩
                      go_wp2_with fail
                      go_ret
                      rw [HT.out]
                      exact ⟨rfl, below_drewN HB1.out _⟩
                    · have d1 : decide (m < 1) = false := by simpa using c1
                      have d2 : decide (to < m) = false := by simpa using c2
                      have hb1t : (decide (1 ≤ m) && decide (m ≤ to)) = true := by simp; omega
                      have HF9 : Hid (F = ckL (prevC cs (0 + 1)) to (cs.drop (0 + 1))) := Lib.hid (by rw [HPc.out, if_neg (by omega)])
                      have hum : u + m ≤ 1125899906842624 * ((0 + 1 : Nat) : Int) := by omega
                      have hu2 : 0 ≤ u + m := by omega
                      have hwu : IntKind.i64.wrap (u + m) = u + m := by simp only [IntKind.wrap_i64]; omega
                      have HU9 : Hid (u + m = sm (cs.take (0 + 1))) := Lib.hid (by rw [HUs.out, ← HU.out])
                      have HUM := Lib.hid hum
                      have HU2 := Lib.hid hu2
                      clear c1 c2 hum hu2
                      have HBt := Lib.hid (fun W => between22_any m 1 to W)
                      rw [hb1t] at HBt
                      clear hb1t
                      go_wp2_with fail
                      go_quiet (fail)
                      go_wp2_with fail
                      refine (HBt.out _).mono ?_
                      rintro e w9 ⟨rfl, rfl⟩
                      go_wp2_with fail
                      go_roundw
                      case rel => exact ⟨0 + 1, u + m, by omega, by go_num, rfl, HU2.out, HUM.out, HU9, HF9, Lib.hid (below_drewN HB1.out _), HG1⟩
                      case measure => simp [intOf] <;> omega
                · have hq2 : q < cs.length := by rw [← HLn.out]; exact hq
                  obtain ⟨b', off', e, _, g1, g9⟩ := (HR.out.below HB.out).at q hq2
                  simp only [Option.some.injEq, Addr.mk.injEq, and_true] at e
                  obtain ⟨rfl, rfl⟩ := e
                  have hpe := ct_prev q hq2
                  obtain ⟨y, hy⟩ : ∃ y, y = cs[q].1 := ⟨_, rfl⟩
                  rw [← hy] at g1 hpe
                  have g2 := (HA1.out.cell (p := ⟨b, off + q * 2, none⟩) hb).trans g1
                  have HPE := Lib.hid hpe
                  have hm0 : (0 : Int) ≤ (q : Int) := by omega
                  have hml : (q : Int) < (ln : Int) := by omega
                  have hw2 : IntKind.i64.wrap ((q : Int) + 1 - 1) = (q : Int) := by simp only [IntKind.wrap_i64]; omega
                  have hw3 : IntKind.i64.wrap (q : Int) = (q : Int) := by simp only [IntKind.wrap_i64]; omega
                  have hw5 : IntKind.i64.wrap ((q : Int) + 1 + 1) = (q : Int) + 1 + 1 := by simp only [IntKind.wrap_i64]; omega
                  have hpos : (0 : Int) < (q : Int) + 1 := by omega
                  have em : ((q + 1 : Nat) : Int) = (q : Int) + 1 := by omega
                  clear hy hpe g9 hq2 g1
                  cases hord : bl y t with
                  | false =>
                    have HPc : Hid (F = 8) := Lib.hid (by rw [HP.out, if_neg (by decide), HPE.out, if_pos (by simp [hord])])
                    have HT : Hid (Z = 8) := Lib.hid (by rw [HZ.out, if_neg HE.out, if_neg (Int.not_lt.2 HE4.out), if_neg (by rw [HPc.out]; decide), HPc.out])
                    cases hty : bl t y with
                    | true =>
                      have hd : Op.bytesLess t.toList y.toList = true := hty
                      clear hord hty
                      go_wp2_with fail
                      go_quiet (fail)
                      go_wp2_with fail
                      go_ret
                      rw [HT.out]
                      exact ⟨rfl, below_drewN HB1.out _⟩
                    | false =>
                      have hd : Op.bytesLess t.toList y.toList = false := hty
                      have hd2 : (t.toList == y.toList) = true := by
                        rcases bl_tri t y with h | h | h
                        · rw [h] at hty; cases hty
                        · rw [h]; simp
                        · rw [h] at hord; cases hord
                      clear hord hty
                      go_wp2_with fail
                      go_quiet (fail)
                      go_wp2_with fail
                      go_ret
                      rw [HT.out]
                      exact ⟨rfl, below_drewN HB1.out _⟩
                  | true =>
                    have hd : Op.bytesLess t.toList y.toList = false := bl_asymm hord
                    have hd2 : (t.toList == y.toList) = false := (Lib.bytes_beq_false_iff t y).2 (fun e => by rw [e, bl_irrefl] at hord; cases hord)
                    have HPc : Hid (F = if m < 1 ∨ to < m then 2 else ckL (prevC cs (q + 1 + 1)) to (cs.drop (q + 1 + 1))) := Lib.hid (by rw [HP.out, if_neg (by decide), HPE.out, if_neg (by simp [hord])])
                    clear hord
                    by_cases c1 : m < 1
                    · have d1 : decide (m < 1) = true := by simpa using c1
                      have hb1f : (decide (1 ≤ m) && decide (m ≤ to)) = false := by simp; omega
                      have HT : Hid (Z = 2) := Lib.hid (by rw [HZ.out, if_neg HE.out, if_neg (Int.not_lt.2 HE4.out), if_neg (by rw [HPc.out, if_pos (.inl c1)]; decide), HPc.out, if_pos (.inl c1)])
                      have HBt := Lib.hid (fun W => between22_any m 1 to W)
                      rw [hb1f] at HBt
                      clear c1
                      go_wp2_with fail
                      go_quiet (fail)
                      go_wp2_with fail
                      refine (HBt.out _).mono ?_
                      rintro e w9 ⟨rfl, rfl⟩
                      go_wp2_with fail
                      go_ret
                      rw [HT.out]
                      exact ⟨rfl, below_drewN HB1.out _⟩
                    · by_cases c2 : to < m
                      · have d1 : decide (m < 1) = false := by simpa using c1
                        have d2 : decide (to < m) = true := by simpa using c2
                        have hb1f : (decide (1 ≤ m) && decide (m ≤ to)) = false := by simp; omega
                        have HT : Hid (Z = 2) := Lib.hid (by rw [HZ.out, if_neg HE.out, if_neg (Int.not_lt.2 HE4.out), if_neg (by rw [HPc.out, if_pos (.inr c2)]; decide), HPc.out, if_pos (.inr c2)])
                        have HBt := Lib.hid (fun W => between22_any m 1 to W)
                        rw [hb1f] at HBt
                        clear c1 c2
                        go_wp2_with fail
                        go_quiet (fail)
                        go_wp2_with fail
                        refine (HBt.out _).mono ?_
                        rintro e w9 ⟨rfl, rfl⟩
                        go_wp2_with fail
                        go_ret
                        rw [HT.out]
                        exact ⟨rfl, below_drewN HB1.out _⟩
                      · have d1 : decide (m < 1) = false := by simpa using c1
                        have d2 : decide (to < m) = false := by simpa using c2
                        have hb1t : (decide (1 ≤ m) && decide (m ≤ to)) = true := by simp; omega
                        have HF9 : Hid (F = ckL (prevC cs ((q + 1) + 1)) to (cs.drop ((q + 1) + 1))) := Lib.hid (by rw [HPc.out, if_neg (by omega)])
                        have hum : u + m ≤ 1125899906842624 * (((q + 1) + 1 : Nat) : Int) := by omega
                        have hu2 : 0 ≤ u + m := by omega
                        have hwu : IntKind.i64.wrap (u + m) = u + m := by simp only [IntKind.wrap_i64]; omega
                        have HU9 : Hid (u + m = sm (cs.take ((q + 1) + 1))) := Lib.hid (by rw [HUs.out, ← HU.out])
                        have HUM := Lib.hid hum
                        have HU2 := Lib.hid hu2
                        clear c1 c2 hum hu2
                        have HBt := Lib.hid (fun W => between22_any m 1 to W)
                        rw [hb1t] at HBt
                        clear hb1t
                        go_wp2_with fail
                        go_quiet (fail)
                        go_wp2_with fail
                        refine (HBt.out _).mono ?_
                        rintro e w9 ⟨rfl, rfl⟩
                        go_wp2_with fail
                        go_roundw
                        case rel => exact ⟨(q + 1) + 1, u + m, by omega, by go_num, rfl, HU2.out, HUM.out, HU9, HF9, Lib.hid (below_drewN HB1.out _), HG1⟩
                        case measure => simp [intOf] <;> omega
            · have hT : cs.take j = cs := List.take_of_length_le (by rw [← HLn.out]; omega)
              have hD : cs.drop j = [] := List.drop_eq_nil_of_le (by rw [← HLn.out]; omega)
              have HF9 : Hid (F = 0) := Lib.hid (by rw [HE5.out, hD]; cases prevC cs j <;> rfl)
              have hjI : ¬ (j : Int) < (ln : Int) := by omega
              have HZ2 : Hid (Z = if u + lo * (mo + 1) ≤ to then 0 else 17) := Lib.hid (by rw [HZ.out, if_neg HE.out, if_neg (Int.not_lt.2 HE4.out), if_pos HF9.out, HU.out, hT])
              have HEnd := Lib.hid (ck_end u lo mo to ⟨m1, m2⟩ hlo hu0)
              have hub : u ≤ 337769972052787200 := by omega
              have hlob : lo ≤ 9223372036854775807 ∨ True := .inr trivial
              clear hT hD hlt
              by_cases f1 : to < u
              · have d1 : decide (to < u) = true := by simpa using f1
                have HT : Hid (Z = 17) := Lib.hid (by rw [HZ2.out, if_neg (fun h => by have := (HEnd.out.1.1 h).1; omega)])
                clear f1 hlob
                go_wp2_with fail
                go_quiet (fail)
                go_wp2_with fail
                go_ret
                rw [HT.out]
                exact ⟨rfl, below_drewN HB.out _⟩
              · have d1 : decide (to < u) = false := by simpa using f1
                obtain ⟨n1, hn1⟩ : ∃ n1, n1 = mo + 1 := ⟨_, rfl⟩
                obtain ⟨e1, he1⟩ : ∃ e1, e1 = to - u := ⟨_, rfl⟩
                obtain ⟨q, hq⟩ : ∃ q, q = e1 / n1 := ⟨_, rfl⟩
                have HQ : Hid (q = (to - u) / (mo + 1)) := Lib.hid (by rw [hq, he1, hn1])
                have w1 : IntKind.i64.wrap (mo + 1) = n1 := by rw [hn1]; simp only [IntKind.wrap_i64]; omega
                have w2 : IntKind.i64.wrap (to - u) = e1 := by rw [he1]; simp only [IntKind.wrap_i64]; omega
                have hn0 : n1 ≠ 0 := by omega
                have hn0b : (n1 == 0) = false := by simpa using hn0
                have he0 : 0 ≤ e1 := by omega
                have hq0 : 0 ≤ q ∧ q ≤ e1 := by rw [hq]; exact ⟨Int.ediv_nonneg he0 (by omega), Int.ediv_le_self _ he0⟩
                have w3 : e1.tdiv n1 = q := by rw [Int.tdiv_eq_ediv_of_nonneg he0, hq]
                have w4 : IntKind.i64.wrap q = q := by simp only [IntKind.wrap_i64]; omega
                have HF1 := Lib.hid f1
                clear f1 hlob hn1 he1 hq he0 hq0
                by_cases f2 : q < lo
                · have d2 : decide (q < lo) = true := by simpa using f2
                  have HT : Hid (Z = 17) := Lib.hid (by rw [HZ2.out, if_neg (fun h => by have := (HEnd.out.1.1 h).2; rw [← HQ.out] at this; omega)])
                  clear f2
                  go_wp2_with fail
                  go_quiet (fail)
                  go_wp2_with fail
                  go_ret
                  rw [HT.out]
                  exact ⟨rfl, below_drewN HB.out _⟩
                · have d2 : decide (q < lo) = false := by simpa using f2
                  have HT : Hid (Z = 0) := Lib.hid (by rw [HZ2.out, if_pos (HEnd.out.1.2 ⟨by have := HF1.out; omega, by rw [← HQ.out]; omega⟩)])
                  clear f2
                  go_wp2_with fail
                  go_quiet (fail)
                  go_wp2_with fail
                  go_ret
                  rw [HT.out]
                  exact ⟨rfl, below_drewN HB.out _⟩
    · have d2 : (decide (0 ≤ to) && decide (to ≤ 1125899906842624)) = false := by simp; omega
      rw [d2]
      clear d2
      have HT : Hid (Z = 2) := Lib.hid (by rw [HZ.out, if_pos (by omega)])
      clear e1 e2
      go_wp2_with fail
      go_ret
      rw [HT.out]
      exact ⟨rfl, HB0.out⟩
  · have d1 : (decide (1 ≤ mo) && decide (mo ≤ 256)) = false := by simp; omega
    rw [d1]
    clear d1
    have HT : Hid (Z = 2) := Lib.hid (by rw [HZ.out, if_pos (by omega)])
    clear e1
    go_wp2_with fail
    go_ret
    rw [HT.out]
    exact ⟨rfl, HB0.out⟩

set_option maxRecDepth 100000 in
set_option maxHeartbeats 8000000 in
theorem lck_any (v : Value) (s : Su) (hl : s.cs.length ≤ 300) (hk : ∀ p ∈ s.cs, p.1.size ≤ 1000000) (hc : ∀ p ∈ s.cs, -9223372036854775808 ≤ p.2 ∧ p.2 ≤ 9223372036854775807) (hm : -9223372036854775808 ≤ s.mo ∧ s.mo ≤ 9223372036854775807) (w : World) (hv : SuW w v s) :
    Calls Try.prog 17 #[v] w fun e w' => e = .returned (.int .i64 (ckS s)) ∧ Below w.heap.size w w' := by
  obtain ⟨mo, to, lo, cs⟩ := s
  obtain ⟨A, c, rfl, hR⟩ := hv
  dsimp only at hl hk hc hm hR ⊢
  have HR := Lib.hid hR
  have HK := Lib.hid hk
  have HC := Lib.hid hc
  obtain ⟨hm1, hm2⟩ := hm
  have HF : Hid (ckL none to cs = ckL none to cs) := Lib.hid rfl
  have HZ : Hid (ckS ⟨mo, to, lo, cs⟩ = if ¬(1 ≤ mo ∧ mo ≤ 256) ∨ ¬(0 ≤ to ∧ to ≤ 1125899906842624) ∨ lo < 0 then 2 else if mo < (cs.length : Int) then 6 else if ckL none to cs = 0 then (if sm cs + lo * (mo + 1) ≤ to then 0 else 17) else ckL none to cs) := Lib.hid rfl
  obtain ⟨Z, hZ⟩ : ∃ Z, Z = ckS ⟨mo, to, lo, cs⟩ := ⟨_, rfl⟩
  rw [← hZ] at HZ ⊢
  obtain ⟨F, hF⟩ : ∃ F, F = ckL none to cs := ⟨_, rfl⟩
  rw [← hF] at HZ
  have HF0 : Hid (F = ckL (prevC cs 0) to (cs.drop 0)) := Lib.hid (by rw [hF]; rfl)
  obtain ⟨ln, hln⟩ : ∃ ln, ln = cs.length := ⟨_, rfl⟩
  have HLn := Lib.hid hln
  rw [← hln] at HZ hl ⊢
  have HSm0 : Hid ((0 : Int) = sm (cs.take 0)) := Lib.hid (by rw [List.take_zero]; rfl)
  have HB0 : Hid (Below w.heap.size w (w.alloc (.cells #[.int .i64 mo, .int .i64 to, .int .i64 lo, .slice A ln c] 24))) := Lib.hid ((Below.refl _ _).alloc (Nat.le_refl _) _)
  have HG0 : Hid ((w.alloc (.cells #[.int .i64 mo, .int .i64 to, .int .i64 lo, .slice A ln c] 24)).heap[w.heap.size]? = some (.cells #[.int .i64 mo, .int .i64 to, .int .i64 lo, .slice A ln c] 24 (0, 0))) := Lib.hid (Deep.blk_alloc_new _ _)
  clear hR hk hc hZ hF hln HF
  go_enter Try.func17, Try.ntmps17
  by_cases e0 : mo < 1
  · have d0 : decide (mo < 1) = true := by simpa using e0
    have HT : Hid (Z = 2) := Lib.hid (by rw [HZ.out, if_pos (by omega)])
    clear e0
    go_wp2_with fail
    go_ret
    rw [HT.out]
    exact ⟨rfl, HB0.out⟩
  · have d0 : decide (mo < 1) = false := by simpa using e0
    by_cases e1 : 256 < mo
    · have d1 : decide (256 < mo) = true := by simpa using e1
      have HT : Hid (Z = 2) := Lib.hid (by rw [HZ.out, if_pos (by omega)])
      clear e0 e1
      go_wp2_with fail
      go_ret
      rw [HT.out]
      exact ⟨rfl, HB0.out⟩
    · have d1 : decide (256 < mo) = false := by simpa using e1
      by_cases e2 : to < 0
      · have d2 : decide (to < 0) = true := by simpa using e2
        have HT : Hid (Z = 2) := Lib.hid (by rw [HZ.out, if_pos (by omega)])
        clear e0 e1 e2
        go_wp2_with fail
        go_ret
        rw [HT.out]
        exact ⟨rfl, HB0.out⟩
      · have d2 : decide (to < 0) = false := by simpa using e2
        by_cases e3 : 1125899906842624 < to
        · have d3 : decide (1125899906842624 < to) = true := by simpa using e3
          have HT : Hid (Z = 2) := Lib.hid (by rw [HZ.out, if_pos (by omega)])
          clear e0 e1 e2 e3
          go_wp2_with fail
          go_ret
          rw [HT.out]
          exact ⟨rfl, HB0.out⟩
        · have d3 : decide (1125899906842624 < to) = false := by simpa using e3
          by_cases e4 : lo < 0
          · have d4 : decide (lo < 0) = true := by simpa using e4
            have HT : Hid (Z = 2) := Lib.hid (by rw [HZ.out, if_pos (by omega)])
            clear e0 e1 e2 e3 e4
            go_wp2_with fail
            go_ret
            rw [HT.out]
            exact ⟨rfl, HB0.out⟩
          · have d4 : decide (lo < 0) = false := by simpa using e4
            have HE : Hid (¬(¬(1 ≤ mo ∧ mo ≤ 256) ∨ ¬(0 ≤ to ∧ to ≤ 1125899906842624) ∨ lo < 0)) := Lib.hid (by omega)
            have hlo : 0 ≤ lo := by omega
            have m1 : 1 ≤ mo := by omega
            have m2 : mo ≤ 256 := by omega
            have t1 : 0 ≤ to := by omega
            have t2 : to ≤ 1125899906842624 := by omega
            clear e0 e1 e2 e3 e4
            by_cases e5 : mo < (ln : Int)
            · have d5 : decide (mo < (ln : Int)) = true := by simpa using e5
              have HT : Hid (Z = 6) := Lib.hid (by rw [HZ.out, if_neg HE.out, if_pos e5])
              clear e5
              go_wp2_with fail
              go_ret
              rw [HT.out]
              exact ⟨rfl, HB0.out⟩
            · have d5 : decide (mo < (ln : Int)) = false := by simpa using e5
              have HE4 : Hid ((ln : Int) ≤ mo) := Lib.hid (by omega)
              clear e5
              go_wp2_with fail
              go_loopw [3, 4] (fun tv iv wr => ∃ (j : Nat) (u : Int), j ≤ ln ∧ iv = .int .i64 (j : Int) ∧ tv = .int .i64 u ∧ 0 ≤ u ∧ u ≤ 1125899906842624 * (j : Int) ∧ Hid (u = sm (cs.take j)) ∧ Hid (F = ckL (prevC cs j) to (cs.drop j)) ∧ Hid (Below w.heap.size w wr) ∧ Hid (wr.heap[w.heap.size]? = some (.cells #[.int .i64 mo, .int .i64 to, .int .i64 lo, .slice A ln c] 24 (0, 0)))) (fun _ iv _ => ln - (intOf iv).toNat)
              case atStart => exact ⟨0, 0, Nat.zero_le _, rfl, rfl, Int.le_refl _, Int.le_refl _, HSm0, HF0, HB0, HG0⟩
              case round =>
                obtain ⟨j, u, hj, rfl, rfl, hu0, hu1, HU, HE5, HB, HG⟩ := hrel
                have hsz := HB.out.size
                have hXl := (Array.getElem?_eq_some_iff.1 HG.out).1
                have y0 := cell_of_row _ _ 0 _ _ _ HG.out
                have y1 := cell_of_row _ _ 1 _ _ _ HG.out
                have y2 := cell_of_row _ _ 2 _ _ _ HG.out
                have y3 := cell_of_row _ _ 3 _ _ _ HG.out
                simp at y0 y1 y2 y3
                by_cases hlt : j < ln
                · have hj2 : j < cs.length := by rw [← HLn.out]; exact hlt
                  have hp := HE5.out
                  rw [ck_step cs to j hj2] at hp
                  have HP := Lib.hid hp
                  clear hp
                  have HUs := Lib.hid (sm_take1 j hj2)
                  obtain ⟨b, off, rfl, hb, h0, h1⟩ := (HR.out.below HB.out).at j hj2
                  have hprev : j = 0 ∨ ∃ q, j = q + 1 ∧ q < ln := by
                    cases j with
                    | zero => exact .inl rfl
                    | succ q => exact .inr ⟨q, rfl, by omega⟩
                  have hkx := HK.out _ (List.getElem_mem hj2)
                  obtain ⟨hc1, hc2⟩ := HC.out _ (List.getElem_mem hj2)
                  obtain ⟨x, hx⟩ : ∃ x, x = cs[j] := ⟨_, rfl⟩
                  rw [← hx] at h0 h1 HP HUs hkx hc1 hc2
                  clear hx hj2
                  obtain ⟨t, m⟩ := x
                  dsimp only at h0 h1 HP HUs hkx hc1 hc2
                  have HNm := Lib.hid (fun W => name_any t hkx W)
                  obtain ⟨nb, hnb⟩ : ∃ nb, nb = nmK t := ⟨_, rfl⟩
                  rw [← hnb] at HNm HP
                  clear hnb HE5
                  have hjl : (j : Int) < (ln : Int) := by omega
                  have hj0 : (0 : Int) ≤ (j : Int) := by omega
                  have hw1 : IntKind.i64.wrap ((j : Int) + 1) = (j : Int) + 1 := by simp only [IntKind.wrap_i64]; omega
                  have HBa := Lib.hid (HB.out.alloc hsz (.cells #[.string t, .int .i64 m] 27))
                  have HKa := Lib.hid (Deep.blk_alloc_new wr (.cells #[.string t, .int .i64 m] 27))
                  have HAa : Hid (Below wr.heap.size wr (wr.alloc (.cells #[.string t, .int .i64 m] 27))) := Lib.hid ((Below.refl _ _).alloc (Nat.le_refl _) _)
                  go_wp2_with fail
                  refine (HNm.out _).mono ?_
                  rintro e w1 ⟨rfl, hb1⟩
                  have HB1 : Hid (Below w.heap.size w w1) := Lib.hid (HBa.out.trans (hb1.mono HBa.out.size))
                  have HA1 : Hid (Below wr.heap.size wr w1) := Lib.hid (HAa.out.trans (hb1.mono HAa.out.size))
                  have HX1 : Hid (w1.heap[wr.heap.size]? = some (.cells #[.string t, .int .i64 m] 27 (0, 0))) := Lib.hid ((hb1.block _ (Array.getElem?_eq_some_iff.1 HKa.out).1).trans HKa.out)
                  have HG1 := Lib.hid ((HA1.out.block _ hXl).trans HG.out)
                  have k0 := cell_of_row w1 wr.heap.size 0 _ _ _ HX1.out
                  have k1 := cell_of_row w1 wr.heap.size 1 _ _ _ HX1.out
                  have z0 := cell_of_row w1 _ 0 _ _ _ HG1.out
                  have z1 := cell_of_row w1 _ 1 _ _ _ HG1.out
                  have z3 := cell_of_row w1 _ 3 _ _ _ HG1.out
                  have hz1 : wr.heap.size < w1.heap.size := (Array.getElem?_eq_some_iff.1 HX1.out).1
                  simp at k0 k1 z0 z1 z3
                  clear hb1 h0 h1 y0 y1 y2 y3
                  cases nb with
                  | false =>
                    have HT : Hid (Z = 11) := Lib.hid (by rw [HZ.out, if_neg HE.out, if_neg (Int.not_lt.2 HE4.out), if_neg (by rw [HP.out, if_pos rfl]; decide), HP.out, if_pos rfl])
                    go_wp2_with fail
                    go_ret
                    rw [HT.out]
                    exact ⟨rfl, HB1.out⟩
                  | true =>
                    rcases hprev with rfl | ⟨q, rfl, hq⟩
                    · have HPc : Hid (F = if m < 1 ∨ to < m then 2 else ckL (prevC cs (0 + 1)) to (cs.drop (0 + 1))) := Lib.hid (by rw [HP.out, if_neg (by decide), if_neg (by simp [prevC])])
                      have hln0 : (0 : Int) < (ln : Int) := by omega
                      by_cases c1 : m < 1
                      · have d1 : decide (m < 1) = true := by simpa using c1
                        have hb1f : (decide (1 ≤ m) && decide (m ≤ to)) = false := by simp; omega
                        have HT : Hid (Z = 2) := Lib.hid (by rw [HZ.out, if_neg HE.out, if_neg (Int.not_lt.2 HE4.out), if_neg (by rw [HPc.out, if_pos (.inl c1)]; decide), HPc.out, if_pos (.inl c1)])
                        clear c1 hb1f
                        go_wp2_with fail
                        go_quiet (fail)
                        go_wp2_with fail
                        go_ret
                        rw [HT.out]
                        exact ⟨rfl, below_drewN HB1.out _⟩
                      · by_cases c2 : to < m
                        · have d1 : decide (m < 1) = false := by simpa using c1
                          have d2 : decide (to < m) = true := by simpa using c2
                          have hb1f : (decide (1 ≤ m) && decide (m ≤ to)) = false := by simp; omega
                          have HT : Hid (Z = 2) := Lib.hid (by rw [HZ.out, if_neg HE.out, if_neg (Int.not_lt.2 HE4.out), if_neg (by rw [HPc.out, if_pos (.inr c2)]; decide), HPc.out, if_pos (.inr c2)])
                          clear c1 c2 hb1f
                          go_wp2_with fail
                          go_quiet (fail)
                          go_wp2_with fail
                          go_ret
                          rw [HT.out]
                          exact ⟨rfl, below_drewN HB1.out _⟩
                        · have d1 : decide (m < 1) = false := by simpa using c1
                          have d2 : decide (to < m) = false := by simpa using c2
                          have hb1t : (decide (1 ≤ m) && decide (m ≤ to)) = true := by simp; omega
                          have HF9 : Hid (F = ckL (prevC cs (0 + 1)) to (cs.drop (0 + 1))) := Lib.hid (by rw [HPc.out, if_neg (by omega)])
                          have hum : u + m ≤ 1125899906842624 * ((0 + 1 : Nat) : Int) := by omega
                          have hu2 : 0 ≤ u + m := by omega
                          have hwu : IntKind.i64.wrap (u + m) = u + m := by simp only [IntKind.wrap_i64]; omega
                          have HU9 : Hid (u + m = sm (cs.take (0 + 1))) := Lib.hid (by rw [HUs.out, ← HU.out])
                          have HUM := Lib.hid hum
                          have HU2 := Lib.hid hu2
                          clear c1 c2 hum hu2
                          clear hb1t
                          go_wp2_with fail
                          go_quiet (fail)
                          go_wp2_with fail
                          go_roundw
                          case rel => exact ⟨0 + 1, u + m, by omega, by go_num, rfl, HU2.out, HUM.out, HU9, HF9, Lib.hid (below_drewN HB1.out _), HG1⟩
                          case measure => simp [intOf] <;> omega
                    · have hq2 : q < cs.length := by rw [← HLn.out]; exact hq
                      obtain ⟨b', off', e, _, g1, g9⟩ := (HR.out.below HB.out).at q hq2
                      simp only [Option.some.injEq, Addr.mk.injEq, and_true] at e
                      obtain ⟨rfl, rfl⟩ := e
                      have hpe := ct_prev q hq2
                      obtain ⟨y, hy⟩ : ∃ y, y = cs[q].1 := ⟨_, rfl⟩
                      rw [← hy] at g1 hpe
                      have g2 := (HA1.out.cell (p := ⟨b, off + q * 2, none⟩) hb).trans g1
                      have HPE := Lib.hid hpe
                      have hm0 : (0 : Int) ≤ (q : Int) := by omega
                      have hml : (q : Int) < (ln : Int) := by omega
                      have hw2 : IntKind.i64.wrap ((q : Int) + 1 - 1) = (q : Int) := by simp only [IntKind.wrap_i64]; omega
                      have hw3 : IntKind.i64.wrap (q : Int) = (q : Int) := by simp only [IntKind.wrap_i64]; omega
                      have hw5 : IntKind.i64.wrap ((q : Int) + 1 + 1) = (q : Int) + 1 + 1 := by simp only [IntKind.wrap_i64]; omega
                      have hpos : (0 : Int) < (q : Int) + 1 := by omega
                      have em : ((q + 1 : Nat) : Int) = (q : Int) + 1 := by omega
                      clear hy hpe g9 hq2 g1
                      cases hord : bl y t with
                      | false =>
                        have HPc : Hid (F = 8) := Lib.hid (by rw [HP.out, if_neg (by decide), HPE.out, if_pos (by simp [hord])])
                        have HT : Hid (Z = 8) := Lib.hid (by rw [HZ.out, if_neg HE.out, if_neg (Int.not_lt.2 HE4.out), if_neg (by rw [HPc.out]; decide), HPc.out])
                        cases hty : bl t y with
                        | true =>
                          have hd : Op.bytesLess t.toList y.toList = true := hty
                          clear hord hty
                          go_wp2_with fail
                          go_quiet (fail)
                          go_wp2_with fail
                          go_ret
                          rw [HT.out]
                          exact ⟨rfl, below_drewN HB1.out _⟩
                        | false =>
                          have hd : Op.bytesLess t.toList y.toList = false := hty
                          have hd2 : (t.toList == y.toList) = true := by
                            rcases bl_tri t y with h | h | h
                            · rw [h] at hty; cases hty
                            · rw [h]; simp
                            · rw [h] at hord; cases hord
                          clear hord hty
                          go_wp2_with fail
                          go_quiet (fail)
                          go_wp2_with fail
                          go_ret
                          rw [HT.out]
                          exact ⟨rfl, below_drewN HB1.out _⟩
                      | true =>
                        have hd : Op.bytesLess t.toList y.toList = false := bl_asymm hord
                        have hd2 : (t.toList == y.toList) = false := (Lib.bytes_beq_false_iff t y).2 (fun e => by rw [e, bl_irrefl] at hord; cases hord)
                        have HPc : Hid (F = if m < 1 ∨ to < m then 2 else ckL (prevC cs (q + 1 + 1)) to (cs.drop (q + 1 + 1))) := Lib.hid (by rw [HP.out, if_neg (by decide), HPE.out, if_neg (by simp [hord])])
                        clear hord
                        by_cases c1 : m < 1
                        · have d1 : decide (m < 1) = true := by simpa using c1
                          have hb1f : (decide (1 ≤ m) && decide (m ≤ to)) = false := by simp; omega
                          have HT : Hid (Z = 2) := Lib.hid (by rw [HZ.out, if_neg HE.out, if_neg (Int.not_lt.2 HE4.out), if_neg (by rw [HPc.out, if_pos (.inl c1)]; decide), HPc.out, if_pos (.inl c1)])
                          clear c1 hb1f
                          go_wp2_with fail
                          go_quiet (fail)
                          go_wp2_with fail
                          go_ret
                          rw [HT.out]
                          exact ⟨rfl, below_drewN HB1.out _⟩
                        · by_cases c2 : to < m
                          · have d1 : decide (m < 1) = false := by simpa using c1
                            have d2 : decide (to < m) = true := by simpa using c2
                            have hb1f : (decide (1 ≤ m) && decide (m ≤ to)) = false := by simp; omega
                            have HT : Hid (Z = 2) := Lib.hid (by rw [HZ.out, if_neg HE.out, if_neg (Int.not_lt.2 HE4.out), if_neg (by rw [HPc.out, if_pos (.inr c2)]; decide), HPc.out, if_pos (.inr c2)])
                            clear c1 c2 hb1f
                            go_wp2_with fail
                            go_quiet (fail)
                            go_wp2_with fail
                            go_ret
                            rw [HT.out]
                            exact ⟨rfl, below_drewN HB1.out _⟩
                          · have d1 : decide (m < 1) = false := by simpa using c1
                            have d2 : decide (to < m) = false := by simpa using c2
                            have hb1t : (decide (1 ≤ m) && decide (m ≤ to)) = true := by simp; omega
                            have HF9 : Hid (F = ckL (prevC cs ((q + 1) + 1)) to (cs.drop ((q + 1) + 1))) := Lib.hid (by rw [HPc.out, if_neg (by omega)])
                            have hum : u + m ≤ 1125899906842624 * (((q + 1) + 1 : Nat) : Int) := by omega
                            have hu2 : 0 ≤ u + m := by omega
                            have hwu : IntKind.i64.wrap (u + m) = u + m := by simp only [IntKind.wrap_i64]; omega
                            have HU9 : Hid (u + m = sm (cs.take ((q + 1) + 1))) := Lib.hid (by rw [HUs.out, ← HU.out])
                            have HUM := Lib.hid hum
                            have HU2 := Lib.hid hu2
                            clear c1 c2 hum hu2
                            clear hb1t
                            go_wp2_with fail
                            go_quiet (fail)
                            go_wp2_with fail
                            go_roundw
                            case rel => exact ⟨(q + 1) + 1, u + m, by omega, by go_num, rfl, HU2.out, HUM.out, HU9, HF9, Lib.hid (below_drewN HB1.out _), HG1⟩
                            case measure => simp [intOf] <;> omega
                · have hT : cs.take j = cs := List.take_of_length_le (by rw [← HLn.out]; omega)
                  have hD : cs.drop j = [] := List.drop_eq_nil_of_le (by rw [← HLn.out]; omega)
                  have HF9 : Hid (F = 0) := Lib.hid (by rw [HE5.out, hD]; cases prevC cs j <;> rfl)
                  have hjI : ¬ (j : Int) < (ln : Int) := by omega
                  have HZ2 : Hid (Z = if u + lo * (mo + 1) ≤ to then 0 else 17) := Lib.hid (by rw [HZ.out, if_neg HE.out, if_neg (Int.not_lt.2 HE4.out), if_pos HF9.out, HU.out, hT])
                  have HEnd := Lib.hid (ck_end u lo mo to ⟨m1, m2⟩ hlo hu0)
                  have hub : u ≤ 337769972052787200 := by omega
                  have hlob : lo ≤ 9223372036854775807 ∨ True := .inr trivial
                  clear hT hD hlt
                  by_cases f1 : to < lo
                  · have d1 : decide (to < lo) = true := by simpa using f1
                    have HT : Hid (Z = 17) := Lib.hid (by rw [HZ2.out, if_neg (fun h => by have := HEnd.out.2 h; omega)])
                    clear f1 hlob
                    go_wp2_with fail
                    go_ret
                    rw [HT.out]
                    exact ⟨rfl, HB.out⟩
                  · have d1 : decide (to < lo) = false := by simpa using f1
                    obtain ⟨n1, hn1⟩ : ∃ n1, n1 = mo + 1 := ⟨_, rfl⟩
                    obtain ⟨r, hr⟩ : ∃ r, r = lo * n1 := ⟨_, rfl⟩
                    have hr0 : 0 ≤ r ∧ r ≤ 1125899906842624 * 257 := by
                      rw [hr]
                      refine ⟨Int.mul_nonneg hlo (by omega), ?_⟩
                      have h1 := Int.mul_le_mul_of_nonneg_left (show n1 ≤ 257 by omega) hlo
                      omega
                    have w1 : IntKind.i64.wrap (mo + 1) = n1 := by rw [hn1]; simp only [IntKind.wrap_i64]; omega
                    have w2 : IntKind.i64.wrap (lo * n1) = r := by rw [← hr]; simp only [IntKind.wrap_i64]; omega
                    obtain ⟨g, hg⟩ : ∃ g, g = u + r := ⟨_, rfl⟩
                    have w3 : IntKind.i64.wrap (u + r) = g := by rw [hg]; simp only [IntKind.wrap_i64]; omega
                    have HZ3 : Hid (Z = if g ≤ to then 0 else 17) := Lib.hid (by rw [HZ2.out, hg, hr, hn1])
                    clear f1 hlob hn1 hr hr0 hg
                    by_cases f2 : to < g
                    · have d2 : decide (to < g) = true := by simpa using f2
                      have HT : Hid (Z = 17) := Lib.hid (by rw [HZ3.out, if_neg (by omega)])
                      clear f2
                      go_wp2_with fail
                      go_ret
                      rw [HT.out]
                      exact ⟨rfl, HB.out⟩
                    · have d2 : decide (to < g) = false := by simpa using f2
                      have HT : Hid (Z = 0) := Lib.hid (by rw [HZ3.out, if_pos (by omega)])
                      clear f2
                      go_wp2_with fail
                      go_ret
                      rw [HT.out]
                      exact ⟨rfl, HB.out⟩

end Go.Proofs.Ytnpjakgdfjaglaa
