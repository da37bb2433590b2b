/- The law's top (written by wip/bin/gen_hn22.py). -/
import Derived.Test.YtnpjakgdfjaglaaHt
import Derived.Test.YtnpjakgdfjaglaaGz
import Derived.Deep.DeepCutAuto
import Derived.Deep.CutBlock
import Derived.BigQuiet
import Derived.Deep.Onto
namespace Go.Proofs.Ytnpjakgdfjaglaa
open Go.ChangeShapes Go.WideShapes Go.ChangeAt Go.RowKit Go.Joins

set_option maxRecDepth 100000 in
set_option maxHeartbeats 16000000 in
theorem top_any (v : Value) (L : List Ct) (hl : L.length ≤ 1000) (w : World) (hv : SlV w v L) :
    Calls Try.prog 35 #[v] w fun e w' => (∃ u, e = .returned u ∧ w'.ownsRow w.heap.size 27 2 u L.length (ctCells (topL L))) ∧ Below w.heap.size w w' := by
  obtain ⟨i0, hi0, hz0, hz1, hz2⟩ := info_parts2 ct_info
  have Hi0 := Lib.hid hi0
  have Hz0 := Lib.hid hz0
  have Hz1 := Lib.hid hz1
  have Hz2 := Lib.hid hz2
  obtain ⟨A, c, rfl, _, _, hR⟩ := hv
  have HR := Lib.hid hR
  obtain ⟨ln, hln⟩ : ∃ ln, ln = L.length := ⟨_, rfl⟩
  have HLn := Lib.hid hln
  rw [← hln] at hl ⊢
  clear hR hi0 hz0 hz1 hz2 hln
  go_enter Try.func35, Try.ntmps35
  go_wp2_with fail
  go_loopw [3, 4, 5] (fun u iv _kv wr => ∃ j : Nat, j ≤ ln ∧ iv = .int .i64 (j : Int) ∧ Hid (wr.ownsRow w.heap.size 27 2 u j (ctCells (topL (L.take j)))) ∧ Hid (Below w.heap.size w wr)) (fun _ iv _ _ => ln - (intOf iv).toNat)
  case atStart => exact ⟨0, Nat.zero_le _, rfl, Lib.hid (by rw [List.take_zero]; exact own_nilc _ _), Lib.hid (Below.refl _ _)⟩
  case round =>
    obtain ⟨j, hj, rfl, HO, HB⟩ := hrel
    have hj0 : (0 : Int) ≤ (j : Int) := by omega
    by_cases hlt : j < ln
    · have hj2 : j < L.length := by rw [← HLn.out]; exact hlt
      obtain ⟨b, off, rfl, hb, h0, h1⟩ := (HR.out.below HB.out).at j hj2
      have hrb : b < w.heap.size := by
        obtain ⟨b', o', e, hl', _⟩ := HR.out.at j hj2
        injection e with e
        injection e with e1 e2
        omega
      have HRb := Lib.hid hrb
      have HC0 : Hid (∀ W, Below w.heap.size w W → W.cell? ⟨b, off + j * 2, none⟩ = some (.string L[j].1) ∧ W.cell? ⟨b, off + j * 2 + 1, none⟩ = some (.int .i64 L[j].2)) := Lib.hid (fun W hW => by
        obtain ⟨b', o', e, hl', k0, k1⟩ := HR.out.at j hj2
        injection e with e
        injection e with e1 e2
        subst e1 e2
        exact ⟨(hW.cell (p := ⟨b, off + j * 2, none⟩) hrb).trans k0, (hW.cell (p := ⟨b, off + j * 2 + 1, none⟩) hrb).trans k1⟩)
      have HT1 : Hid (topL (L.take (j + 1)) = insR (topL (L.take j)) L[j]) := Lib.hid (by rw [List.take_succ_eq_append_getElem hj2, top_snoc])
      have hdl : (topL (L.take j)).length = j := by rw [top_len, List.length_take]; omega
      obtain ⟨x, hx⟩ : ∃ x, x = L[j] := ⟨_, rfl⟩
      rw [← hx] at HC0 HT1
      clear hx h0 h1 hj2 hb
      obtain ⟨t, m⟩ := x
      dsimp only at HC0
      obtain ⟨D, hD⟩ : ∃ D, D = topL (L.take j) := ⟨_, rfl⟩
      rw [← hD] at HO HT1 hdl
      clear hD
      have HDl := Lib.hid hdl
      have HIn : Hid (∀ k, k ≤ j → (∀ i (hi : i < D.length), i < k → rkl D[i] (t, m) = true) → (∀ (hl : k < D.length), rkl D[k] (t, m) = false) → topL (L.take (j + 1)) = D.take k ++ (t, m) :: D.drop k) := Lib.hid (fun k hk h1 h2 => by rw [HT1.out]; exact insR_at k (by rw [hdl]; exact hk) h1 h2)
      have h9 : ∃ A' c', u3 = Value.slice A' j c' ∧ j ≤ c' ∧ (A' = none → c' = 0) ∧ CR wr A' D := by
        obtain ⟨A', c', e, q1, q2, q3⟩ := SlV.own HO.out
        rw [hdl] at e q1
        exact ⟨A', c', e, q1, q2, q3⟩
      obtain ⟨A2, c2, rfl, hjc, hnl, hR2⟩ := h9
      have HR2 := Lib.hid hR2
      have HNl := Lib.hid hnl
      have hjI : (j : Int) < (ln : Int) := by omega
      have hw1 : IntKind.i64.wrap ((j : Int) + 1) = (j : Int) + 1 := by simp only [IntKind.wrap_i64]; omega
      clear hR2 hnl hdl hrb
      go_upto_block 2 with fail
      go_cut [5] from 12 to 56 (fun s5 wx => ∃ k : Nat, k ≤ j ∧ s5 = .int .i64 (k : Int) ∧ Hid (∀ i (hi : i < D.length), i < k → rkl D[i] (t, m) = true) ∧ Hid (∀ (hl : k < D.length), rkl D[k] (t, m) = false) ∧ Hid (wx.ownsRow w.heap.size 27 2 (.slice A2 j c2) j (ctCells D)) ∧ Hid (Below w.heap.size w wx))
      case first =>
        go_wp2_with fail
        go_loopw [5] (fun kv wq => ∃ k : Nat, k ≤ j ∧ kv = .int .i64 (k : Int) ∧ Hid (∀ i (hi : i < D.length), i < k → rkl D[i] (t, m) = true) ∧ Hid (wq.ownsRow w.heap.size 27 2 (.slice A2 j c2) j (ctCells D)) ∧ Hid (Below w.heap.size w wq)) (fun kv _ => j - (intOf kv).toNat)
        case atStart => exact ⟨0, Nat.zero_le _, rfl, Lib.hid (fun i _ h => absurd h (by omega)), HO, HB⟩
        case round =>
          obtain ⟨k, hk, rfl, HN, HOq, HBq⟩ := hrel
          have hk0 : (0 : Int) ≤ (k : Int) := by omega
          by_cases hkj : k < j
          · have hkD : k < D.length := by rw [HDl.out]; exact hkj
            have h9 : CR wr A2 D := by
              obtain ⟨A', c', e, _, _, q3⟩ := SlV.own HOq.out
              injection e with e1 _ _
              subst e1
              exact q3
            obtain ⟨g, og, rfl, hg, f0, f1⟩ := h9.at k hkD
            clear h9
            obtain ⟨g0, g1⟩ := HC0.out _ HBq.out
            obtain ⟨x, hx⟩ : ∃ x, x = D[k] := ⟨_, rfl⟩
            have HNx : Hid (rkl x (t, m) = true → ∀ i (hi : i < D.length), i < k + 1 → rkl D[i] (t, m) = true) := Lib.hid (fun hne i hi h => by
              by_cases e : i = k
              · subst e; rw [← hx]; exact hne
              · exact HN.out i hi (by omega))
            have HFx : Hid (rkl x (t, m) = false → ∀ (hl : k < D.length), rkl D[k] (t, m) = false) := Lib.hid (fun h _ => by rw [← hx]; exact h)
            rw [← hx] at f0 f1
            clear hx hkD
            obtain ⟨s, n⟩ := x
            dsimp only at f0 f1
            have hkI : (k : Int) < (j : Int) := by omega
            have hwk : IntKind.i64.wrap ((k : Int) + 1) = (k : Int) + 1 := by simp only [IntKind.wrap_i64]; omega
            have hbq : b < wr.heap.size := Nat.lt_of_lt_of_le HRb.out HBq.out.size
            by_cases e1 : m < n
            · have d1 : decide (m < n) = true := by simpa using e1
              have HN2 := Lib.hid (HNx.out (by unfold rkl; simp [e1]))
              clear e1
              go_wp2_with fail
              go_quiet (fail)
              go_wp2_with fail
              go_roundw
              case rel => exact ⟨k + 1, by omega, by go_num, HN2, HOq, Lib.hid (below_drewN HBq.out _)⟩
              case measure => simp [intOf] <;> omega
            · have d1 : decide (m < n) = false := by simpa using e1
              by_cases e2 : n = m
              · subst e2
                have d2 : (n == n) = true := by simp
                cases e3 : bl s t with
                | true =>
                  have d3 : Op.bytesLess s.toList t.toList = true := e3
                  have HN2 := Lib.hid (HNx.out (by unfold rkl; simp [e3]))
                  clear e3 e1
                  go_wp2_with fail
                  go_quiet (fail)
                  go_wp2_with fail
                  go_roundw
                  case rel => exact ⟨k + 1, by omega, by go_num, HN2, HOq, Lib.hid (below_drewN HBq.out _)⟩
                  case measure => simp [intOf] <;> omega
                | false =>
                  have d3 : Op.bytesLess s.toList t.toList = false := e3
                  have HF := Lib.hid (HFx.out (by unfold rkl; simp [e3]))
                  clear e3 e1
                  go_wp2_with fail
                  go_quiet (fail)
                  go_wp2_with fail
                  go_meet
                  exact ⟨k, hk, rfl, HN, HF, HOq, Lib.hid (below_drewN HBq.out _)⟩
              · have d2 : (n == m) = false := by simpa using e2
                have HF := Lib.hid (HFx.out (by unfold rkl; simp [e1]; intro h; exact absurd (by first | exact h | exact h.symm) e2))
                clear e1 e2
                go_wp2_with fail
                go_quiet (fail)
                go_wp2_with fail
                go_meet
                exact ⟨k, hk, rfl, HN, HF, HOq, Lib.hid (below_drewN HBq.out _)⟩
          · have hkI : ¬ (k : Int) < (j : Int) := by omega
            have HF : Hid (∀ (hl : k < D.length), rkl D[k] (t, m) = false) := Lib.hid (fun h => absurd h (by rw [HDl.out]; omega))
            go_wp2_with fail
            go_quiet (fail)
            go_wp2_with fail
            go_meet
            exact ⟨k, hk, rfl, HN, HF, HOq, Lib.hid (below_drewN HBq.out _)⟩
      case rest =>
        obtain ⟨k, hk, rfl, HN, HF, HOx, HBx⟩ := hcut
        have HT9 := Lib.hid (HIn.out k hk HN.out HF.out)
        have hk0 : (0 : Int) ≤ (k : Int) := by omega
        have hkI : (k : Int) ≤ (j : Int) := by omega
        obtain ⟨g0, g1⟩ := HC0.out _ HBx.out
        have hbq : b < wc.heap.size := Nat.lt_of_lt_of_le HRb.out HBx.out.size
        have HRx : Hid (CR wc A2 D) := Lib.hid (by
          obtain ⟨A', c', e, _, _, q3⟩ := SlV.own HOx.out
          injection e with e1 _ _
          subst e1; exact q3)
        have h9 : (A2 = none ∧ c2 = 0 ∧ j = 0) ∨ ∃ g2, A2 = some ⟨g2, 0, none⟩ := by
          rcases HOx.out.2 with ⟨e, ej⟩ | ⟨g, cap, cur, e, _⟩
          · injection e with e1 e2 e3
            exact .inl ⟨e1, e3, ej⟩
          · injection e with e1 e2 e3
            exact .inr ⟨g, e1⟩
        rcases h9 with ⟨rfl, rfl, rfl⟩ | ⟨g2, rfl⟩
        · obtain rfl : k = 0 := by omega
          have HDd : Hid (D.drop 0 = []) := Lib.hid (List.drop_eq_nil_of_le (by rw [HDl.out]; omega))
          simp only [Nat.zero_mul, Nat.add_zero] at g0 g1
          go_wp2_with fail
          have HB1 : Hid (Below wc.heap.size wc (wc.alloc (.cells #[.string t, .int .i64 m] 27)).drew) := Lib.hid (((Below.refl _ _).alloc (Nat.le_refl _) _).drew)
          go_region_law ((first
            | (refine step_append_ct rfl (.tmp 65) (.tmp 68) rfl wc.heap.size (.slice (some ⟨wc.heap.size, 0, none⟩) 1 1) 1 [(t, m)] (by simp [Act.eval]) (own_builtc _ _ _) none (0) (0) (by simp [Act.eval]) (D.drop 0) (by first | (simp; done) | (rw [HDd.out]; rfl) | (rw [List.length_drop, HDl.out])) (fun h => by first | omega | cases h) (by omega) (by rw [HDd.out]; exact CR.nil) (by omega) (by simp) ?_; intro v1 w2 hown1 hg1; obtain ⟨g1, c1, rfl, hcells1⟩ := own_posc hown1 (by omega); have HC1 := Lib.hid hcells1; have HB2 := Lib.hid (grown_onto HB1.out (own_builtc _ _ _) hg1); clear hown1 hg1 hcells1)
            | (refine step_append_grows rfl (.tmp 60) (.tmp 69) 22 rfl 27 i0 _ 2 24 Try.underlying22 Hi0.out Hz0.out Hz1.out Hz2.out rfl (by omega) none (0) (0) (ctCells (D.take 0)) (by simp [Act.eval]) (fun h => by first | exact ⟨by omega, by omega⟩ | cases h) (by rw [ct_len, List.length_take, HDl.out]; omega) (fun b e => nomatch e) ⟨g1, 0, none⟩ (1 + (0)) c1 (ctCells ([(t, m)] ++ D.drop 0)) (by simp [Act.eval]) (by rw [ct_len]; first | (rw [HDd.out]; rfl) | (simp; done) | (rw [List.length_append, List.length_drop, HDl.out]; done) | (rw [List.length_append, List.length_drop, HDl.out]; rfl) | (rw [List.length_append, List.length_drop, HDl.out]; simp; done)) HC1.out (ct_one _) (by omega) (by unfold maxLen; omega) (by omega) ?_; intro v2 w3 hown2 hg2; have HB3 := Lib.hid (grown_free HB2.out hg2); have HO2 := Lib.hid (hown2.mono (Nat.le_trans HBx.out.size HB2.out.size)); clear hown2 hg2)))
          have HO3 : Hid (w3.ownsRow w.heap.size 27 2 v2 (0 + 1) (ctCells (topL (L.take (0 + 1))))) := Lib.hid (by
            have h := HO2.out
            have e9 : 0 + (1 + (0)) = 0 + 1 := by omega
            rw [← ct_app, e9, show D.take 0 ++ ([(t, m)] ++ D.drop 0) = topL (L.take (0 + 1)) by rw [HT9.out]; rfl] at h
            exact h)
          have HB4 := Lib.hid (HBx.out.trans (HB3.out.mono HBx.out.size))
          clear HO2 HB3 HB2 HC1
          obtain ⟨g7, c7, rfl⟩ := ownsRow_form HO3.out (by omega)
          go_wp2_with fail
          go_roundw
          case rel => exact ⟨0 + 1, by omega, by go_num, HO3, HB4⟩
          case measure => simp [intOf] <;> omega
        · have hkc : k ≤ c2 := by omega
          by_cases hcm2 : c2 = k
          · obtain rfl : j = k := by omega
            obtain rfl : j = c2 := by omega
            have HDd : Hid (D.drop j = []) := Lib.hid (List.drop_eq_nil_of_le (by rw [HDl.out]; omega))
            clear hcm2
            go_wp2_with fail
            have HB1 : Hid (Below wc.heap.size wc (wc.alloc (.cells #[.string t, .int .i64 m] 27)).drew) := Lib.hid (((Below.refl _ _).alloc (Nat.le_refl _) _).drew)
            go_region_law ((first
              | (refine step_append_ct rfl (.tmp 65) (.tmp 68) rfl wc.heap.size (.slice (some ⟨wc.heap.size, 0, none⟩) 1 1) 1 [(t, m)] (by simp [Act.eval]) (own_builtc _ _ _) (some ⟨g2, 0, none⟩) (0) (0) (by simp [Act.eval]) (D.drop j) (by first | (simp; done) | (rw [HDd.out]; rfl) | (rw [List.length_drop, HDl.out])) (fun h => by first | omega | cases h) (by omega) (by rw [HDd.out]; exact CR.nil) (by omega) (by simp) ?_; intro v1 w2 hown1 hg1; obtain ⟨g1, c1, rfl, hcells1⟩ := own_posc hown1 (by omega); have HC1 := Lib.hid hcells1; have HB2 := Lib.hid (grown_onto HB1.out (own_builtc _ _ _) hg1); clear hown1 hg1 hcells1)
              | (refine step_append_grows rfl (.tmp 60) (.tmp 69) 22 rfl 27 i0 _ 2 24 Try.underlying22 Hi0.out Hz0.out Hz1.out Hz2.out rfl (by omega) (some ⟨g2, 0, none⟩) (j) (j) (ctCells (D.take j)) (by simp [Act.eval]) (fun h => by first | exact ⟨by omega, by omega⟩ | cases h) (by rw [ct_len, List.length_take, HDl.out]; omega) (fun b e => cr_cells ((HRx.out.below HB2.out).take j) b e) ⟨g1, 0, none⟩ (1 + (0)) c1 (ctCells ([(t, m)] ++ D.drop j)) (by simp [Act.eval]) (by rw [ct_len]; first | (rw [HDd.out]; rfl) | (simp; done) | (rw [List.length_append, List.length_drop, HDl.out]; done) | (rw [List.length_append, List.length_drop, HDl.out]; rfl) | (rw [List.length_append, List.length_drop, HDl.out]; simp; done)) HC1.out (ct_one _) (by omega) (by unfold maxLen; omega) (by omega) ?_; intro v2 w3 hown2 hg2; have HB3 := Lib.hid (grown_free HB2.out hg2); have HO2 := Lib.hid (hown2.mono (Nat.le_trans HBx.out.size HB2.out.size)); clear hown2 hg2)))
            have HO3 : Hid (w3.ownsRow w.heap.size 27 2 v2 (j + 1) (ctCells (topL (L.take (j + 1))))) := Lib.hid (by
              have h := HO2.out
              have e9 : j + (1 + (0)) = j + 1 := by omega
              rw [← ct_app, e9, show D.take j ++ ([(t, m)] ++ D.drop j) = topL (L.take (j + 1)) by rw [HT9.out]; rfl] at h
              exact h)
            have HB4 := Lib.hid (HBx.out.trans (HB3.out.mono HBx.out.size))
            clear HO2 HB3 HB2 HC1
            obtain ⟨g7, c7, rfl⟩ := ownsRow_form HO3.out (by omega)
            go_wp2_with fail
            go_roundw
            case rel => exact ⟨j + 1, by omega, by go_num, HO3, HB4⟩
            case measure => simp [intOf] <;> omega
          · have HDd : Hid True := Lib.hid trivial
            go_wp2_with fail
            have HB1 : Hid (Below wc.heap.size wc (wc.alloc (.cells #[.string t, .int .i64 m] 27)).drew) := Lib.hid (((Below.refl _ _).alloc (Nat.le_refl _) _).drew)
            go_region_law ((first
              | (refine step_append_ct rfl (.tmp 65) (.tmp 68) rfl wc.heap.size (.slice (some ⟨wc.heap.size, 0, none⟩) 1 1) 1 [(t, m)] (by simp [Act.eval]) (own_builtc _ _ _) (some ⟨g2, 0 + k * 2, none⟩) (j - k) (c2 - k) (by simp [Act.eval]) (D.drop k) (by first | (simp; done) | (rw [HDd.out]; rfl) | (rw [List.length_drop, HDl.out])) (fun h => by first | omega | cases h) (by omega) (cr_drop (HRx.out.below HB1.out) k) (by omega) (by simp) ?_; intro v1 w2 hown1 hg1; obtain ⟨g1, c1, rfl, hcells1⟩ := own_posc hown1 (by omega); have HC1 := Lib.hid hcells1; have HB2 := Lib.hid (grown_onto HB1.out (own_builtc _ _ _) hg1); clear hown1 hg1 hcells1)
              | (refine step_append_grows rfl (.tmp 60) (.tmp 69) 22 rfl 27 i0 _ 2 24 Try.underlying22 Hi0.out Hz0.out Hz1.out Hz2.out rfl (by omega) (some ⟨g2, 0, none⟩) (k) (k) (ctCells (D.take k)) (by simp [Act.eval]) (fun h => by first | exact ⟨by omega, by omega⟩ | cases h) (by rw [ct_len, List.length_take, HDl.out]; omega) (fun b e => cr_cells ((HRx.out.below HB2.out).take k) b e) ⟨g1, 0, none⟩ (1 + (j - k)) c1 (ctCells ([(t, m)] ++ D.drop k)) (by simp [Act.eval]) (by rw [ct_len]; first | (rw [HDd.out]; rfl) | (simp; done) | (rw [List.length_append, List.length_drop, HDl.out]; done) | (rw [List.length_append, List.length_drop, HDl.out]; rfl) | (rw [List.length_append, List.length_drop, HDl.out]; simp; done)) HC1.out (ct_one _) (by omega) (by unfold maxLen; omega) (by omega) ?_; intro v2 w3 hown2 hg2; have HB3 := Lib.hid (grown_free HB2.out hg2); have HO2 := Lib.hid (hown2.mono (Nat.le_trans HBx.out.size HB2.out.size)); clear hown2 hg2)))
            have HO3 : Hid (w3.ownsRow w.heap.size 27 2 v2 (j + 1) (ctCells (topL (L.take (j + 1))))) := Lib.hid (by
              have h := HO2.out
              have e9 : k + (1 + (j - k)) = j + 1 := by omega
              rw [← ct_app, e9, show D.take k ++ ([(t, m)] ++ D.drop k) = topL (L.take (j + 1)) by rw [HT9.out]; rfl] at h
              exact h)
            have HB4 := Lib.hid (HBx.out.trans (HB3.out.mono HBx.out.size))
            clear HO2 HB3 HB2 HC1
            obtain ⟨g7, c7, rfl⟩ := ownsRow_form HO3.out (by omega)
            go_wp2_with fail
            go_roundw
            case rel => exact ⟨j + 1, by omega, by go_num, HO3, HB4⟩
            case measure => simp [intOf] <;> omega
    · have hT : L.take j = L := List.take_of_length_le (by rw [← HLn.out]; omega)
      rw [hT] at HO
      obtain rfl : j = ln := by omega
      have hjI : ¬ (j : Int) < (j : Int) := by omega
      clear hT
      go_wp2_with fail
      go_ret
      exact ⟨⟨_, rfl, HO.out⟩, HB.out⟩
end Go.Proofs.Ytnpjakgdfjaglaa
