/- merge. -/
import Derived.Test.YtacgomhegjilgaaBq
namespace Go.Proofs.Ytacgomhegjilgaa
open Go.ChangeShapes Go.WideShapes Go.ChangeAt Go.RowKit Ts

theorem nrm_len {N : List Iv} (hN : Nrm N) (lo hi : Int) (h : ∀ x ∈ N, lo ≤ x.1 ∧ x.2 ≤ hi) (hlh : lo ≤ hi) : 2 * (N.length : Int) ≤ hi - lo + 1 := by
  induction N generalizing lo with
  | nil => simp; omega
  | cons x T ih =>
    obtain ⟨a, b⟩ := h x (List.mem_cons_self ..)
    have c := hN.1 x (List.mem_cons_self ..)
    obtain ⟨d, e⟩ := List.pairwise_cons.1 hN.2
    by_cases hT : T = []
    · subst hT; simp; omega
    · obtain ⟨y, hy⟩ := List.exists_mem_of_ne_nil T hT
      have hy1 := d y hy
      have hy2 := h y (List.mem_cons_of_mem _ hy)
      have hy3 := hN.1 y (List.mem_cons_of_mem _ hy)
      have := ih ⟨fun z hz => hN.1 z (List.mem_cons_of_mem _ hz), e⟩ (x.2 + 1) (fun z hz => ⟨by have := d z hz; omega, (h z (List.mem_cons_of_mem _ hz)).2⟩) (by omega)
      rw [List.length_cons]
      push_cast
      omega
/-- What has been kept are rows. -/
theorem kp_row {f : Bool → Bool → Bool} {A B N : List Iv} {row : Int} (h : Kp f A B row N) (hff : f false false = false) (hr : row ≤ 1048576) (hA0 : ∀ n, In n A → 0 ≤ n) (hB0 : ∀ n, In n B → 0 ≤ n) :
    ∀ n, In n N → isR n = true := fun n hn => by
  obtain ⟨a, b⟩ := (h.mem n).1 hn
  have h0 : 0 ≤ n := by
    cases ea : has n A with
    | true => exact hA0 n ((has_in n A).1 ea)
    | false =>
      cases eb : has n B with
      | true => exact hB0 n ((has_in n B).1 eb)
      | false => rw [ea, eb, hff] at b; cases b
  unfold isR
  simp only [Bool.and_eq_true, decide_eq_true_eq]
  omega
theorem kp_len {f : Bool → Bool → Bool} {A B N : List Iv} {row : Int} (h : Kp f A B row N) (hr : ∀ n, In n N → isR n = true) : N.length ≤ 600000 := by
  have := nrm_len h.nrm 0 1048576 (fun x hx => by
    have a := nrm_rn h.nrm hr (rx x) (List.mem_map.2 ⟨x, hx, rfl⟩)
    simp only [rx] at a
    omega) (by decide)
  omega
theorem kp_zero {f : Bool → Bool → Bool} {A B : List Iv} (hff : f false false = false) (hA0 : ∀ n, In n A → 0 ≤ n) (hB0 : ∀ n, In n B → 0 ≤ n) : Kp f A B 0 [] := by
  refine ⟨⟨by simp, List.Pairwise.nil⟩, fun n => ⟨fun ⟨x, hx, _⟩ => (by cases hx), fun ⟨a, b⟩ => ?_⟩⟩
  exfalso
  cases ea : has n A with
  | true => have := hA0 n ((has_in n A).1 ea); omega
  | false =>
    cases eb : has n B with
    | true => have := hB0 n ((has_in n B).1 eb); omega
    | false => rw [ea, eb, hff] at b; cases b
theorem kp_end {f : Bool → Bool → Bool} {A B N : List Iv} {row : Int} (h : Kp f A B row N) (hff : f false false = false) (ha : Lf A row []) (hb : Lf B row []) : ∀ n, In n N ↔ f (has n A) (has n B) = true := fun n => by
  rw [h.mem n]
  refine ⟨fun x => x.2, fun x => ⟨?_, x⟩⟩
  by_cases hn : n < row
  · exact hn
  · exfalso
    have e1 : has n A = false := by
      rw [Bool.eq_false_iff]; intro e
      obtain ⟨y, hy, _⟩ := (ha.left n (by omega)).1 e
      cases hy
    have e2 : has n B = false := by
      rw [Bool.eq_false_iff]; intro e
      obtain ⟨y, hy, _⟩ := (hb.left n (by omega)).1 e
      cases hy
    rw [e1, e2, hff] at x
    cases x
theorem step_all {f : Bool → Bool → Bool} {A B X Y N : List Iv} {row : Int} (HX : Lf A row X) (HY : Lf B row Y) (HN : Kp f A B row N) (hr : row < 1048576) {P Q : Bool × Int} (hP : P = stc row (rn X)) (hQ : Q = stc row (rn Y)) (en : Int) (he : en = min P.2 Q.2) :
    (row < en ∧ en ≤ 1048576) ∧ ∃ X' Y', (skp en (rn X) = rn X' ∧ skp en (rn Y) = rn Y') ∧ (Lf A en X' ∧ Lf B en Y') ∧ (X'.length ≤ X.length ∧ Y'.length ≤ Y.length) ∧ Kp f A B en (if f P.1 Q.1 = true then jn N (row, en) else N) := by
  obtain ⟨a1, a2, a3⟩ := stc_rn HX hr
  obtain ⟨b1, b2, b3⟩ := stc_rn HY hr
  rw [← hP] at a1 a2 a3
  rw [← hQ] at b1 b2 b3
  have h1 : row < en := by omega
  obtain ⟨X', e1, l1, n1⟩ := skp_rn HX h1 (by rw [← hP]; omega)
  obtain ⟨Y', e2, l2, n2⟩ := skp_rn HY h1 (by rw [← hQ]; omega)
  exact ⟨⟨h1, by omega⟩, X', Y', ⟨e1, e2⟩, ⟨l1, l2⟩, ⟨n1, n2⟩, kp_step HN h1 (fun n h2 h3 => a3 n h2 (by omega)) (fun n h2 h3 => b3 n h2 (by omega))⟩
theorem results_cell1 {fn : Func} {p : Tmp} {ty : TypeId} (h : fn.results = #[.cell p ty]) (tmps : Array Value) (P : Program) (w : World) :
    (results fn tmps).run P w =
      ((asAddr (tmps.getD p undef)).run P w).andThen fun a w₁ => (loadVar ty a).run P w₁ := by
  simp only [results, h]
  simp [Sem.run_bind]
set_option maxRecDepth 100000 in
set_option maxHeartbeats 4000000 in
theorem merge_any (f : Bool → Bool → Bool) (hff : f false false = false) (K : Nat) (hK : ∀ p q W, Calls Try.prog K #[.bool p, .bool q] W fun e w' => e = .returned (.bool (f p q)) ∧ w' = W) (hE : ∀ args w, (callFunc K args).run Try.prog w = .ok (.enter K args) w)
    {u v : Value} {A B : List Iv} (hlA : A.length ≤ 90000) (hlB : B.length ≤ 90000) (hA : Lf A 0 A) (hB : Lf B 0 B) (hA0 : ∀ n, In n A → 0 ≤ n) (hB0 : ∀ n, In n B → 0 ≤ n) (w : World) (hu : Sl w u (rn A)) (hv : Sl w v (rn B)) :
    Calls Try.prog 60 #[.agg #[u], .agg #[v], .func (.func K) #[] #[]] w fun e w' => (∃ r N, e = .returned (.agg #[r]) ∧ w'.ownsRow w.heap.size 39 2 r (rn N).length (ivCells (rn N)) ∧ Nrm N ∧ ∀ n, In n N ↔ f (has n A) (has n B) = true) ∧ Below w.heap.size w w' := by
  obtain ⟨PA, cA, rfl, a1, a2, a3, a4⟩ := hu
  obtain ⟨PB, cB, rfl, b1, b2, b3, b4⟩ := hv
  rw [rn_len] at a1 b1 a3 b3 ⊢
  rw [rn_len]
  have HU : Hid (Sl w (.slice PA A.length cA) (rn A)) := Lib.hid ⟨_, _, by rw [rn_len], by rw [rn_len]; exact a1, a2, by rw [rn_len]; exact a3, a4⟩
  have HV : Hid (Sl w (.slice PB B.length cB) (rn B)) := Lib.hid ⟨_, _, by rw [rn_len], by rw [rn_len]; exact b1, b2, by rw [rn_len]; exact b3, b4⟩
  have HKc := Lib.hid hK
  have HA0 := Lib.hid hA0
  have HB0 := Lib.hid hB0
  have HLA := Lib.hid hA
  have HLB := Lib.hid hB
  have hB3 : Below w.heap.size w (((w.alloc (.cells #[.slice PA A.length cA] 26)).alloc (.cells #[.slice PB B.length cB] 26)).alloc (.cells #[.slice none 0 0] 26)) := (((Below.refl _ _).alloc (Nat.le_refl _) _).alloc (by simp) _).alloc (by simp; omega) _
  have HB3 := Lib.hid (Below.drew hB3)
  have HU3 := Lib.hid (HU.out.below HB3.out)
  have HV3 := Lib.hid (HV.out.below HB3.out)
  have HBk3 : Hid ((((w.alloc (.cells #[.slice PA A.length cA] 26)).alloc (.cells #[.slice PB B.length cB] 26)).alloc (.cells #[.slice none 0 0] 26)).drew.heap[w.heap.size + 1 + 1]? = some (.cells #[.slice none 0 0] 26 (0, 0))) := Lib.hid (by
    have h := Deep.blk_alloc_new ((w.alloc (.cells #[.slice PA A.length cA] 26)).alloc (.cells #[.slice PB B.length cB] 26)) (.cells #[.slice none 0 0] 26)
    rw [show ((w.alloc (.cells #[.slice PA A.length cA] 26)).alloc (.cells #[.slice PB B.length cB] 26)).heap.size = w.heap.size + 1 + 1 by simp] at h
    exact h)
  clear hK hA hB a3 a4 b3 b4 hB3 hA0 hB0
  go_enter Try.func60, Try.ntmps60
  go_wp2_with fail
  go_region
  go_wp2_with fail
  go_loopw [7, 8, 9, 10] (fun kv lv mv rv wr => ∃ (row : Int) (X Y N : List Iv) (PX PY : Option Addr) (cX cY : Nat), rv = .int .i64 row ∧ lv = .slice PX X.length cX ∧ mv = .slice PY Y.length cY ∧ (0 ≤ row ∧ row ≤ 1048576) ∧ (X.length ≤ 90000 ∧ Y.length ≤ 90000) ∧ Hid (Lf A row X) ∧ Hid (Lf B row Y) ∧ Hid (Kp f A B row N) ∧ Hid (Sl w (.slice PX X.length cX) (rn X)) ∧ Hid (Sl w (.slice PY Y.length cY) (rn Y)) ∧ Hid (wr.ownsRow (w.heap.size + 3) 39 2 kv (rn N).length (ivCells (rn N))) ∧ Hid (Below w.heap.size w wr) ∧ Hid (wr.heap[w.heap.size + 1 + 1]? = some (.cells #[.slice none 0 0] 26 (0, 0))) ∧ Hid (w.heap.size + 3 ≤ wr.heap.size)) (fun _ _ _ rv _ => (1048577 - intOf rv).toNat)
  case atStart =>
    exact ⟨0, A, B, [], PA, PB, cA, cB, rfl, rfl, rfl, by omega, ⟨hlA, hlB⟩, HLA, HLB, Lib.hid (kp_zero hff HA0.out HB0.out), HU, HV, Lib.hid ⟨rfl, Or.inl ⟨rfl, rfl⟩⟩, HB3, HBk3, Lib.hid (by simp [World.drew])⟩
  case round =>
    obtain ⟨row, X, Y, N, PX, PY, cX, cY, rfl, rfl, rfl, hrow, hlXY, HX, HY, HN, HSX, HSY, HO, HB, HBk, HSz⟩ := hrel
    by_cases hxy : X = [] ∧ Y = []
    · obtain ⟨rfl, rfl⟩ := hxy
      have HR : Hid (Nrm N ∧ ∀ n, In n N ↔ f (has n A) (has n B) = true) := Lib.hid ⟨HN.out.nrm, kp_end HN.out hff HX.out HY.out⟩
      obtain ⟨A5, c5, rfl, _, _, _⟩ := rs_own HO.out
      have hfr : wr.frozen? ⟨w.heap.size + 1 + 1, 0, none⟩ = false := by simp [World.frozen?, HBk.out]
      have hcl : wr.cell? ⟨w.heap.size + 1 + 1, 0, none⟩ = some (.slice none 0 0) := by simp [World.cell?, HBk.out]
      have hsz := HSz.out
      go_wp2_with fail
      (try simp only [Exit.inBlock, Exit.then])
      have hcl2 : (wr.setCell ⟨w.heap.size + 1 + 1, 0, none⟩ (.slice A5 (rn N).length c5)).cell? ⟨w.heap.size + 1 + 1, 0, none⟩ = some (.slice A5 (rn N).length c5) := by
        have hb2 := blk_set (off := 0) (.slice A5 (rn N).length c5) HBk.out
        simp [World.cell?, hb2]
      refine bodyPost_ret (v := .agg #[.slice A5 (rn N).length c5]) ?_ rfl ⟨⟨_, N, rfl, ?_, HR.out⟩, ?_⟩
      · rw [results_cell1 rfl]; go_simp <;> rfl
      · exact own_base (HO.out.kept (grownBy_setCell' wr (w.heap.size + 1 + 1) _) (.inr (row_ne_low HO.out (by omega)).symm)) (by omega)
      · exact HB.out.setCell (p := ⟨w.heap.size + 1 + 1, 0, none⟩) (by show w.heap.size ≤ w.heap.size + 1 + 1; omega) _
    · have hr : row < 1048576 := by
        by_cases h1 : X = []
        · by_cases h2 : Y = []
          · exact absurd ⟨h1, h2⟩ hxy
          · obtain ⟨y, hy⟩ := List.exists_mem_of_ne_nil Y h2
            have := HY.out.ends y hy
            omega
        · obtain ⟨y, hy⟩ := List.exists_mem_of_ne_nil X h1
          have := HX.out.ends y hy
          omega
      have hne : (X.length = 0 ∧ 0 < Y.length) ∨ 0 < X.length := by
        by_cases h1 : X = []
        · by_cases h2 : Y = []
          · exact absurd ⟨h1, h2⟩ hxy
          · exact .inl ⟨by rw [h1]; rfl, List.length_pos_iff.2 h2⟩
        · exact .inr (List.length_pos_iff.2 h1)
      have HStep := Lib.hid (fun P Q hP hQ => step_all (f := f) (P := P) (Q := Q) HX.out HY.out HN.out hr hP hQ)
      have HS1 := Lib.hid (stretch_any (lf_rc HX.out) row wr (HSX.out.below HB.out))
      have HS2 := Lib.hid (fun W h => stretch_any (v := .slice PY Y.length cY) (lf_rc HY.out) row W h)
      obtain ⟨⟨pa, ea⟩, hP⟩ : ∃ z, z = stc row (rn X) := ⟨_, rfl⟩
      obtain ⟨⟨pb, eb⟩, hQ⟩ : ∃ z, z = stc row (rn Y) := ⟨_, rfl⟩
      have HSt := Lib.hid (HStep.out _ _ hP hQ)
      rw [← hP] at HS1
      rw [← hQ] at HS2
      dsimp only at HSt HS1 HS2
      obtain ⟨en, hmin⟩ : ∃ en, min ea eb = en := ⟨_, rfl⟩
      obtain ⟨⟨hen1, hen2⟩, X', Y', ⟨hX', hY'⟩, ⟨LX', LY'⟩, ⟨nX, nY⟩, hN'⟩ := HSt.out en hmin.symm
      have HX' := Lib.hid LX'
      have HY' := Lib.hid LY'
      have HN' := Lib.hid hN'
      have HsX := Lib.hid (fun W h => skip_any (v := .slice PX X.length cX) (L := rn X) (by rw [rn_len]; omega) en w W h HSX.out)
      have HsY := Lib.hid (fun W h => skip_any (v := .slice PY Y.length cY) (L := rn Y) (by rw [rn_len]; omega) en w W h HSY.out)
      rw [hX'] at HsX
      rw [hY'] at HsY
      have hN90 := kp_len HN.out (kp_row HN.out hff hrow.2 HA0.out HB0.out)
      have HNb := Lib.hid (nrm_rn HN.out.nrm (kp_row HN.out hff hrow.2 HA0.out HB0.out))
      have hw1 : IntKind.i64.wrap (en - 1) = en - 1 := by simp only [IntKind.wrap_i64]; omega
      have HJe : Hid (jr (rn N) (row, en - 1) = rn (jn N (row, en))) := Lib.hid (by rw [rn_jn]; rfl)
      clear hxy hP hQ HStep HSt LX' LY' hN' hX' hY'
      have HKK := Lib.hid (fun W => HKc.out pa pb W)
      have HE := Lib.hid (fun W => hE #[.bool pa, .bool pb] W)
      rcases hne with ⟨h1, h2⟩ | h1
      · obtain rfl : X = [] := List.eq_nil_of_length_eq_zero h1
        clear h1
        go_wp2_with fail
        refine HS1.out.mono ?_
        rintro e w1 ⟨rfl, hb1⟩
        have HB1 := Lib.hid (HB.out.trans (hb1.mono HB.out.size))
        have HW1 := Lib.hid hb1
        clear hb1
        go_wp2_with fail
        refine (HS2.out w1 (HSY.out.below HB1.out)).mono ?_
        rintro e w2 ⟨rfl, hb2⟩
        have HB2 := Lib.hid (HB1.out.trans (hb2.mono HB1.out.size))
        have HW2 := Lib.hid (HW1.out.trans (hb2.mono HW1.out.size))
        clear hb2
        have hE2 := HE.out w2
        go_wp2_with fail
        refine (HKK.out w2).mono ?_
        rintro e w3 ⟨rfl, hw⟩
        subst hw
        have HO3 := Lib.hid (own_belowk HO.out HW2.out)
        cases hf : f pa pb with
        | true =>
          rw [hf, if_pos rfl] at HN'
          have HJ := Lib.hid (fun W o h => join_any (w.heap.size + 3) u7 (rn N) (by rw [rn_len]; exact hN90) (fun y hy => by have := HNb.out y hy; omega) row (en - 1) W o h)
          rw [HJe.out] at HJ
          go_wp2_with fail
          refine (HJ.out w3 HO3.out (Nat.le_trans HSz.out HW2.out.size)).mono ?_
          rintro e w4 ⟨v4, rfl, hown4, hg4⟩
          have HO4 := Lib.hid hown4
          have HB4 := Lib.hid (below_grownk (B := w.heap.size) (a := w) HB2.out HO3.out hg4 (by omega) (Nat.le_refl _))
          have HBk4 : Hid (w4.heap[w.heap.size + 1 + 1]? = some (.cells #[.slice none 0 0] 26 (0, 0))) := Lib.hid ((hg4.block (w.heap.size + 1 + 1) (by have a := HSz.out; have b := HW2.out.size; omega) (row_ne_low HO3.out (by omega))).trans ((HW2.out.block (w.heap.size + 1 + 1) (by have := HSz.out; omega)).trans HBk.out))
          have HSz4 : Hid (w.heap.size + 3 ≤ w4.heap.size) := Lib.hid (Nat.le_trans (Nat.le_trans HSz.out HW2.out.size) hg4.size)
          clear hown4 hg4
          go_wp2_with fail
          refine (HsX.out w4 HB4.out).mono ?_
          rintro e w5 ⟨⟨rX, rfl, hrX⟩, hw5⟩
          subst hw5
          obtain ⟨PX', cX', rfl, x1, x2, x3, x4⟩ := hrX
          have HSX' : Hid (Sl w (.slice PX' X'.length cX') (rn X')) := Lib.hid ⟨_, _, by rw [rn_len], x1, x2, x3, x4⟩
          clear x1 x2 x3 x4
          rw [rn_len]
          go_wp2_with fail
          refine (HsY.out w5 HB4.out).mono ?_
          rintro e w6 ⟨⟨rY, rfl, hrY⟩, hw6⟩
          subst hw6
          obtain ⟨PY', cY', rfl, y1, y2, y3, y4⟩ := hrY
          have HSY' : Hid (Sl w (.slice PY' Y'.length cY') (rn Y')) := Lib.hid ⟨_, _, by rw [rn_len], y1, y2, y3, y4⟩
          clear y1 y2 y3 y4
          rw [rn_len]
          go_wp2_with fail
          go_roundw
          case rel => exact ⟨en, X', Y', _, PX', PY', cX', cY', rfl, rfl, rfl, ⟨by omega, hen2⟩, ⟨by omega, by omega⟩, HX', HY', HN', HSX', HSY', HO4, HB4, HBk4, HSz4⟩
          case measure => simp [intOf] <;> omega
        | false =>
          rw [hf, if_neg (by decide)] at HN'
          have HO4 := HO3
          have HB4 := HB2
          have HBk4 : Hid (w3.heap[w.heap.size + 1 + 1]? = some (.cells #[.slice none 0 0] 26 (0, 0))) := Lib.hid ((HW2.out.block (w.heap.size + 1 + 1) (by have := HSz.out; omega)).trans HBk.out)
          have HSz4 : Hid (w.heap.size + 3 ≤ w3.heap.size) := Lib.hid (Nat.le_trans HSz.out HW2.out.size)
          go_wp2_with fail
          refine (HsX.out w3 HB4.out).mono ?_
          rintro e w5 ⟨⟨rX, rfl, hrX⟩, hw5⟩
          subst hw5
          obtain ⟨PX', cX', rfl, x1, x2, x3, x4⟩ := hrX
          have HSX' : Hid (Sl w (.slice PX' X'.length cX') (rn X')) := Lib.hid ⟨_, _, by rw [rn_len], x1, x2, x3, x4⟩
          clear x1 x2 x3 x4
          rw [rn_len]
          go_wp2_with fail
          refine (HsY.out w5 HB4.out).mono ?_
          rintro e w6 ⟨⟨rY, rfl, hrY⟩, hw6⟩
          subst hw6
          obtain ⟨PY', cY', rfl, y1, y2, y3, y4⟩ := hrY
          have HSY' : Hid (Sl w (.slice PY' Y'.length cY') (rn Y')) := Lib.hid ⟨_, _, by rw [rn_len], y1, y2, y3, y4⟩
          clear y1 y2 y3 y4
          rw [rn_len]
          go_wp2_with fail
          go_roundw
          case rel => exact ⟨en, X', Y', _, PX', PY', cX', cY', rfl, rfl, rfl, ⟨by omega, hen2⟩, ⟨by omega, by omega⟩, HX', HY', HN', HSX', HSY', HO4, HB4, HBk4, HSz4⟩
          case measure => simp [intOf] <;> omega
      · go_wp2_with fail
        refine HS1.out.mono ?_
        rintro e w1 ⟨rfl, hb1⟩
        have HB1 := Lib.hid (HB.out.trans (hb1.mono HB.out.size))
        have HW1 := Lib.hid hb1
        clear hb1
        go_wp2_with fail
        refine (HS2.out w1 (HSY.out.below HB1.out)).mono ?_
        rintro e w2 ⟨rfl, hb2⟩
        have HB2 := Lib.hid (HB1.out.trans (hb2.mono HB1.out.size))
        have HW2 := Lib.hid (HW1.out.trans (hb2.mono HW1.out.size))
        clear hb2
        have hE2 := HE.out w2
        go_wp2_with fail
        refine (HKK.out w2).mono ?_
        rintro e w3 ⟨rfl, hw⟩
        subst hw
        have HO3 := Lib.hid (own_belowk HO.out HW2.out)
        cases hf : f pa pb with
        | true =>
          rw [hf, if_pos rfl] at HN'
          have HJ := Lib.hid (fun W o h => join_any (w.heap.size + 3) u7 (rn N) (by rw [rn_len]; exact hN90) (fun y hy => by have := HNb.out y hy; omega) row (en - 1) W o h)
          rw [HJe.out] at HJ
          go_wp2_with fail
          refine (HJ.out w3 HO3.out (Nat.le_trans HSz.out HW2.out.size)).mono ?_
          rintro e w4 ⟨v4, rfl, hown4, hg4⟩
          have HO4 := Lib.hid hown4
          have HB4 := Lib.hid (below_grownk (B := w.heap.size) (a := w) HB2.out HO3.out hg4 (by omega) (Nat.le_refl _))
          have HBk4 : Hid (w4.heap[w.heap.size + 1 + 1]? = some (.cells #[.slice none 0 0] 26 (0, 0))) := Lib.hid ((hg4.block (w.heap.size + 1 + 1) (by have a := HSz.out; have b := HW2.out.size; omega) (row_ne_low HO3.out (by omega))).trans ((HW2.out.block (w.heap.size + 1 + 1) (by have := HSz.out; omega)).trans HBk.out))
          have HSz4 : Hid (w.heap.size + 3 ≤ w4.heap.size) := Lib.hid (Nat.le_trans (Nat.le_trans HSz.out HW2.out.size) hg4.size)
          clear hown4 hg4
          go_wp2_with fail
          refine (HsX.out w4 HB4.out).mono ?_
          rintro e w5 ⟨⟨rX, rfl, hrX⟩, hw5⟩
          subst hw5
          obtain ⟨PX', cX', rfl, x1, x2, x3, x4⟩ := hrX
          have HSX' : Hid (Sl w (.slice PX' X'.length cX') (rn X')) := Lib.hid ⟨_, _, by rw [rn_len], x1, x2, x3, x4⟩
          clear x1 x2 x3 x4
          rw [rn_len]
          go_wp2_with fail
          refine (HsY.out w5 HB4.out).mono ?_
          rintro e w6 ⟨⟨rY, rfl, hrY⟩, hw6⟩
          subst hw6
          obtain ⟨PY', cY', rfl, y1, y2, y3, y4⟩ := hrY
          have HSY' : Hid (Sl w (.slice PY' Y'.length cY') (rn Y')) := Lib.hid ⟨_, _, by rw [rn_len], y1, y2, y3, y4⟩
          clear y1 y2 y3 y4
          rw [rn_len]
          go_wp2_with fail
          go_roundw
          case rel => exact ⟨en, X', Y', _, PX', PY', cX', cY', rfl, rfl, rfl, ⟨by omega, hen2⟩, ⟨by omega, by omega⟩, HX', HY', HN', HSX', HSY', HO4, HB4, HBk4, HSz4⟩
          case measure => simp [intOf] <;> omega
        | false =>
          rw [hf, if_neg (by decide)] at HN'
          have HO4 := HO3
          have HB4 := HB2
          have HBk4 : Hid (w3.heap[w.heap.size + 1 + 1]? = some (.cells #[.slice none 0 0] 26 (0, 0))) := Lib.hid ((HW2.out.block (w.heap.size + 1 + 1) (by have := HSz.out; omega)).trans HBk.out)
          have HSz4 : Hid (w.heap.size + 3 ≤ w3.heap.size) := Lib.hid (Nat.le_trans HSz.out HW2.out.size)
          go_wp2_with fail
          refine (HsX.out w3 HB4.out).mono ?_
          rintro e w5 ⟨⟨rX, rfl, hrX⟩, hw5⟩
          subst hw5
          obtain ⟨PX', cX', rfl, x1, x2, x3, x4⟩ := hrX
          have HSX' : Hid (Sl w (.slice PX' X'.length cX') (rn X')) := Lib.hid ⟨_, _, by rw [rn_len], x1, x2, x3, x4⟩
          clear x1 x2 x3 x4
          rw [rn_len]
          go_wp2_with fail
          refine (HsY.out w5 HB4.out).mono ?_
          rintro e w6 ⟨⟨rY, rfl, hrY⟩, hw6⟩
          subst hw6
          obtain ⟨PY', cY', rfl, y1, y2, y3, y4⟩ := hrY
          have HSY' : Hid (Sl w (.slice PY' Y'.length cY') (rn Y')) := Lib.hid ⟨_, _, by rw [rn_len], y1, y2, y3, y4⟩
          clear y1 y2 y3 y4
          rw [rn_len]
          go_wp2_with fail
          go_roundw
          case rel => exact ⟨en, X', Y', _, PX', PY', cX', cY', rfl, rfl, rfl, ⟨by omega, hen2⟩, ⟨by omega, by omega⟩, HX', HY', HN', HSX', HSY', HO4, HB4, HBk4, HSz4⟩
          case measure => simp [intOf] <;> omega
end Go.Proofs.Ytacgomhegjilgaa
