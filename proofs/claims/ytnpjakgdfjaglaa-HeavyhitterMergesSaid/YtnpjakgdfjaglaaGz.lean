/- The law's put (written by wip/bin/gen_gz22.py). -/
import Derived.Test.YtnpjakgdfjaglaaGy
import Derived.Deep.RegionLaw
import Derived.Deep.RegionLawGrows
namespace Go.Proofs.Ytnpjakgdfjaglaa
open Go.ChangeShapes Go.WideShapes Go.ChangeAt Go.RowKit Go.Joins

theorem cr_drop {w : World} {b off : Nat} {L : List Ct} (hR : CR w (some ⟨b, off, none⟩) L) (k : Nat) : CR w (some ⟨b, off + k * 2, none⟩) (L.drop k) := fun j hj => by
  rw [List.length_drop] at hj
  obtain ⟨b', off', cs, e, h1, h2, h3⟩ := hR (k + j) (by omega)
  injection e with e
  injection e with e1 e2
  subst e1 e2
  refine ⟨b, off + k * 2, cs, rfl, h1, ?_, ?_⟩
  · rw [List.getElem_drop, ← h2]; congr 1; omega
  · rw [List.getElem_drop, ← h3]; congr 1; omega
theorem own_builtc (w : World) (k : ByteArray) (n : Int) : (w.alloc (.cells #[.string k, .int .i64 n] 27)).drew.ownsRow w.heap.size 27 2 (.slice (some ⟨w.heap.size, 0, none⟩) 1 1) 1 (ctCells [(k, n)]) :=
  ⟨rfl, .inr ⟨w.heap.size, 1, _, rfl, Nat.le_refl _, Deep.blk_alloc_new w _, Nat.le_refl _, by unfold maxLen; omega, rfl, rfl⟩⟩
theorem own_posc {w : World} {base n : Nat} {v : Value} {L : List Ct} (h : w.ownsRow base 27 2 v n (ctCells L)) (hn : 0 < n) : ∃ g c, v = .slice (some ⟨g, 0, none⟩) n c ∧ ∀ j u, (ctCells L)[j]? = some u → w.cell? ((⟨g, 0, none⟩ : Addr).add j) = some u := by
  obtain ⟨g, c, rfl⟩ := ownsRow_form h hn
  exact ⟨g, c, rfl, h.cells rfl⟩
theorem grown_onto {a b c : World} {v : Value} {n : Nat} {xs : List Value} {T : TypeId} (h : Below a.heap.size a b) (hown : b.ownsRow a.heap.size T 2 v n xs) (k : b.grownBy c v.ownBlock) : Below a.heap.size a c :=
  below_grownk (B := a.heap.size) (a := a) h hown k (Nat.le_refl _) (Nat.le_refl _)
theorem grown_free {a b c : World} (h : Below a.heap.size a b) (k : b.grownBy c none) : Below a.heap.size a c :=
  ⟨k.os.trans h.os, k.tape.trans h.tape, k.output.trans h.output, Nat.le_trans h.size k.size, fun i hi => (k.block i (Nat.lt_of_lt_of_le hi h.size) (fun e => nomatch e)).trans (h.block i hi)⟩
set_option maxRecDepth 100000 in
set_option maxHeartbeats 8000000 in
theorem put_any (v : Value) (L : List Ct) (k : ByteArray) (n : Int) (hS : Sd L) (hl : L.length ≤ 100000) (hn : -9223372036854775808 ≤ gt L k + n ∧ gt L k + n ≤ 9223372036854775807) (hA : ∀ A m c, v = .slice A m c → ∀ ad, A = some ad → ∃ b off, ad = ⟨b, off, none⟩) (w : World) (hv : SlV w v L) :
    Calls Try.prog 44 #[v, .string k, .int .i64 n] w fun e w' => (∃ u, e = .returned u ∧ SlV w' u (adC L k n)) ∧ Below w.heap.size w w' := by
  obtain ⟨i0, hi0, hz0, hz1, hz2⟩ := info_parts2 ct_info
  have Hi0 := Lib.hid hi0
  have Hz0 := Lib.hid hz0
  have Hz1 := Lib.hid hz1
  have Hz2 := Lib.hid hz2
  obtain ⟨A, c, rfl, hlc, hnl, hR⟩ := hv
  have HR := Lib.hid hR
  have HNl := Lib.hid hnl
  have HAd : Hid (∀ ad, A = some ad → ∃ b off, ad = ⟨b, off, none⟩) := Lib.hid (hA A _ _ rfl)
  have HPn : Hid (∀ j, j ≤ L.length → (∀ i (hi : i < L.length), i < j → bl L[i].1 k = true) → (∀ (hl : j < L.length), bl k L[j].1 = true) → adC L k n = L.take j ++ (k, n) :: L.drop j) := Lib.hid (fun j h1 h2 h3 => put_new hS n j h1 h2 h3)
  have HPo : Hid (∀ j (hj : j < L.length), (∀ i (hi : i < L.length), i < j → bl L[i].1 k = true) → L[j].1 = k → adC L k n = L.take j ++ (k, L[j].2 + n) :: L.drop (j + 1) ∧ gt L k = L[j].2) := Lib.hid (fun j hj h e => ⟨put_old n j hj h e, gt_first j hj (fun i hi hij => bl_not (h i hi hij)) e⟩)
  have HNb := Lib.hid hn
  obtain ⟨R, hRe⟩ : ∃ R, R = adC L k n := ⟨_, rfl⟩
  rw [← hRe] at HPn HPo ⊢
  clear hA hR hnl hi0 hz0 hz1 hz2 hRe hn hS
  go_enter Try.func44, Try.ntmps44
  go_wp2_with fail
  go_loop [7] (fun iv => ∃ j : Nat, j ≤ L.length ∧ iv = .int .i64 (j : Int) ∧ Hid (∀ i (hi : i < L.length), i < j → bl L[i].1 k = true)) (fun iv => L.length - (intOf iv).toNat)
  case atStart => exact ⟨0, Nat.zero_le _, rfl, Lib.hid (fun i _ h => absurd h (by omega))⟩
  case round =>
    obtain ⟨j, hj, rfl, HN⟩ := hrel
    have hj0 : (0 : Int) ≤ (j : Int) := by omega
    by_cases hlt : j < L.length
    · obtain ⟨b, off, rfl, hb, h0, h1⟩ := HR.out.at j hlt
      have HPj := Lib.hid (HPo.out j hlt HN.out)
      have HPk : Hid (bl k L[j].1 = true → R = L.take j ++ (k, n) :: L.drop j) := Lib.hid (fun h => HPn.out j hj HN.out (fun _ => h))
      have HNx : Hid (∀ x, x = L[j] → bl x.1 k = true → ∀ i (hi : i < L.length), i < j + 1 → bl L[i].1 k = true) := Lib.hid (fun x hx hne i hi h => by
        by_cases e : i = j
        · subst e; rw [← hx]; exact hne
        · exact HN.out i hi (by omega))
      obtain ⟨x, hx⟩ : ∃ x, x = L[j] := ⟨_, rfl⟩
      have HX := Lib.hid hx
      rw [← hx] at h0 h1 HPj HPk
      clear hx
      obtain ⟨t, m⟩ := x
      dsimp only at h0 h1 HPj HPk
      have hjI : (j : Int) < (L.length : Int) := by omega
      have hw1 : IntKind.i64.wrap ((j : Int) + 1) = (j : Int) + 1 := by simp only [IntKind.wrap_i64]; omega
      cases hbt : bl t k with
      | true =>
        have hd : Op.bytesLess t.toList k.toList = true := hbt
        have HN2 := Lib.hid (HNx.out _ HX.out hbt)
        clear hbt
        go_wp2_with fail
        go_round
        case rel => exact ⟨j + 1, by omega, by go_num, HN2⟩
        case measure => simp [intOf] <;> omega
      | false =>
        have hd : Op.bytesLess t.toList k.toList = false := hbt
        by_cases e : t = k
        · subst e
          obtain ⟨hRr, hg⟩ := HPj.out rfl
          have HRr := Lib.hid hRr
          have hnb := HNb.out
          rw [hg] at hnb
          have hwm : IntKind.i64.wrap (m + n) = m + n := by simp only [IntKind.wrap_i64]; omega
          have HB1 : Hid (Below w.heap.size w (w.alloc (.cells #[] 27))) := Lib.hid ((Below.refl _ _).alloc (Nat.le_refl _) _)
          have HO1 : Hid ((w.alloc (.cells #[] 27)).ownsRow w.heap.size 27 2 (.slice (some ⟨w.heap.size, 0, none⟩) 0 0) 0 (ctCells [])) := Lib.hid ⟨rfl, .inr ⟨w.heap.size, 0, #[], rfl, Nat.le_refl _, Deep.blk_alloc_new w _, Nat.le_refl _, Nat.zero_le _, rfl, rfl⟩⟩
          clear hRr hg HPj HPk hbt
          go_wp2_with (at_builtin; refine wpList_append_ct rfl (.tmp 37) (.tmp 38) rfl w.heap.size (.slice (some ⟨w.heap.size, 0, none⟩) 0 0) 0 [] rfl HO1.out (some ⟨b, off, none⟩) L.length c rfl L rfl (fun e => nomatch e) hlc (HR.out.below HB1.out) (by omega) (by simp) ?_; intro v2 w2 hown2 hg2; rw [Nat.zero_add, List.nil_append] at hown2; obtain ⟨g, c2, rfl, hc2⟩ := own_posc hown2 (by omega); have k1 := hc2 (j * 2 + 1) (.int .i64 m) (by rw [(ct_get L j hlt).2, ← HX.out]); rw [add_flat, Nat.zero_add] at k1; have hgl := (hown2.lt g rfl); have hfz := hown2.frozenAt (j * 2 + 1); have HO2 := Lib.hid hown2; have HB2 := Lib.hid (grown_onto HB1.out HO1.out hg2); clear hown2 hg2 hc2)
          go_ret
          obtain ⟨hst, hg3⟩ := HO2.out.stored (j * 2 + 1) (.int .i64 (m + n))
          have hR2 : (ctCells L).set (j * 2 + 1) (.int .i64 (m + n)) = ctCells R := by
            rw [HRr.out]
            have e1 : L = L.take j ++ (t, m) :: L.drop (j + 1) := by rw [HX.out, ← List.drop_eq_getElem_cons hlt, List.take_append_drop]
            have e2 : ctCells L = ctCells (L.take j) ++ (.string t :: .int .i64 m :: ctCells (L.drop (j + 1))) := by
              conv => lhs; rw [e1, ct_app]
              rfl
            have hlt2 : (ctCells (L.take j)).length = j * 2 := by rw [ct_len, List.length_take, Nat.min_eq_left (by omega)]
            rw [e2, List.set_append_right _ _ (by omega), hlt2, show j * 2 + 1 - j * 2 = 1 by omega, ct_app]
            rfl
          rw [hR2] at hst
          refine ⟨⟨_, rfl, ?_⟩, below_turn HB2.out hg3 hgl.1 (Nat.le_refl _)⟩
          exact SlV.own hst
        · have he : (t.toList == k.toList) = false := (Lib.bytes_beq_false_iff t k).2 e
          have HRr := Lib.hid (HPk.out (by rcases bl_tri k t with h | h | h; exact h; exact absurd h.symm e; rw [h] at hbt; cases hbt))
          clear e hbt HPj HPk
          have hmc : j ≤ c := by omega
          have hcm2 : ¬ c = j := by omega
          go_wp2_with fail
          have HB1 : Hid (Below w.heap.size w (w.alloc (.cells #[.string k, .int .i64 n] 27)).drew) := Lib.hid (((Below.refl _ _).alloc (Nat.le_refl _) _).drew)
          go_region_law ((first
            | (refine step_append_ct rfl (.tmp 57) (.tmp 60) rfl w.heap.size (.slice (some ⟨w.heap.size, 0, none⟩) 1 1) 1 [(k, n)] (by simp [Act.eval]) (own_builtc _ _ _) (some ⟨b, off + j * 2, none⟩) (L.length - j) (c - j) (by simp [Act.eval]) (L.drop j) (by first | (simp; done) | (rw [HD.out]; rfl)) (fun h => by first | omega | cases h) (by omega) (cr_drop (HR.out.below HB1.out) j) (by omega) (by simp) ?_; intro v1 w2 hown1 hg1; obtain ⟨g1, c1, rfl, hcells1⟩ := own_posc hown1 (by omega); have HC1 := Lib.hid hcells1; have HB2 := Lib.hid (grown_onto HB1.out (own_builtc _ _ _) hg1); clear hown1 hg1 hcells1)
            | (refine step_append_grows rfl (.tmp 53) (.tmp 61) 22 rfl 27 i0 _ 2 24 Try.underlying22 Hi0.out Hz0.out Hz1.out Hz2.out rfl (by omega) (some ⟨b, off, none⟩) (j) (j) (ctCells (L.take j)) (by simp [Act.eval]) (fun h => by first | exact ⟨by omega, by omega⟩ | cases h) (by rw [ct_len, List.length_take]; omega) (fun b e => cr_cells ((HR.out.below HB2.out).take j) b e) ⟨g1, 0, none⟩ (1 + (L.length - j)) c1 (ctCells ([(k, n)] ++ L.drop j)) (by simp [Act.eval]) (by rw [ct_len]; first | (rw [HD.out]; rfl) | (simp; omega) | (simp; done)) HC1.out (ct_one _) (by omega) (by unfold maxLen; omega) (by omega) ?_; intro v2 w3 hown2 hg2; have HB3 := Lib.hid (grown_free HB2.out hg2); have HO2 := Lib.hid hown2; clear hown2 hg2)))
          obtain ⟨g2, c2, rfl⟩ := ownsRow_form HO2.out (by omega)
          go_wp2_with fail
          go_ret
          refine ⟨⟨_, rfl, ?_⟩, HB3.out⟩
          have h := HO2.out
          rw [← ct_app, show L.take j ++ ([(k, n)] ++ L.drop j) = R by rw [HRr.out]; rfl] at h
          exact SlV.own h
    · have HRr := Lib.hid (HPn.out j hj HN.out (fun h => absurd h hlt))
      have HD : Hid (L.drop j = []) := Lib.hid (List.drop_eq_nil_of_le (by omega))
      have hjl : L.length = j := by omega
      have HJ := Lib.hid hjl
      clear hjl
      have hmc : j ≤ c := by omega
      cases A with
      | none =>
        obtain rfl := HNl.out rfl
        obtain rfl : L = [] := List.eq_nil_of_length_eq_zero (by omega)
        obtain rfl : j = 0 := by omega
        go_wp2_with fail
        have HB1 : Hid (Below w.heap.size w (w.alloc (.cells #[.string k, .int .i64 n] 27)).drew) := Lib.hid (((Below.refl _ _).alloc (Nat.le_refl _) _).drew)
        go_region_law ((first
          | (refine step_append_ct rfl (.tmp 57) (.tmp 60) rfl w.heap.size (.slice (some ⟨w.heap.size, 0, none⟩) 1 1) 1 [(k, n)] (by simp [Act.eval]) (own_builtc _ _ _) none (0) (0) (by simp [Act.eval]) (([] : List Ct).drop 0) (by first | (simp; done) | (rw [HD.out]; rfl)) (fun h => by first | omega | cases h) (by omega) CR.nil (by omega) (by simp) ?_; intro v1 w2 hown1 hg1; obtain ⟨g1, c1, rfl, hcells1⟩ := own_posc hown1 (by omega); have HC1 := Lib.hid hcells1; have HB2 := Lib.hid (grown_onto HB1.out (own_builtc _ _ _) hg1); clear hown1 hg1 hcells1)
          | (refine step_append_grows rfl (.tmp 53) (.tmp 61) 22 rfl 27 i0 _ 2 24 Try.underlying22 Hi0.out Hz0.out Hz1.out Hz2.out rfl (by omega) none (0) (0) (ctCells (([] : List Ct).take 0)) (by simp [Act.eval]) (fun h => by first | exact ⟨by omega, by omega⟩ | cases h) (by rw [ct_len, List.length_take]; omega) (fun b e => nomatch e) ⟨g1, 0, none⟩ (1 + (0)) c1 (ctCells ([(k, n)] ++ ([] : List Ct).drop 0)) (by simp [Act.eval]) (by rw [ct_len]; first | (rw [HD.out]; rfl) | (simp; omega) | (simp; done)) HC1.out (ct_one _) (by omega) (by unfold maxLen; omega) (by omega) ?_; intro v2 w3 hown2 hg2; have HB3 := Lib.hid (grown_free HB2.out hg2); have HO2 := Lib.hid hown2; clear hown2 hg2)))
        obtain ⟨g2, c2, rfl⟩ := ownsRow_form HO2.out (by omega)
        go_wp2_with fail
        go_ret
        refine ⟨⟨_, rfl, ?_⟩, HB3.out⟩
        have h := HO2.out
        rw [← ct_app, show ([] : List Ct).take 0 ++ ([(k, n)] ++ ([] : List Ct).drop 0) = R by rw [HRr.out]; rfl] at h
        exact SlV.own h
      | some ad =>
        obtain ⟨b, off, rfl⟩ : ∃ b off, ad = ⟨b, off, none⟩ := HAd.out ad rfl
        by_cases hcm2 : c = j
        · obtain rfl := hcm2
          go_wp2_with fail
          have HB1 : Hid (Below w.heap.size w (w.alloc (.cells #[.string k, .int .i64 n] 27)).drew) := Lib.hid (((Below.refl _ _).alloc (Nat.le_refl _) _).drew)
          go_region_law ((first
            | (refine step_append_ct rfl (.tmp 57) (.tmp 60) rfl w.heap.size (.slice (some ⟨w.heap.size, 0, none⟩) 1 1) 1 [(k, n)] (by simp [Act.eval]) (own_builtc _ _ _) (some ⟨b, off, none⟩) (0) (0) (by simp [Act.eval]) (L.drop c) (by first | (simp; done) | (rw [HD.out]; rfl)) (fun h => by first | omega | cases h) (by omega) (by rw [HD.out]; exact CR.nil) (by omega) (by simp) ?_; intro v1 w2 hown1 hg1; obtain ⟨g1, c1, rfl, hcells1⟩ := own_posc hown1 (by omega); have HC1 := Lib.hid hcells1; have HB2 := Lib.hid (grown_onto HB1.out (own_builtc _ _ _) hg1); clear hown1 hg1 hcells1)
            | (refine step_append_grows rfl (.tmp 53) (.tmp 61) 22 rfl 27 i0 _ 2 24 Try.underlying22 Hi0.out Hz0.out Hz1.out Hz2.out rfl (by omega) (some ⟨b, off, none⟩) (c) (c) (ctCells (L.take c)) (by simp [Act.eval]) (fun h => by first | exact ⟨by omega, by omega⟩ | cases h) (by rw [ct_len, List.length_take]; omega) (fun b e => cr_cells ((HR.out.below HB2.out).take c) b e) ⟨g1, 0, none⟩ (1 + (0)) c1 (ctCells ([(k, n)] ++ L.drop c)) (by simp [Act.eval]) (by rw [ct_len]; first | (rw [HD.out]; rfl) | (simp; omega) | (simp; done)) HC1.out (ct_one _) (by omega) (by unfold maxLen; omega) (by omega) ?_; intro v2 w3 hown2 hg2; have HB3 := Lib.hid (grown_free HB2.out hg2); have HO2 := Lib.hid hown2; clear hown2 hg2)))
          obtain ⟨g2, c2, rfl⟩ := ownsRow_form HO2.out (by omega)
          go_wp2_with fail
          go_ret
          refine ⟨⟨_, rfl, ?_⟩, HB3.out⟩
          have h := HO2.out
          rw [← ct_app, show L.take c ++ ([(k, n)] ++ L.drop c) = R by rw [HRr.out]; rfl] at h
          exact SlV.own h
        · go_wp2_with fail
          have HB1 : Hid (Below w.heap.size w (w.alloc (.cells #[.string k, .int .i64 n] 27)).drew) := Lib.hid (((Below.refl _ _).alloc (Nat.le_refl _) _).drew)
          go_region_law ((first
            | (refine step_append_ct rfl (.tmp 57) (.tmp 60) rfl w.heap.size (.slice (some ⟨w.heap.size, 0, none⟩) 1 1) 1 [(k, n)] (by simp [Act.eval]) (own_builtc _ _ _) (some ⟨b, off + j * 2, none⟩) (L.length - j) (c - j) (by simp [Act.eval]) (L.drop j) (by first | (simp; done) | (rw [HD.out]; rfl)) (fun h => by first | omega | cases h) (by omega) (by rw [HD.out]; exact CR.nil) (by omega) (by simp) ?_; intro v1 w2 hown1 hg1; obtain ⟨g1, c1, rfl, hcells1⟩ := own_posc hown1 (by omega); have HC1 := Lib.hid hcells1; have HB2 := Lib.hid (grown_onto HB1.out (own_builtc _ _ _) hg1); clear hown1 hg1 hcells1)
            | (refine step_append_grows rfl (.tmp 53) (.tmp 61) 22 rfl 27 i0 _ 2 24 Try.underlying22 Hi0.out Hz0.out Hz1.out Hz2.out rfl (by omega) (some ⟨b, off, none⟩) (j) (j) (ctCells (L.take j)) (by simp [Act.eval]) (fun h => by first | exact ⟨by omega, by omega⟩ | cases h) (by rw [ct_len, List.length_take]; omega) (fun b e => cr_cells ((HR.out.below HB2.out).take j) b e) ⟨g1, 0, none⟩ (1 + (L.length - j)) c1 (ctCells ([(k, n)] ++ L.drop j)) (by simp [Act.eval]) (by rw [ct_len]; first | (rw [HD.out]; rfl) | (simp; omega) | (simp; done)) HC1.out (ct_one _) (by omega) (by unfold maxLen; omega) (by omega) ?_; intro v2 w3 hown2 hg2; have HB3 := Lib.hid (grown_free HB2.out hg2); have HO2 := Lib.hid hown2; clear hown2 hg2)))
          obtain ⟨g2, c2, rfl⟩ := ownsRow_form HO2.out (by omega)
          go_wp2_with fail
          go_ret
          refine ⟨⟨_, rfl, ?_⟩, HB3.out⟩
          have h := HO2.out
          rw [← ct_app, show L.take j ++ ([(k, n)] ++ L.drop j) = R by rw [HRr.out]; rfl] at h
          exact SlV.own h
end Go.Proofs.Ytnpjakgdfjaglaa
