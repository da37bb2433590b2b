/- lower, counters, least. -/
import Derived.Test.YtnpjakgdfjaglaaGh
namespace Go.Proofs.Ytnpjakgdfjaglaa
open Go.ChangeShapes Go.WideShapes Go.ChangeAt Go.RowKit Go.Joins

theorem ks_kept {w w' : World} {base b n : Nat} {t : TypeId} {v : Value} {xs : List Value} (h : w.ownsRow base t 1 v n xs) (hg : w.grownBy w' (some b)) (hb : b < base) : w'.ownsRow base t 1 v n xs :=
  h.kept hg (by
    cases e : v.ownBlock with
    | none => exact .inl rfl
    | some k => exact .inr (fun e2 => by injection e2 with e2; have := (h.lt k e).1; omega))
theorem ks_at {w : World} {base : Nat} {A : Option Addr} {c : Nat} {L : List Ct} (h : w.ownsRow base 9 1 (.slice A L.length c) L.length (kV L)) (j : Nat) (hj : j < L.length) :
    ∃ g, A = some ⟨g, 0, none⟩ ∧ g < w.heap.size ∧ w.cell? ⟨g, j, none⟩ = some (.string L[j].1) := by
  obtain ⟨g, cap, e⟩ := ownsRow_form h (by omega)
  injection e with e1 e2 e3
  subst e1
  have hl := (h.lt g rfl).2
  have hc := h.cells (g := g) rfl j (.string L[j].1) (by simp [kV, hj])
  rw [add_flat, Nat.zero_add] at hc
  exact ⟨g, rfl, hl, hc⟩
theorem low_step {L : List Ct} (hS : Sd L) (y : Int) (j : Nat) (hj : j < L.length) :
    loC (L.take j) y ++ L.drop j = loC (L.take j) y ++ L[j] :: L.drop (j + 1) ∧ Sd (loC (L.take j) y ++ L[j] :: L.drop (j + 1)) ∧ Sd (loC (L.take j) y ++ (L[j].1, L[j].2 - y) :: L.drop (j + 1)) ∧
    loC (L.take (j + 1)) y ++ L.drop (j + 1) = if 0 < L[j].2 - y then loC (L.take j) y ++ (L[j].1, L[j].2 - y) :: L.drop (j + 1) else loC (L.take j) y ++ L.drop (j + 1) := by
  have e1 : L.drop j = L[j] :: L.drop (j + 1) := List.drop_eq_getElem_cons hj
  have h2 : Sd (loC (L.take j) y ++ L[j] :: L.drop (j + 1)) := by rw [← e1]; exact sd_lo (by rw [List.take_append_drop]; exact hS) y
  refine ⟨by rw [e1], h2, ?_, ?_⟩
  · have := sd_pt h2 L[j].1 (L[j].2 - y)
    rwa [pt_mid h2] at this
  · rw [List.take_succ_eq_append_getElem hj, loC_snoc]
    split
    · rw [List.append_assoc]; rfl
    · rw [List.append_nil]
set_option maxRecDepth 100000 in
set_option maxHeartbeats 2000000 in
theorem lower_any (b : Nat) (L : List Ct) (y : Int) (hF : Fit22 L) (hy : 0 ≤ y ∧ y ≤ 1152921504606846976) (w : World) (h : Hm w b L) :
    Calls Try.prog 41 #[.map (some b), .int .i64 y] w fun e w' => e = .returned (.tuple #[]) ∧ Hm w' b (loC L y) ∧ Below b w w' := by
  obtain ⟨y0, y1⟩ := hy
  have hbl := h.lt
  have hln := hF.2.2.2
  have HST : Hid (∀ j (hj : j < L.length), _) := Lib.hid (fun j hj => low_step h.sd y j hj)
  have HC : Hid (∀ j (h : j < L.length), 0 ≤ L[j].2 ∧ L[j].2 ≤ 1152921504606846976 ∧ L[j].1.size ≤ 1000) := Lib.hid (fun j h => ct_bd hF h)
  have HL : Hid (∀ j, (loC (L.take j) y ++ L.drop j).length ≤ 1000000) := Lib.hid (fun j => by
    have := len_loC (L.take j) y
    rw [List.length_append, List.length_drop]; rw [List.length_take] at this; omega)
  have HM0 : Hid (Hm w b (loC (L.take 0) y ++ L.drop 0)) := Lib.hid (by rw [List.take_zero, List.drop_zero]; exact h)
  have HKy := Lib.hid (keys_any b L hln w h)
  clear hF h
  go_enter Try.func41, Try.ntmps41
  go_wp2_with fail
  refine HKy.out.mono ?_
  rintro e w1 ⟨v, rfl, hrow, hb1⟩
  obtain ⟨A, c, rfl, _⟩ := own_slice hrow
  have HR0 := Lib.hid hrow
  have HM1 := Lib.hid (HM0.out.below hb1)
  have HB1 : Hid (Below b w w1) := Lib.hid (hb1.mono (by omega))
  clear hrow hb1
  go_wp2_with fail
  go_loopw [5, 9] (fun _ iv wr => ∃ j : Nat, j ≤ L.length ∧ iv = .int .i64 (j : Int) ∧ Hid (Hm wr b (loC (L.take j) y ++ L.drop j)) ∧ Hid (wr.ownsRow w.heap.size 9 1 (.slice A L.length c) L.length (kV L)) ∧ Hid (Below b w wr)) (fun _ iv _ => L.length - (intOf iv).toNat)
  case atStart => exact ⟨0, Nat.zero_le _, rfl, HM1, HR0, HB1⟩
  case round =>
    obtain ⟨j, hj, rfl, HM, HR, HB⟩ := hrel
    by_cases hlt : j < L.length
    · obtain ⟨g, rfl, hg, h0⟩ := ks_at HR.out j hlt
      obtain ⟨v0, v1, k0⟩ := HC.out j hlt
      obtain ⟨hs1, hs2, hs3, hs4⟩ := HST.out j hlt
      have hMl := HL.out j
      rw [hs1] at HM hMl
      have hg1 := gt_mid hs2
      have hp1 := pt_mid hs2 (L[j].2 - y)
      have hg2 := gt_mid hs3
      have hd2 := dl_mid hs3
      obtain ⟨x, hx⟩ : ∃ x, x = L[j] := ⟨_, rfl⟩
      rw [← hx] at h0 v0 v1 k0 hs4 HM hMl hg1 hp1 hg2 hd2
      clear hx hs1 hs2 hs3
      obtain ⟨k, v⟩ := x
      dsimp only at h0 v0 v1 k0 hs4 hg1 hp1 hg2 hd2
      have hl1 : (loC (L.take j) y ++ (k, v - y) :: L.drop (j + 1)).length ≤ 1000000 := by simp at hMl ⊢; omega
      obtain ⟨M, hM⟩ : ∃ M, M = loC (L.take j) y ++ (k, v) :: L.drop (j + 1) := ⟨_, rfl⟩
      obtain ⟨M1, hM1⟩ : ∃ M1, M1 = loC (L.take j) y ++ (k, v - y) :: L.drop (j + 1) := ⟨_, rfl⟩
      obtain ⟨M2, hM2⟩ : ∃ M2, M2 = loC (L.take j) y ++ L.drop (j + 1) := ⟨_, rfl⟩
      rw [← hM] at HM hMl hg1 hp1
      rw [← hM1] at hp1 hg2 hd2 hs4 hl1
      rw [← hM2] at hd2 hs4
      have HS4 := Lib.hid hs4
      have HP1 := Lib.hid hp1
      have HG1 := Lib.hid hg1
      have HG2 := Lib.hid hg2
      have HD2 := Lib.hid hd2
      clear hM hM1 hM2 hs4 hp1 hg1 hg2 hd2
      have hjI : (j : Int) < (L.length : Int) := by omega
      have hj0 : (0 : Int) ≤ (j : Int) := by omega
      have hw1 : IntKind.i64.wrap ((j : Int) + 1) = (j : Int) + 1 := by simp only [IntKind.wrap_i64]; omega
      have hw2 : IntKind.i64.wrap (v - y) = v - y := by simp only [IntKind.wrap_i64]; omega
      by_cases hle : v - y ≤ 0
      · have hd : decide (v - y ≤ 0) = true := by simpa using hle
        have HS5 := Lib.hid (HS4.out.trans (if_neg (by omega)))
        go_wp2_with (first
          | (at_lookup; refine wpList_getv rfl _ _ rfl b M rfl HM.out k (by omega) rfl v HG1.out ?_)
          | (at_lookup; refine wpList_getv rfl _ _ rfl b M1 rfl HM2.out k (by omega) rfl (v - y) HG2.out ?_)
          | (at_mapUpdate; refine wpList_set rfl _ _ _ rfl b M rfl HM.out hMl k (by omega) rfl (v - y) (by omega) (by first | rfl | go_num) ?_; intro w2 hm2 hg2; rw [HP1.out] at hm2; have HM2 := Lib.hid hm2; have HR2 := Lib.hid (ks_kept HR.out hg2 hbl); have HB2 := Lib.hid (below_turn HB.out hg2 (Nat.le_refl _) (by omega)); clear hm2 hg2)
          | (at_delete; refine wpList_del rfl _ _ rfl b M1 rfl HM2.out k (by omega) rfl ?_; intro w3 hm3 hg3; rw [HD2.out] at hm3; have HM3 := Lib.hid hm3; have HR3 := Lib.hid (ks_kept HR2.out hg3 hbl); have HB3 := Lib.hid (below_turn HB2.out hg3 (Nat.le_refl _) (by omega)); clear hm3 hg3))
        go_roundw
        case rel => exact ⟨j + 1, by omega, by go_num, by rw [HS5.out]; exact HM3, HR3, HB3⟩
        case measure => simp [intOf] <;> omega
      · have hd : decide (v - y ≤ 0) = false := by simpa using hle
        have HS5 := Lib.hid (HS4.out.trans (if_pos (by omega)))
        go_wp2_with (first
          | (at_lookup; refine wpList_getv rfl _ _ rfl b M rfl HM.out k (by omega) rfl v HG1.out ?_)
          | (at_lookup; refine wpList_getv rfl _ _ rfl b M1 rfl HM2.out k (by omega) rfl (v - y) HG2.out ?_)
          | (at_mapUpdate; refine wpList_set rfl _ _ _ rfl b M rfl HM.out hMl k (by omega) rfl (v - y) (by omega) (by first | rfl | go_num) ?_; intro w2 hm2 hg2; rw [HP1.out] at hm2; have HM2 := Lib.hid hm2; have HR2 := Lib.hid (ks_kept HR.out hg2 hbl); have HB2 := Lib.hid (below_turn HB.out hg2 (Nat.le_refl _) (by omega)); clear hm2 hg2))
        go_roundw
        case rel => exact ⟨j + 1, by omega, by go_num, by rw [HS5.out]; exact HM2, HR2, HB2⟩
        case measure => simp [intOf] <;> omega
    · obtain rfl : j = L.length := by omega
      have HMe : Hid (Hm wr b (loC L y)) := Lib.hid (by have := HM.out; rwa [List.take_length, List.drop_length, List.append_nil] at this)
      go_wp2_with fail
      go_end0
      exact ⟨rfl, HMe.out, HB.out⟩
set_option maxRecDepth 100000 in
set_option maxHeartbeats 2000000 in
theorem least_any (A : Option Addr) (c : Nat) (L : List Ct) (n : Int) (hl : L.length ≤ 1000000) (w : World) (hR : CR w A L) :
    Calls Try.prog 40 #[.slice A L.length c, .int .i64 n] w fun e w' => e = .returned (.int .i64 (leC L n)) ∧ Below w.heap.size w w' := by
  have HR := Lib.hid hR
  have HT : Hid (∀ j (h : j < L.length), leC (L.take (j + 1)) n = min (leC (L.take j) n) L[j].2) := Lib.hid (fun j h => leC_take L n h)
  have H0 : Hid (leC (L.take 0) n = n) := Lib.hid (by rw [List.take_zero]; rfl)
  clear hR
  go_enter Try.func40, Try.ntmps40
  go_wp2_with fail
  go_loopw [1, 9] (fun nv iv wr => ∃ j : Nat, j ≤ L.length ∧ iv = .int .i64 (j : Int) ∧ nv = .int .i64 (leC (L.take j) n) ∧ Hid (Below w.heap.size w wr)) (fun _ iv _ => L.length - (intOf iv).toNat)
  case atStart => exact ⟨0, Nat.zero_le _, rfl, by rw [H0.out], Lib.hid (Below.refl _ _)⟩
  case round =>
    obtain ⟨j, hj, rfl, rfl, HB⟩ := hrel
    by_cases hlt : j < L.length
    · obtain ⟨b, off, rfl, hb, h0, h1⟩ := (HR.out.below HB.out).at j hlt
      have hTj := HT.out j hlt
      obtain ⟨x, hx⟩ : ∃ x, x = L[j] := ⟨_, rfl⟩
      rw [← hx] at h0 h1 hTj
      clear hx
      obtain ⟨k, v⟩ := x
      dsimp only at h0 h1 hTj
      obtain ⟨m, hm⟩ : ∃ m, m = leC (L.take j) n := ⟨_, rfl⟩
      rw [← hm] at hTj ⊢
      clear hm
      have HT2 := Lib.hid hTj
      clear hTj
      have hjI : (j : Int) < (L.length : Int) := by omega
      have hj0 : (0 : Int) ≤ (j : Int) := by omega
      have hw1 : IntKind.i64.wrap ((j : Int) + 1) = (j : Int) + 1 := by simp only [IntKind.wrap_i64]; omega
      go_wp2_with fail
      go_roundw
      case rel => exact ⟨j + 1, by omega, by go_num, by rw [HT2.out] <;> go_num, Lib.hid (HB.out.alloc HB.out.size _)⟩
      case measure => simp [intOf] <;> omega
    · obtain rfl : j = L.length := by omega
      rw [List.take_length]
      go_wp2_with fail
      go_ret
      exact ⟨rfl, HB.out⟩
end Go.Proofs.Ytnpjakgdfjaglaa
