/- The reference's Form (written by wip/bin/gen_ku.py). -/
import Derived.Test.YtomjgkflnfjjbaaKt
namespace Go.Proofs.Ytomjgkflnfjjbaa
open Go.ChangeShapes Go.WideShapes Go.ChangeAt Go.RowKit En

/-- Bytes as a string. -/
def bO (l : List UInt8) : ByteArray := ⟨l.toArray⟩
theorem bO_size (l : List UInt8) : (bO l).size = l.length := by show l.toArray.size = _; simp
theorem bO_append (a b : List UInt8) : bO a ++ bO b = bO (a ++ b) := by
  apply ByteArray.ext; simp [bO]
theorem rnum_bO (n : Int) (h1 : -9223372036854775808 ≤ n) (h2 : n ≤ 9223372036854775807) (w : World) :
    Calls Try.prog 30 #[.int .i64 n] w fun e w' => (e = .returned (.string (bO (num n))) ∧ (bO (num n)).size ≤ 9) ∧ Below w.heap.size w w' :=
  (rnum_any n h1 h2 w).mono fun _ _ ⟨a, b⟩ => ⟨⟨a, by rw [bO_size]; exact (num_bounds n h1 h2).2⟩, b⟩
set_option maxRecDepth 100000 in
set_option maxHeartbeats 4000000 in
theorem rform1 (A : Option Addr) (c : Nat) (L : List Int) (hl : L.length ≤ 4096) (hL : Vs L) (w : World) (hR : Rd (Value.int .i64) w A L) :
    Calls Try.prog 11 #[.int .i64 1, .slice A L.length c] w fun e w' => e = .returned (.string (fmB 1 L)) ∧ Below w.heap.size w w' := by
  have HR := Lib.hid hR
  have HL := Lib.hid hL
  have HT := Lib.hid (prL_total L.length hl L (wide hL) [num 1])
  have HE : Hid (fmB 1 L = bO (whole (prL L.length L [num 1] L.length))) := Lib.hid rfl
  have hk1 := (num_small 1 (by omega))
  have HN1 := Lib.hid (fun W => rnum_bO 1 (by omega) (by omega) W)
  have HN2 := Lib.hid (fun W => rnum_bO (L.length : Int) (by omega) (by omega) W)
  have HA0 : Hid (bO (num 1) ++ bO (num (L.length : Int)) = bO (whole (prL L.length L [num 1] 0))) := Lib.hid (by
    rw [bO_append]
    show _ = bO (whole [num (L.length : Int), num 1])
    simp [whole])
  obtain ⟨F, hF⟩ : ∃ F, F = fmB 1 L := ⟨_, rfl⟩
  rw [← hF] at HE ⊢
  obtain ⟨K1, hK1⟩ : ∃ K, K = bO (num 1) := ⟨_, rfl⟩
  obtain ⟨K2, hK2⟩ : ∃ K, K = bO (num (L.length : Int)) := ⟨_, rfl⟩
  rw [← hK1] at HN1 HA0
  rw [← hK2] at HN2 HA0
  clear hF hK1 hK2 hR hL
  go_enter Try.func11, Try.ntmps11
  go_wp2_with fail
  refine (HN1.out _).mono ?_
  rintro e w1 ⟨⟨rfl, hz1⟩, hb⟩
  have HB1 := Lib.hid hb
  clear hb
  go_wp2_with fail
  refine (HN2.out _).mono ?_
  rintro e w2 ⟨⟨rfl, hz2⟩, hb⟩
  have HB2 := Lib.hid (HB1.out.trans (hb.mono HB1.out.size))
  clear hb
  go_wp2_with fail
  go_loopw [5, 6, 7] (fun ov iv _ wr => ∃ (j : Nat) (O : ByteArray), j ≤ L.length ∧ iv = .int .i64 (j : Int) ∧ ov = .string O ∧ Hid (O = bO (whole (prL L.length L [num 1] j))) ∧ Hid (Below w.heap.size w wr)) (fun _ iv _ _ => L.length - (intOf iv).toNat)
  case atStart => exact ⟨0, _, Nat.zero_le _, rfl, rfl, HA0, HB2⟩
  case round =>
    obtain ⟨j, O, hj, rfl, rfl, HO, HB⟩ := hrel
    have hsz := HT.out j
    have hOz : O.size ≤ 50000 := by rw [HO.out, bO_size, whole_len]; omega
    clear hsz
    by_cases hlt : j < L.length
    · obtain ⟨b, off, rfl, hb, h0⟩ := int_at (HR.out.below HB.out) j hlt
      have hbx := HL.out _ (List.getElem_mem hlt)
      have hjI : (j : Int) < (L.length : Int) := by omega
      have hj0 : (0 : Int) ≤ (j : Int) := by omega
      have hw1 : IntKind.i64.wrap ((j : Int) + 1) = (j : Int) + 1 := by simp only [IntKind.wrap_i64]; omega
      have HS : Hid (bO (whole (prL L.length L [num 1] (j + 1))) = O ++ bO (num L[j])) := Lib.hid (by
        rw [HO.out, bO_append, ← whole_cons]
        show bO (whole (num (L.getD j 0) :: prL L.length L [num 1] j)) = _
        rw [show L.getD j 0 = L[j] by simp [List.getD, List.getElem?_eq_getElem hlt]])
      obtain ⟨x, hx⟩ : ∃ x, x = L[j] := ⟨_, rfl⟩
      rw [← hx] at h0 hbx HS
      have HN3 := Lib.hid (fun W => rnum_bO x (by omega) (by omega) W)
      obtain ⟨K3, hK3⟩ : ∃ K, K = bO (num x) := ⟨_, rfl⟩
      rw [← hK3] at HN3 HS
      clear hx hK3
      go_wp2_with fail
      refine (HN3.out _).mono ?_
      rintro e w3 ⟨⟨rfl, hz3⟩, hb3⟩
      have HB3 := Lib.hid (HB.out.trans (hb3.mono HB.out.size))
      clear hb3
      go_wp2_with fail
      go_roundw
      case rel => exact ⟨j + 1, _, by omega, by go_num, rfl, Lib.hid HS.out.symm, HB3⟩
      case measure => simp [intOf] <;> omega
    · obtain rfl : j = L.length := by omega
      go_wp2_with fail
      go_ret
      exact ⟨by rw [HE.out, ← HO.out]; rfl, HB.out⟩
set_option maxRecDepth 100000 in
set_option maxHeartbeats 4000000 in
theorem rform2 (A : Option Addr) (c : Nat) (L : List Int) (hl : L.length ≤ 4096) (hL : Vs L) (w : World) (hR : Rd (Value.int .i64) w A L) :
    Calls Try.prog 11 #[.int .i64 2, .slice A L.length c] w fun e w' => e = .returned (.string (fmB 2 L)) ∧ Below w.heap.size w w' := by
  have HR := Lib.hid hR
  have HL := Lib.hid hL
  have HT := Lib.hid (prL_total L.length hl (dlL 0 L) (dlL_bd hL) [num 2])
  have HE : Hid (fmB 2 L = bO (whole (prL L.length (dlL 0 L) [num 2] L.length))) := Lib.hid rfl
  have hk1 := (num_small 2 (by omega))
  have HN1 := Lib.hid (fun W => rnum_bO 2 (by omega) (by omega) W)
  have HN2 := Lib.hid (fun W => rnum_bO (L.length : Int) (by omega) (by omega) W)
  have HA0 : Hid (bO (num 2) ++ bO (num (L.length : Int)) = bO (whole (prL L.length (dlL 0 L) [num 2] 0))) := Lib.hid (by
    rw [bO_append]
    show _ = bO (whole [num (L.length : Int), num 2])
    simp [whole])
  obtain ⟨F, hF⟩ : ∃ F, F = fmB 2 L := ⟨_, rfl⟩
  rw [← hF] at HE ⊢
  obtain ⟨K1, hK1⟩ : ∃ K, K = bO (num 2) := ⟨_, rfl⟩
  obtain ⟨K2, hK2⟩ : ∃ K, K = bO (num (L.length : Int)) := ⟨_, rfl⟩
  rw [← hK1] at HN1 HA0
  rw [← hK2] at HN2 HA0
  clear hF hK1 hK2 hR hL
  go_enter Try.func11, Try.ntmps11
  go_wp2_with fail
  refine (HN1.out _).mono ?_
  rintro e w1 ⟨⟨rfl, hz1⟩, hb⟩
  have HB1 := Lib.hid hb
  clear hb
  go_wp2_with fail
  refine (HN2.out _).mono ?_
  rintro e w2 ⟨⟨rfl, hz2⟩, hb⟩
  have HB2 := Lib.hid (HB1.out.trans (hb.mono HB1.out.size))
  clear hb
  go_wp2_with fail
  go_loopw [5, 6, 7] (fun ov iv _ wr => ∃ (j : Nat) (O : ByteArray), j ≤ L.length ∧ iv = .int .i64 (j : Int) ∧ ov = .string O ∧ Hid (O = bO (whole (prL L.length (dlL 0 L) [num 2] j))) ∧ Hid (Below w.heap.size w wr)) (fun _ iv _ _ => L.length - (intOf iv).toNat)
  case atStart => exact ⟨0, _, Nat.zero_le _, rfl, rfl, HA0, HB2⟩
  case round =>
    obtain ⟨j, O, hj, rfl, rfl, HO, HB⟩ := hrel
    have hsz := HT.out j
    have hOz : O.size ≤ 50000 := by rw [HO.out, bO_size, whole_len]; omega
    clear hsz
    by_cases hlt : j < L.length
    · obtain ⟨b, off, rfl, hb, h0⟩ := int_at (HR.out.below HB.out) j hlt
      have hbx := HL.out _ (List.getElem_mem hlt)
      have hjI : (j : Int) < (L.length : Int) := by omega
      have hj0 : (0 : Int) ≤ (j : Int) := by omega
      have hw1 : IntKind.i64.wrap ((j : Int) + 1) = (j : Int) + 1 := by simp only [IntKind.wrap_i64]; omega
      have HS : Hid (bO (whole (prL L.length (dlL 0 L) [num 2] (j + 1))) = O ++ bO (num (L[j] - bfL L j))) := Lib.hid (by
        rw [HO.out, bO_append, ← whole_cons]
        show bO (whole (num ((dlL 0 L).getD j 0) :: prL L.length (dlL 0 L) [num 2] j)) = _
        rw [dlL_get 0 L j hlt]
        cases j <;> rfl)
      have hbb := bfL_bd HL.out j
      by_cases hz : j = 0
      · subst hz
        have HX : Hid (L[0] - bfL L 0 = L[0]) := Lib.hid (by show L[0] - 0 = _; omega)
        rw [HX.out] at HS
        obtain ⟨x, hx⟩ : ∃ x, x = L[0] := ⟨_, rfl⟩
        rw [← hx] at h0 hbx HS
        rw [Nat.add_zero] at h0
        have HN3 := Lib.hid (fun W => rnum_bO x (by omega) (by omega) W)
        obtain ⟨K3, hK3⟩ : ∃ K, K = bO (num x) := ⟨_, rfl⟩
        rw [← hK3] at HN3 HS
        rw [show (((0 : Nat) : Int)) = 0 from rfl] at hjI ⊢
        have hn0 : 0 < L.length := hlt
        clear hx hK3 HX hj0 hw1
        go_wp2_with fail
        refine (HN3.out _).mono ?_
        rintro e w3 ⟨⟨rfl, hz3⟩, hb3⟩
        have HB3 := Lib.hid (HB.out.trans (hb3.mono HB.out.size))
        clear hb3
        go_wp2_with fail
        go_roundw
        case rel => exact ⟨1, _, by omega, by go_num, rfl, Lib.hid HS.out.symm, HB3⟩
        case measure => simp [intOf]; omega
      · have hlt' : j - 1 < L.length := by omega
        obtain ⟨b', off', e', _, h1⟩ := int_at (HR.out.below HB.out) (j - 1) hlt'
        cases e'
        have hby := HL.out _ (List.getElem_mem hlt')
        have HX : Hid (bfL L j = L[j - 1]) := Lib.hid (by
          cases j with
          | zero => exact absurd rfl hz
          | succ k =>
            have hk : k < L.length := by omega
            show L.getD k 0 = L[k + 1 - 1]
            simp [List.getD, List.getElem?_eq_getElem hk])
        rw [HX.out] at HS
        obtain ⟨x, hx⟩ : ∃ x, x = L[j] := ⟨_, rfl⟩
        rw [← hx] at h0 hbx HS
        obtain ⟨y, hy⟩ : ∃ y, y = L[j - 1] := ⟨_, rfl⟩
        rw [← hy] at h1 hby HS
        have HN3 := Lib.hid (fun W => rnum_bO (x - y) (by omega) (by omega) W)
        obtain ⟨K3, hK3⟩ : ∃ K, K = bO (num (x - y)) := ⟨_, rfl⟩
        rw [← hK3] at HN3 HS
        have hp0 : 0 < j := by omega
        have hp1 : (1 : Int) ≤ (j : Int) := by omega
        have hp2 : j ≤ L.length := by omega
        have hw2 : IntKind.i64.wrap ((j : Int) - 1) = (j : Int) - 1 := by simp only [IntKind.wrap_i64]; omega
        have hdp : decide ((0 : Int) < (j : Int)) = true := by simp; omega
        have hpt : ((j : Int) - 1).toNat = j - 1 := by omega
        clear hx hK3 HX hy hz hbb
        go_wp2_with fail
        refine (HN3.out _).mono ?_
        rintro e w3 ⟨⟨rfl, hz3⟩, hb3⟩
        have HB3 := Lib.hid (HB.out.trans (hb3.mono HB.out.size))
        clear hb3
        go_wp2_with fail
        go_roundw
        case rel => exact ⟨j + 1, _, by omega, by go_num, rfl, Lib.hid HS.out.symm, HB3⟩
        case measure => simp [intOf] <;> omega
    · obtain rfl : j = L.length := by omega
      go_wp2_with fail
      go_ret
      exact ⟨by rw [HE.out, ← HO.out]; rfl, HB.out⟩
/-- The bytes of some runs. -/
def bdF (R : List Iv) : List UInt8 := (R.map fun y => num y.1 ++ num y.2).flatten
theorem bdF_snoc (R : List Iv) (y : Iv) : bdF (R ++ [y]) = bdF R ++ num y.1 ++ num y.2 := by simp [bdF]
theorem whole_runs (R : List Iv) (fs : List (List UInt8)) : ∀ j, j ≤ R.length → whole (prR R fs j) = whole fs ++ num (R.length : Int) ++ bdF (R.take j) := by
  intro j
  induction j with
  | zero =>
    intro _
    show whole (num (R.length : Int) :: fs) = _
    rw [whole_cons]; simp [bdF]
  | succ j ih =>
    intro hj
    show whole (num (R.getD j (0, 0)).2 :: num (R.getD j (0, 0)).1 :: prR R fs j) = _
    rw [whole_cons, whole_cons, ih (by omega), List.take_succ_eq_append_getElem (by omega), bdF_snoc, show R.getD j (0, 0) = R[j] by simp [List.getD, List.getElem?_eq_getElem (show j < R.length by omega)]]
    simp
theorem rlF_run (L : List Int) (i : Nat) (h0 : i = 0 ∨ L.getD i 0 ≠ L.getD (i - 1) 0) : ∀ k, (∀ q, q ≤ k → L.getD (i + q) 0 = L.getD i 0) → rlF L (i + k + 1) = rlF L i ++ [(L.getD i 0, (k : Int) + 1)] := by
  intro k
  induction k with
  | zero => intro _; exact rlF_new L i h0
  | succ k ih =>
    intro h
    have h1 := ih (fun q hq => h q (by omega))
    have h2 := h (k + 1) (Nat.le_refl _)
    have h3 := h k (by omega)
    have e : i + (k + 1) + 1 = (i + k + 1) + 1 := by omega
    rw [e, rlF_same L (i + k + 1) (by
      rintro (h4 | h4)
      · omega
      · rw [show i + k + 1 = i + (k + 1) by omega, h2, show i + (k + 1) - 1 = i + k by omega, h3] at h4; exact h4 rfl) (rlF L i) (L.getD i 0) ((k : Int) + 1) h1]
    simp
set_option maxRecDepth 100000 in
set_option maxHeartbeats 4000000 in
theorem rform3 (A : Option Addr) (c : Nat) (L : List Int) (hl : L.length ≤ 4096) (hL : Vs L) (w : World) (hR : Rd (Value.int .i64) w A L) :
    Calls Try.prog 11 #[.int .i64 3, .slice A L.length c] w fun e w' => e = .returned (.string (fmB 3 L)) ∧ Below w.heap.size w w' := by
  have HR := Lib.hid hR
  have HL := Lib.hid hL
  have hrl := rlF_len L
  have HRb : Hid (∀ i, i ≤ L.length → (bdF (rlF L i)).length ≤ 18 * i) := Lib.hid (by
    intro i
    intro hi
    have hb := rlF_bd hL i
    have hlen := rlF_len L i
    have : ∀ R : List Iv, (∀ y ∈ R, -1152921504606846976 ≤ y.1 ∧ y.1 ≤ 1152921504606846976 ∧ 1 ≤ y.2 ∧ y.2 ≤ (i : Int)) → (bdF R).length ≤ 18 * R.length := by
      intro R
      induction R with
      | nil => intro _; exact Nat.le_refl _
      | cons y R ih =>
        intro h
        have hy := h y (List.mem_cons_self ..)
        have h1 := (num_bounds y.1 (by omega) (by omega)).2
        have h2 := (num_bounds y.2 (by omega) (by omega)).2
        have h3 := ih (fun z hz => h z (List.mem_cons_of_mem _ hz))
        have e : bdF (y :: R) = (num y.1 ++ num y.2) ++ bdF R := rfl
        rw [e]; simp; omega
    have := this _ hb
    omega)
  have HRl := Lib.hid hrl
  have HE : Hid (fmB 3 L = bO (num 3) ++ bO (num ((rlF L L.length).length : Int)) ++ bO (bdF (rlF L L.length))) := Lib.hid (by
    rw [bO_append, bO_append]
    show bO (whole (prR (rlF L L.length) [num 3] (rlF L L.length).length)) = _
    rw [whole_runs _ _ _ (Nat.le_refl _), List.take_length]
    simp [whole])
  have HRun := Lib.hid (rlF_run L)
  have HN1 := Lib.hid (fun W => rnum_bO 3 (by omega) (by omega) W)
  have HNr := Lib.hid (fun (r : Nat) (hr : r ≤ 4096) W => rnum_bO (r : Int) (by omega) (by omega) W)
  obtain ⟨F, hF⟩ : ∃ F, F = fmB 3 L := ⟨_, rfl⟩
  rw [← hF] at HE ⊢
  obtain ⟨K1, hK1⟩ : ∃ K, K = bO (num 3) := ⟨_, rfl⟩
  rw [← hK1] at HN1 HE
  clear hF hK1 hR hL hrl
  go_enter Try.func11, Try.ntmps11
  go_wp2_with fail
  refine (HN1.out _).mono ?_
  rintro e w1 ⟨⟨rfl, hz1⟩, hb⟩
  have HB1 := Lib.hid hb
  clear hb
  go_wp2_with fail
  go_loopw [8, 9, 10, 11] (fun rv ov iv _ wr => ∃ (i : Nat) (O : ByteArray), i ≤ L.length ∧ iv = .int .i64 (i : Int) ∧ rv = .int .i64 ((rlF L i).length : Int) ∧ ov = .string O ∧ Hid (O = bO (bdF (rlF L i))) ∧ Hid (i = 0 ∨ i = L.length ∨ L.getD i 0 ≠ L.getD (i - 1) 0) ∧ Hid (Below w.heap.size w wr)) (fun _ _ iv _ _ => L.length - (intOf iv).toNat)
  case atStart => exact ⟨0, ⟨#[]⟩, Nat.zero_le _, rfl, rfl, rfl, Lib.hid rfl, Lib.hid (Or.inl rfl), HB1⟩
  case round =>
    obtain ⟨i, O, hi, rfl, rfl, rfl, HO, Hst, HB⟩ := hrel
    obtain ⟨wo, hwo⟩ : ∃ x, x = wr := ⟨_, rfl⟩
    subst hwo
    have hOz : O.size ≤ 80000 := by rw [HO.out, bO_size]; have := HRb.out i hi; omega
    have hrz := HRl.out i
    obtain ⟨r, hr⟩ : ∃ r, r = (rlF L i).length := ⟨_, rfl⟩
    have Hr := Lib.hid hr
    rw [← hr] at hrz ⊢
    clear hr
    by_cases hlt : i < L.length
    · obtain ⟨b, off, rfl, hb, _⟩ := int_at (HR.out.below HB.out) i hlt
      have hiI : (i : Int) < (L.length : Int) := by omega
      have hi0 : (0 : Int) ≤ (i : Int) := by omega
      have hbx := getD_vs HL.out i
      have Hst2 : Hid (i = 0 ∨ L.getD i 0 ≠ L.getD (i - 1) 0) := Lib.hid (by
        rcases Hst.out with h | h | h
        · exact Or.inl h
        · omega
        · exact Or.inr h)
      have HCl : Hid (∀ (W : World), Below w.heap.size w W → ∀ j, j < L.length → W.cell? ⟨b, off + j, none⟩ = some (.int .i64 (L.getD j 0))) := Lib.hid (fun W hW j hj => by
        obtain ⟨b', off', e, _, h⟩ := int_at (HR.out.below hW) j hj
        cases e
        rw [h, show L.getD j 0 = L[j] by simp [List.getD, List.getElem?_eq_getElem hj]])
      obtain ⟨x, hx⟩ : ∃ x, x = L.getD i 0 := ⟨_, rfl⟩
      have Hx := Lib.hid hx
      rw [← hx] at hbx
      clear hx
      go_wp2_with fail
      go_loopw [11] (fun kv wr => ∃ k : Nat, i ≤ k ∧ k ≤ L.length ∧ kv = .int .i64 (k : Int) ∧ Hid (∀ p, i ≤ p → p < k → L.getD p 0 = x) ∧ Hid (Below w.heap.size w wr)) (fun kv _ => L.length - (intOf kv).toNat)
      case atStart => exact ⟨i, Nat.le_refl _, by omega, rfl, Lib.hid (fun p h1 h2 => by omega), HB⟩
      case round =>
        obtain ⟨k, hik, hk, rfl, HQ, HBq⟩ := hrel
        have hk0 : (0 : Int) ≤ (k : Int) := by omega
        by_cases hlt2 : k < L.length
        · have hkI : (k : Int) < (L.length : Int) := by omega
          have c1 := HCl.out wr HBq.out k hlt2
          have c2 := HCl.out wr HBq.out i hlt
          rw [← Hx.out] at c2
          by_cases hyx : L.getD k 0 = x
          · rw [hyx] at c1
            have HQ2 : Hid (∀ p, i ≤ p → p < k + 1 → L.getD p 0 = x) := Lib.hid (fun p h1 h2 => by
              by_cases e : p = k
              · subst e; exact hyx
              · exact HQ.out p h1 (by omega))
            have hw1 : IntKind.i64.wrap ((k : Int) + 1) = (k : Int) + 1 := by simp only [IntKind.wrap_i64]; omega
            clear hyx
            go_wp2_with fail
            go_quiet (fail)
            go_wp2_with fail
            go_roundw
            case rel => exact ⟨k + 1, by omega, by omega, by go_num, HQ2, Lib.hid (below_drewN HBq.out _)⟩
            case measure => simp [intOf] <;> omega
          · have hik2 : i < k := by
              rcases Nat.lt_or_ge i k with h | h
              · exact h
              · exfalso; apply hyx; rw [show k = i by omega]; exact Hx.out.symm
            have Hyx := Lib.hid hyx
            obtain ⟨y, hy⟩ : ∃ y, y = L.getD k 0 := ⟨_, rfl⟩
            rw [← hy] at c1 hyx
            have hne : (y == x) = false := by simpa using hyx
            have HCd : Hid (∀ n, (wr.drewN n).cell? ⟨b, off + i, none⟩ = some (.int .i64 x)) := Lib.hid (fun n => c2)
            clear hyx hy
            have HRn : Hid (rlF L k = rlF L i ++ [(x, (k : Int) - (i : Int))]) := Lib.hid (by
              have h := HRun.out i Hst2.out (k - i - 1) (fun q hq => by rw [← Hx.out]; exact HQ.out (i + q) (by omega) (by omega))
              rw [show i + (k - i - 1) + 1 = k by omega, show ((k - i - 1 : Nat) : Int) + 1 = (k : Int) - (i : Int) by omega, ← Hx.out] at h
              exact h)
            have HLen : Hid ((rlF L k).length = r + 1) := Lib.hid (by rw [HRn.out, List.length_append, ← Hr.out]; rfl)
            have HN3 := Lib.hid (fun W => rnum_bO x (by omega) (by omega) W)
            have HN4 := Lib.hid (fun W => rnum_bO ((k : Int) - (i : Int)) (by omega) (by omega) W)
            have HBy : Hid (bO (bdF (rlF L k)) = O ++ bO (num x) ++ bO (num ((k : Int) - (i : Int)))) := Lib.hid (by rw [HRn.out, bdF_snoc, HO.out, bO_append, bO_append])
            obtain ⟨K3, hK3⟩ : ∃ K, K = bO (num x) := ⟨_, rfl⟩
            obtain ⟨K4, hK4⟩ : ∃ K, K = bO (num ((k : Int) - (i : Int))) := ⟨_, rfl⟩
            rw [← hK3] at HN3 HBy
            rw [← hK4] at HN4 HBy
            have Hst3 : Hid (k = 0 ∨ k = L.length ∨ L.getD k 0 ≠ L.getD (k - 1) 0) := Lib.hid (by
              refine Or.inr (Or.inr ?_)
              rw [HQ.out (k - 1) (by omega) (by omega)]
              exact Hyx.out)
            have hw3 : IntKind.i64.wrap ((r : Int) + 1) = (r : Int) + 1 := by simp only [IntKind.wrap_i64]; omega
            have hw4 : IntKind.i64.wrap ((k : Int) - (i : Int)) = (k : Int) - (i : Int) := by simp only [IntKind.wrap_i64]; omega
            have hri : (r : Int) ≤ 4096 := by omega
            clear hK3 hK4
            go_wp2_with fail
            go_quiet (fail)
            have HBd := Lib.hid (below_drewN HBq.out nq)
            have c3 := HCd.out nq
            clear c1 c2
            generalize wr.drewN nq = wg at *
            go_wp2_with fail
            refine (HN3.out _).mono ?_
            rintro e w3 ⟨⟨rfl, hz3⟩, hb3⟩
            have HB3 := Lib.hid (HBd.out.trans (hb3.mono HBd.out.size))
            clear hb3
            go_wp2_with fail
            refine (HN4.out _).mono ?_
            rintro e w4 ⟨⟨rfl, hz4⟩, hb4⟩
            have HB4 := Lib.hid (HB3.out.trans (hb4.mono HB3.out.size))
            clear hb4
            go_wp2_with fail
            go_roundw
            case rel => exact ⟨k, _, by omega, rfl, by rw [HLen.out]; go_num, rfl, Lib.hid HBy.out.symm, Hst3, HB4⟩
            case measure => simp [intOf]; omega
        · obtain rfl : k = L.length := by omega
          have hik2 : i < L.length := hlt
          have c2 := HCl.out wr HBq.out i hlt
          rw [← Hx.out] at c2
          have HCd : Hid (∀ n, (wr.drewN n).cell? ⟨b, off + i, none⟩ = some (.int .i64 x)) := Lib.hid (fun n => c2)
          have HRn : Hid (rlF L L.length = rlF L i ++ [(x, (L.length : Int) - (i : Int))]) := Lib.hid (by
            have h := HRun.out i Hst2.out (L.length - i - 1) (fun q hq => by rw [← Hx.out]; exact HQ.out (i + q) (by omega) (by omega))
            rw [show i + (L.length - i - 1) + 1 = L.length by omega, show ((L.length - i - 1 : Nat) : Int) + 1 = (L.length : Int) - (i : Int) by omega, ← Hx.out] at h
            exact h)
          have HLen : Hid ((rlF L L.length).length = r + 1) := Lib.hid (by rw [HRn.out, List.length_append, ← Hr.out]; rfl)
          have HN3 := Lib.hid (fun W => rnum_bO x (by omega) (by omega) W)
          have HN4 := Lib.hid (fun W => rnum_bO ((L.length : Int) - (i : Int)) (by omega) (by omega) W)
          have HBy : Hid (bO (bdF (rlF L L.length)) = O ++ bO (num x) ++ bO (num ((L.length : Int) - (i : Int)))) := Lib.hid (by rw [HRn.out, bdF_snoc, HO.out, bO_append, bO_append])
          obtain ⟨K3, hK3⟩ : ∃ K, K = bO (num x) := ⟨_, rfl⟩
          obtain ⟨K4, hK4⟩ : ∃ K, K = bO (num ((L.length : Int) - (i : Int))) := ⟨_, rfl⟩
          rw [← hK3] at HN3 HBy
          rw [← hK4] at HN4 HBy
          have Hst3 : Hid (L.length = 0 ∨ L.length = L.length ∨ L.getD L.length 0 ≠ L.getD (L.length - 1) 0) := Lib.hid (Or.inr (Or.inl rfl))
          have hw3 : IntKind.i64.wrap ((r : Int) + 1) = (r : Int) + 1 := by simp only [IntKind.wrap_i64]; omega
          have hw4 : IntKind.i64.wrap ((L.length : Int) - (i : Int)) = (L.length : Int) - (i : Int) := by simp only [IntKind.wrap_i64]; omega
          have hri : (r : Int) ≤ 4096 := by omega
          clear hK3 hK4
          go_wp2_with fail
          go_quiet (fail)
          have HBd := Lib.hid (below_drewN HBq.out nq)
          have c3 := HCd.out nq
          clear c2
          generalize wr.drewN nq = wg at *
          go_wp2_with fail
          refine (HN3.out _).mono ?_
          rintro e w3 ⟨⟨rfl, hz3⟩, hb3⟩
          have HB3 := Lib.hid (HBd.out.trans (hb3.mono HBd.out.size))
          clear hb3
          go_wp2_with fail
          refine (HN4.out _).mono ?_
          rintro e w4 ⟨⟨rfl, hz4⟩, hb4⟩
          have HB4 := Lib.hid (HB3.out.trans (hb4.mono HB3.out.size))
          clear hb4
          go_wp2_with fail
          go_roundw
          case rel => exact ⟨L.length, _, by omega, rfl, by rw [HLen.out]; go_num, rfl, Lib.hid HBy.out.symm, Lib.hid (Or.inr (Or.inl rfl)), HB4⟩
          case measure => simp [intOf]; omega
    · obtain rfl : i = L.length := by omega
      have HN3 := Lib.hid (fun W => HNr.out r (by omega) W)
      rw [Hr.out] at HN3
      rw [← HO.out] at HE
      obtain ⟨K3, hK3⟩ : ∃ K, K = bO (num ((rlF L L.length).length : Int)) := ⟨_, rfl⟩
      rw [← hK3] at HN3 HE
      rw [← Hr.out] at HN3
      clear hK3
      go_wp2_with fail
      refine (HN3.out _).mono ?_
      rintro e w3 ⟨⟨rfl, hz3⟩, hb3⟩
      have HB3 := Lib.hid (HB.out.trans (hb3.mono HB.out.size))
      clear hb3
      go_wp2_with fail
      go_ret
      exact ⟨by rw [HE.out]; rfl, HB3.out⟩
set_option maxRecDepth 100000 in
set_option maxHeartbeats 4000000 in
theorem rform4 (A : Option Addr) (c : Nat) (L : List Int) (hl : L.length ≤ 4096) (hL : Vs L) (w : World) (hR : Rd (Value.int .i64) w A L) :
    Calls Try.prog 11 #[.int .i64 4, .slice A L.length c] w fun e w' => e = .returned (.string (fmB 4 L)) ∧ Below w.heap.size w w' := by
  have HR := Lib.hid hR
  have b1 := lsF_bd hL
  have hw62 := wdF_le hL
  have hsz := szF_le L.length (wdF L) hl hw62
  have hpl := pkB_len L
  have HN1 := Lib.hid (fun W => rnum_bO 4 (by omega) (by omega) W)
  have HN2 := Lib.hid (fun W => rnum_bO (L.length : Int) (by omega) (by omega) W)
  have HN3 := Lib.hid (fun W => rnum_bO (lsF L) (by omega) (by omega) W)
  have HN4 := Lib.hid (fun W => rnum_bO ((wdF L : Nat) : Int) (by omega) (by omega) W)
  have HN5 := Lib.hid (fun W => rnum_bO (((pkB L).length : Nat) : Int) (by omega) (by omega) W)
  have HZ := Lib.hid (fun W h => rzone_any A c L (by omega) W h)
  have HBt := Lib.hid (fun W h => rbits_any A c L hl hL W h)
  have HE : Hid (fmB 4 L = bO (num 4) ++ bO (num (L.length : Int)) ++ bO (num (lsF L)) ++ bO (num ((wdF L : Nat) : Int)) ++ bO (num (((pkB L).length : Nat) : Int)) ++ bO (pkB L)) := Lib.hid (by
    rw [bO_append, bO_append, bO_append, bO_append, bO_append]
    show bO (whole (prK L [num 4])) = _
    congr 1
    unfold prK text
    rw [show ((⟨(pkB L).toArray⟩ : ByteArray).size : Int) = (((pkB L).length : Nat) : Int) by congr 1]
    simp [whole])
  have hBz : (bO (pkB L)).size ≤ 40000 := by rw [bO_size]; omega
  have HBz : Hid (((bO (pkB L)).size : Int) = (((pkB L).length : Nat) : Int)) := Lib.hid (by rw [bO_size])
  change Hid (∀ W, Rd (Value.int .i64) W A L → Calls _ _ _ W fun e w' => e = .returned (.tuple #[.int .i64 ((wdF L : Nat) : Int), .string (bO (pkB L))]) ∧ Below W.heap.size W w') at HBt
  rw [← HBz.out] at HN5 HE
  obtain ⟨F, hF⟩ : ∃ F, F = fmB 4 L := ⟨_, rfl⟩
  rw [← hF] at HE ⊢
  obtain ⟨PB, hPB⟩ : ∃ P, P = bO (pkB L) := ⟨_, rfl⟩
  rw [← hPB] at HN5 HE hBz HBt
  obtain ⟨K1, hK1⟩ : ∃ K, K = bO (num 4) := ⟨_, rfl⟩
  obtain ⟨K2, hK2⟩ : ∃ K, K = bO (num (L.length : Int)) := ⟨_, rfl⟩
  obtain ⟨K3, hK3⟩ : ∃ K, K = bO (num (lsF L)) := ⟨_, rfl⟩
  obtain ⟨K4, hK4⟩ : ∃ K, K = bO (num ((wdF L : Nat) : Int)) := ⟨_, rfl⟩
  obtain ⟨K5, hK5⟩ : ∃ K, K = bO (num (PB.size : Int)) := ⟨_, rfl⟩
  rw [← hK1] at HN1 HE
  rw [← hK2] at HN2 HE
  rw [← hK3] at HN3 HE
  rw [← hK4] at HN4 HE
  rw [← hK5] at HN5 HE
  obtain ⟨ls, hls⟩ : ∃ ls, ls = lsF L := ⟨_, rfl⟩
  obtain ⟨gt, hgt⟩ : ∃ gt, gt = gtF L := ⟨_, rfl⟩
  obtain ⟨wd, hwd⟩ : ∃ wd, wd = wdF L := ⟨_, rfl⟩
  rw [← hls] at HN3 HZ
  rw [← hgt] at HZ
  rw [← hwd] at HN4 HBt
  clear hF hPB hK1 hK2 hK3 hK4 hK5 hls hgt hwd hR hL hpl hsz HBz b1 hw62
  go_enter Try.func11, Try.ntmps11
  go_wp2_with fail
  refine (HN1.out _).mono ?_
  rintro e w1 ⟨⟨rfl, hz1⟩, hb⟩
  have HB1 := Lib.hid hb
  clear hb
  go_wp2_with fail
  refine (HZ.out w1 (HR.out.below HB1.out)).mono ?_
  rintro e w2 ⟨rfl, hb⟩
  have HB2 := Lib.hid (HB1.out.trans (hb.mono HB1.out.size))
  clear hb
  go_wp2_with fail
  refine (HBt.out w2 (HR.out.below HB2.out)).mono ?_
  rintro e w3 ⟨rfl, hb⟩
  have HB3 := Lib.hid (HB2.out.trans (hb.mono HB2.out.size))
  clear hb
  go_wp2_with fail
  refine (HN2.out _).mono ?_
  rintro e w4 ⟨⟨rfl, hz4⟩, hb⟩
  have HB4 := Lib.hid (HB3.out.trans (hb.mono HB3.out.size))
  clear hb
  go_wp2_with fail
  refine (HN3.out _).mono ?_
  rintro e w5 ⟨⟨rfl, hz5⟩, hb⟩
  have HB5 := Lib.hid (HB4.out.trans (hb.mono HB4.out.size))
  clear hb
  go_wp2_with fail
  refine (HN4.out _).mono ?_
  rintro e w6 ⟨⟨rfl, hz6⟩, hb⟩
  have HB6 := Lib.hid (HB5.out.trans (hb.mono HB5.out.size))
  clear hb
  go_wp2_with fail
  refine (HN5.out _).mono ?_
  rintro e w7 ⟨⟨rfl, hz7⟩, hb⟩
  have HB7 := Lib.hid (HB6.out.trans (hb.mono HB6.out.size))
  clear hb
  go_wp2_with fail
  go_ret
  exact ⟨by rw [HE.out]; rfl, HB7.out⟩
theorem rform_any (k : Int) (hk : 1 ≤ k ∧ k ≤ 4) (A : Option Addr) (c : Nat) (L : List Int) (hl : L.length ≤ 4096) (hL : Vs L) (w : World) (hR : Rd (Value.int .i64) w A L) :
    Calls Try.prog 11 #[.int .i64 k, .slice A L.length c] w fun e w' => e = .returned (.string (fmB k L)) ∧ Below w.heap.size w w' := by
  rcases (by omega : k = 1 ∨ k = 2 ∨ k = 3 ∨ k = 4) with rfl | rfl | rfl | rfl
  · exact rform1 A c L hl hL w hR
  · exact rform2 A c L hl hL w hR
  · exact rform3 A c L hl hL w hR
  · exact rform4 A c L hl hL w hR
end Go.Proofs.Ytomjgkflnfjjbaa
