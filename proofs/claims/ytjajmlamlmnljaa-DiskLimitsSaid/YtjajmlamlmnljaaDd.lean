/- attribute.IsName. -/
import Derived.Test.YtjajmlamlmnljaaDc
namespace Go.Proofs.Ytjajmlamlmnljaa
open Go.ChangeShapes Go.WideShapes Go.ChangeAt Go.RowKit Go.Joins

theorem conv_bytes (S : ByteArray) (W : World) : ∃ (c : Nat) (W1 : World), (convert 9 59 (.string S)).run Try.prog W = .ok (.slice (some ⟨W.heap.size, 0, none⟩) S.size c) W1 ∧ (∀ j (hj : j < S.size), W1.cell? ⟨W.heap.size, j, none⟩ = some (.int .u8 (S[j].toNat : Int))) ∧ Below W.heap.size W W1 ∧ W.heap.size < W1.heap.size := by
  refine ⟨_, _, run_bytes_of_string W 9 59 5 S Try.underlying9 Try.underlying59 Try.underlying5, fun j hj => ?_, ((Below.refl _ _).drew).alloc (Nat.le_refl _) _, by simp⟩
  have hj' : j < S.data.size := hj
  have hb := Deep.blk_alloc_new W.drew (.cells (bytesRow S (grownCap W S.size 0 5)) 5 ((bytesRow S (grownCap W S.size 0 5)).size, (bytesRow S (grownCap W S.size 0 5)).size + 1))
  rw [cell_of_row _ W.heap.size j _ _ _ hb, bytesRow_at S _ j hj']
  rfl
/-- A byte that can be printed. -/
def okC (c : UInt8) : Bool := decide (33 ≤ c.toNat) && decide (c.toNat ≤ 126)
def okK (t : ByteArray) : Bool := t.data.toList.all okC
/-- A name. -/
def nmK (t : ByteArray) : Bool := decide (1 ≤ t.size) && (decide (t.size ≤ 64) && okK t)
theorem okK_all {t : ByteArray} (h : ∀ j (hj : j < t.size), okC t[j] = true) : okK t = true := by
  unfold okK
  rw [List.all_eq_true]
  intro x hx
  obtain ⟨j, hj, rfl⟩ := List.mem_iff_getElem.1 hx
  exact h j (by simpa using hj)
theorem okK_not {t : ByteArray} (j : Nat) (hj : j < t.size) (h : okC t[j] = false) : okK t = false := by
  cases hk : okK t with
  | false => rfl
  | true =>
    unfold okK at hk
    rw [List.all_eq_true] at hk
    have := hk t[j] (List.mem_iff_getElem.2 ⟨j, by simpa using hj, rfl⟩)
    rw [this] at h; cases h
set_option maxRecDepth 100000 in
set_option maxHeartbeats 1000000 in
theorem between_any (t : ByteArray) (ht : t.size ≤ 1000000) (w : World) :
    Calls Try.prog 62 #[.string t, .int .u8 33, .int .u8 126] w fun e w' => e = .returned (.bool (okK t)) ∧ Below w.heap.size w w' := by
  obtain ⟨c, W1, hcv, hcells, hB, hlt⟩ := conv_bytes t w
  have HC := Lib.hid hcells
  have HB := Lib.hid hB
  have HN := Lib.hid (@okK_not t)
  have HA := Lib.hid (@okK_all t)
  obtain ⟨r, hr⟩ : ∃ r, r = okK t := ⟨_, rfl⟩
  rw [← hr] at HN HA ⊢
  clear hcells hB hr
  go_enter Try.func62, Try.ntmps62
  go_wp2_with fail
  go_loop [12] (fun iv => ∃ k : Nat, k ≤ t.size ∧ iv = .int .i64 (k : Int) ∧ Hid (∀ j (hj : j < t.size), j < k → okC t[j] = true)) (fun iv => t.size - (intOf iv).toNat)
  case atStart => exact ⟨0, Nat.zero_le _, rfl, Lib.hid (fun j _ h => absurd h (by omega))⟩
  case round =>
    obtain ⟨k, hk, rfl, HO⟩ := hrel
    by_cases hl : k < t.size
    · have hc := HC.out k hl
      have hkI : (k : Int) < (t.size : Int) := by omega
      have hk0 : (0 : Int) ≤ (k : Int) := by omega
      have hu := UInt8.toNat_lt t[k]
      have HK := Lib.hid (HN.out k hl)
      have HT : Hid (∀ x, x = t[k] → (∀ j (hj : j < t.size), j < k + 1 → (j = k → okC x = true) → okC t[j] = true)) := Lib.hid (fun x hx j hj h1 h2 => by
        by_cases e : j = k
        · subst e; rw [← hx]; exact h2 rfl
        · exact HO.out j hj (by omega))
      obtain ⟨x, hx⟩ : ∃ x, x = t[k] := ⟨_, rfl⟩
      rw [← hx] at hc hu HK
      have HT := HT.out x hx
      have HTT := Lib.hid HT
      have HX : Hid (okC x = (decide (33 ≤ x.toNat) && decide (x.toNat ≤ 126))) := Lib.hid rfl
      clear hx HT
      by_cases h1 : x.toNat < 33
      · have d1 : decide (((x.toNat : Nat) : Int) < 33) = true := by simp; omega
        have HR := Lib.hid (HK.out (by rw [HX.out]; simp; omega))
        go_wp2_with fail
        go_ret
        exact ⟨by rw [HR.out]; rfl, HB.out⟩
      · by_cases h2 : 126 < x.toNat
        · have d1 : decide (((x.toNat : Nat) : Int) < 33) = false := by simp; omega
          have d2 : decide ((126 : Int) < ((x.toNat : Nat) : Int)) = true := by simp; omega
          have HR := Lib.hid (HK.out (by rw [HX.out]; simp; omega))
          go_wp2_with fail
          go_ret
          exact ⟨by rw [HR.out]; rfl, HB.out⟩
        · have d1 : decide (((x.toNat : Nat) : Int) < 33) = false := by simp; omega
          have d2 : decide ((126 : Int) < ((x.toNat : Nat) : Int)) = false := by simp; omega
          have HR : Hid (okC x = true) := Lib.hid (by rw [HX.out]; simp; omega)
          go_wp2_with fail
          go_round
          case rel => exact ⟨k + 1, by omega, by go_num, Lib.hid (fun j hj h => HTT.out j hj h (fun _ => HR.out))⟩
          case measure => simp [intOf]; omega
    · obtain rfl : k = t.size := by omega
      have HR := Lib.hid (HA.out (fun j hj => HO.out j hj hj))
      go_wp2_with fail
      go_ret
      exact ⟨by rw [HR.out]; rfl, HB.out⟩
set_option maxRecDepth 100000 in
theorem name_any (t : ByteArray) (ht : t.size ≤ 1000000) (w : World) :
    Calls Try.prog 57 #[.string t] w fun e w' => e = .returned (.bool (nmK t)) ∧ Below w.heap.size w w' := by
  have HBt := Lib.hid (fun W => between_any t ht W)
  have HV : Hid (nmK t = (decide (1 ≤ t.size) && (decide (t.size ≤ 64) && okK t))) := Lib.hid rfl
  obtain ⟨r, hr⟩ : ∃ r, r = okK t := ⟨_, rfl⟩
  rw [← hr] at HBt HV
  obtain ⟨q, hq⟩ : ∃ q, q = nmK t := ⟨_, rfl⟩
  rw [← hq] at HV ⊢
  clear hr hq
  go_enter Try.func57, Try.ntmps57
  by_cases h1 : 1 ≤ t.size
  · have d1 : decide ((1 : Int) ≤ (t.size : Int)) = true := by simp; omega
    by_cases h2 : t.size ≤ 64
    · have d2 : decide ((t.size : Int) ≤ 64) = true := by simp; omega
      go_wp2_with fail
      refine (HBt.out _).mono ?_
      rintro e w1 ⟨rfl, hb⟩
      go_wp2_with fail
      go_ret
      exact ⟨by rw [HV.out, decide_eq_true h1, decide_eq_true h2]; simp, hb⟩
    · have d2 : decide ((t.size : Int) ≤ 64) = false := by simp; omega
      go_wp2_with fail
      go_ret
      exact ⟨by rw [HV.out, decide_eq_false h2]; simp, Below.refl _ _⟩
  · have d1 : decide ((1 : Int) ≤ (t.size : Int)) = false := by simp; omega
    go_wp2_with fail
    go_ret
    exact ⟨by rw [HV.out, decide_eq_false h1]; simp, Below.refl _ _⟩
end Go.Proofs.Ytjajmlamlmnljaa
