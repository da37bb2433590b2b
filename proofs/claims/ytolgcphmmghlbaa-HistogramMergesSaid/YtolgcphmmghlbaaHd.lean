/- Total, Sum, AtMost, indexOf. -/
import Derived.Test.YtolgcphmmghlbaaHc
namespace Go.Proofs.Ytolgcphmmghlbaa
open Go.ChangeShapes Go.WideShapes Go.ChangeAt Go.RowKit

theorem Rs.below {w w' : World} {B : Nat} {A : Option Addr} {cs : List Value} (h : Rs w B A cs) (hb : Below B w w') : Rs w' B A cs := fun j hj => by
  obtain ⟨b, off, e, hlt, hc⟩ := h j hj
  exact ⟨b, off, e, hlt, (hb.cell (p := ⟨b, off + j, none⟩) hlt).trans hc⟩
/-- Buckets as they can stand in a histogram. -/
def VB (L : List Iv) : Prop := ∀ y ∈ L, 0 ≤ y.1 ∧ y.1 < 305 ∧ 1 ≤ y.2 ∧ y.2 ≤ 1048576
theorem VB.at_ {L : List Iv} (h : VB L) (j : Nat) (hj : j < L.length) : ∃ n : Nat, L[j].1 = (n : Int) ∧ n < 305 ∧ 1 ≤ L[j].2 ∧ L[j].2 ≤ 1048576 := by
  have := h _ (List.getElem_mem hj)
  exact ⟨L[j].1.toNat, by omega, by omega, by omega, by omega⟩
/-- The total of the first j buckets. -/
def ttN (L : List Iv) : Nat → Int
  | 0 => 0
  | j + 1 => ttN L j + (L.getD j (0, 0)).2
theorem getD_iv {L : List Iv} (j : Nat) (hj : j < L.length) : L.getD j (0, 0) = L[j] := by simp [List.getD, List.getElem?_eq_getElem hj]
theorem ttN_bd {L : List Iv} (h : VB L) (j : Nat) (hj : j ≤ L.length) : (j : Int) ≤ ttN L j ∧ ttN L j ≤ 1048576 * (j : Int) := by
  induction j with
  | zero => exact ⟨Int.le_refl _, Int.le_refl _⟩
  | succ j ih =>
    have h1 := ih (by omega)
    obtain ⟨n, _, _, h2, h3⟩ := h.at_ j (by omega)
    show _ ≤ ttN L j + (L.getD j (0, 0)).2 ∧ ttN L j + (L.getD j (0, 0)).2 ≤ _
    rw [getD_iv j (by omega)]
    omega
set_option maxRecDepth 100000 in
set_option maxHeartbeats 2000000 in
theorem total_any (A : Option Addr) (c : Nat) (L : List Iv) (hl : L.length ≤ 305) (hV : VB L) (w : World) (hR : Rs w w.heap.size A (ivCells L)) :
    Calls Try.prog 24 #[.agg #[.slice A L.length c]] w fun e w' => e = .returned (.int .i64 (ttN L L.length)) ∧ Below w.heap.size w w' := by
  have HR := Lib.hid hR
  have HV := Lib.hid hV
  have HT := Lib.hid (fun j hj => ttN_bd hV j hj)
  clear hR hV
  go_enter Try.func24, Try.ntmps24
  go_wp2_with fail
  go_loopw [3, 9] (fun tv iv wr => ∃ j : Nat, j ≤ L.length ∧ iv = .int .i64 (j : Int) ∧ tv = .int .i64 (ttN L j) ∧ Hid (Below w.heap.size w wr)) (fun _ iv _ => L.length - (intOf iv).toNat)
  case atStart => exact ⟨0, Nat.zero_le _, rfl, rfl, Lib.hid ((Below.refl _ _).alloc (Nat.le_refl _) _)⟩
  case round =>
    obtain ⟨j, hj, rfl, rfl, HB⟩ := hrel
    have hsz := HB.out.size
    by_cases hlt : j < L.length
    · obtain ⟨b, off, rfl, hb, h0, h1⟩ := iv_at (Rs.below HR.out HB.out) j hlt
      obtain ⟨n, hn, hn5, hc1, hc2⟩ := HV.out.at_ j hlt
      have ht := HT.out j hj
      have HS : Hid (ttN L (j + 1) = ttN L j + L[j].2) := Lib.hid (by show ttN L j + (L.getD j (0, 0)).2 = _; rw [getD_iv j hlt])
      obtain ⟨x, hx⟩ : ∃ x, x = L[j] := ⟨_, rfl⟩
      rw [← hx] at h0 h1 hn hc1 hc2 HS
      obtain ⟨x1, x2⟩ := x
      dsimp only at h0 h1 hn hc1 hc2 HS
      obtain ⟨t, htt⟩ : ∃ t, t = ttN L j := ⟨_, rfl⟩
      rw [← htt] at ht HS ⊢
      have hjI : (j : Int) < (L.length : Int) := by omega
      have hj0 : (0 : Int) ≤ (j : Int) := by omega
      have ht1 : 0 ≤ t := by omega
      have ht2 : t ≤ 400000000 := by omega
      have hw1 : IntKind.i64.wrap ((j : Int) + 1) = (j : Int) + 1 := by simp only [IntKind.wrap_i64]; omega
      clear hx hn hn5 htt ht
      go_wp2_with fail
      go_roundw
      case rel => exact ⟨j + 1, by omega, by go_num, by rw [HS.out], Lib.hid (HB.out.alloc hsz _)⟩
      case measure => simp [intOf] <;> omega
    · obtain rfl : j = L.length := by omega
      go_wp2_with fail
      go_ret
      exact ⟨rfl, HB.out⟩
/-- The counts of those of the first j buckets whose bound is at most a number. -/
def amS (f : Nat → Nat) (L : List Iv) (v : Int) : Nat → Int
  | 0 => 0
  | j + 1 => amS f L v j + (if ((f (L.getD j (0, 0)).1.toNat : Nat) : Int) ≤ v then (L.getD j (0, 0)).2 else 0)
theorem amS_bd {L : List Iv} (h : VB L) (f : Nat → Nat) (v : Int) (j : Nat) (hj : j ≤ L.length) : 0 ≤ amS f L v j ∧ amS f L v j ≤ 1048576 * (j : Int) := by
  induction j with
  | zero => exact ⟨Int.le_refl _, Int.le_refl _⟩
  | succ j ih =>
    have h1 := ih (by omega)
    obtain ⟨n, _, _, h2, h3⟩ := h.at_ j (by omega)
    show _ ≤ amS f L v j + _ ∧ amS f L v j + _ ≤ _
    rw [getD_iv j (by omega)]
    split <;> omega
theorem amS_step {L : List Iv} (f : Nat → Nat) (v : Int) (j : Nat) (hj : j < L.length) (n : Nat) (hn : L[j].1 = (n : Int)) : amS f L v (j + 1) = amS f L v j + (if ((f n : Nat) : Int) ≤ v then L[j].2 else 0) := by
  show amS f L v j + _ = _
  rw [getD_iv j hj, hn, Int.toNat_natCast]
set_option maxRecDepth 100000 in
set_option maxHeartbeats 4000000 in
theorem atmost_any (A : Option Addr) (c : Nat) (L : List Iv) (hl : L.length ≤ 305) (hV : VB L) (v : Int) (w : World) (hR : Rs w w.heap.size A (ivCells L)) :
    Calls Try.prog 33 #[.agg #[.slice A L.length c], .int .i64 v] w fun e w' => e = .returned (.tuple #[.int .i64 (amS hiN L v L.length), .int .i64 (amS loN L v L.length)]) ∧ Below w.heap.size w w' := by
  have HR := Lib.hid hR
  have HV := Lib.hid hV
  have HT1 := Lib.hid (fun j hj => amS_bd hV hiN v j hj)
  have HT2 := Lib.hid (fun j hj => amS_bd hV loN v j hj)
  clear hR hV
  go_enter Try.func33, Try.ntmps33
  go_wp2_with fail
  go_loopw [4, 5, 14] (fun lv gv iv wr => ∃ j : Nat, j ≤ L.length ∧ iv = .int .i64 (j : Int) ∧ lv = .int .i64 (amS hiN L v j) ∧ gv = .int .i64 (amS loN L v j) ∧ Hid (Below w.heap.size w wr)) (fun _ _ iv _ => L.length - (intOf iv).toNat)
  case atStart => exact ⟨0, Nat.zero_le _, rfl, rfl, rfl, Lib.hid ((Below.refl _ _).alloc (Nat.le_refl _) _)⟩
  case round =>
    obtain ⟨j, hj, rfl, rfl, rfl, HB⟩ := hrel
    have hsz := HB.out.size
    by_cases hlt : j < L.length
    · obtain ⟨b, off, rfl, hb, h0, h1⟩ := iv_at (Rs.below HR.out HB.out) j hlt
      obtain ⟨n, hn, hn5, hc1, hc2⟩ := HV.out.at_ j hlt
      have ht := HT1.out j hj
      have hu := HT2.out j hj
      have HS1 := Lib.hid (amS_step hiN v j hlt n hn)
      have HS2 := Lib.hid (amS_step loN v j hlt n hn)
      obtain ⟨x, hx⟩ : ∃ x, x = L[j] := ⟨_, rfl⟩
      rw [← hx] at h0 h1 hn hc1 hc2 HS1 HS2
      obtain ⟨x1, x2⟩ := x
      dsimp only at h0 h1 hn hc1 hc2 HS1 HS2
      subst hn
      obtain ⟨t, htt⟩ : ∃ t, t = amS hiN L v j := ⟨_, rfl⟩
      obtain ⟨u, huu⟩ : ∃ u, u = amS loN L v j := ⟨_, rfl⟩
      rw [← htt] at ht HS1 ⊢
      rw [← huu] at hu HS2 ⊢
      have HBd := Lib.hid (fun W => bounds_ok n hn5 W)
      obtain ⟨lo, hlo⟩ : ∃ lo, lo = loN n := ⟨_, rfl⟩
      obtain ⟨hi, hhi⟩ : ∃ hi, hi = hiN n := ⟨_, rfl⟩
      rw [← hlo] at HBd HS2
      rw [← hhi] at HBd HS1
      have hjI : (j : Int) < (L.length : Int) := by omega
      have hj0 : (0 : Int) ≤ (j : Int) := by omega
      have ht1 : 0 ≤ t := by omega
      have ht2 : t ≤ 400000000 := by omega
      have hu1 : 0 ≤ u := by omega
      have hu2 : u ≤ 400000000 := by omega
      have hw1 : IntKind.i64.wrap ((j : Int) + 1) = (j : Int) + 1 := by simp only [IntKind.wrap_i64]; omega
      clear hx hn5 htt huu ht hu hlo hhi
      have HBa := Lib.hid (HB.out.alloc hsz (.cells #[.int .i64 (n : Int), .int .i64 x2] 66))
      have HKa : Hid ((wr.alloc (.cells #[.int .i64 (n : Int), .int .i64 x2] 66)).heap[wr.heap.size]? = some (.cells #[.int .i64 (n : Int), .int .i64 x2] 66 (0, 0))) := Lib.hid (Deep.blk_alloc_new wr _)
      by_cases p1 : (hi : Int) ≤ v <;> by_cases p2 : (lo : Int) ≤ v
      all_goals
        first | rw [if_pos p1] at HS1 | rw [if_neg p1] at HS1
        first | rw [if_pos p2] at HS2 | rw [if_neg p2] at HS2
        go_wp2_with fail
        refine (HBd.out _).mono ?_
        rintro e w3 ⟨rfl, hb3⟩
        have HB3 := Lib.hid (HBa.out.trans (hb3.mono HBa.out.size))
        have HK3 := Lib.hid ((hb3.block wr.heap.size (by simp)).trans HKa.out)
        have hc3 : w3.cell? ⟨wr.heap.size, 1, none⟩ = some (.int .i64 x2) := cell_of_row w3 wr.heap.size 1 #[.int .i64 (n : Int), .int .i64 x2] _ _ HK3.out
        clear hb3
        go_wp2_with fail
        go_roundw
        case rel => exact ⟨j + 1, by omega, by go_num, by rw [HS1.out] <;> simp, by rw [HS2.out] <;> simp, HB3⟩
        case measure => simp [intOf] <;> omega
    · obtain rfl : j = L.length := by omega
      go_wp2_with fail
      exact bodyPost_ret (results_tmp2 rfl _ _ _) rfl ⟨rfl, HB.out⟩
/-- The bounds times the counts of the first j buckets. -/
def smS (f : Nat → Nat) (L : List Iv) : Nat → Int
  | 0 => 0
  | j + 1 => smS f L j + ((f (L.getD j (0, 0)).1.toNat : Nat) : Int) * (L.getD j (0, 0)).2
theorem smS_step {L : List Iv} (f : Nat → Nat) (j : Nat) (hj : j < L.length) (n : Nat) (hn : L[j].1 = (n : Int)) : smS f L (j + 1) = smS f L j + ((f n : Nat) : Int) * L[j].2 := by
  show smS f L j + _ = _
  rw [getD_iv j hj, hn, Int.toNat_natCast]
theorem mul_bds (a : Nat) (x : Int) (ha : a ≤ 1099511627776) (hx : 1 ≤ x) : 0 ≤ (a : Int) * x ∧ (a : Int) * x ≤ 1099511627776 * x :=
  ⟨Int.mul_nonneg (by omega) (by omega), Int.mul_le_mul_of_nonneg_right (by omega) (by omega)⟩
theorem smS_bd {L : List Iv} (h : VB L) (f : Nat → Nat) (hf : ∀ n, n < 305 → f n ≤ 1099511627776) (j : Nat) (hj : j ≤ L.length) : 0 ≤ smS f L j ∧ smS f L j ≤ 1099511627776 * ttN L j := by
  induction j with
  | zero => exact ⟨Int.le_refl _, Int.le_refl _⟩
  | succ j ih =>
    have h1 := ih (by omega)
    obtain ⟨n, hn, hn5, h2, h3⟩ := h.at_ j (by omega)
    rw [smS_step f j (by omega) n hn]
    have := mul_bds (f n) L[j].2 (hf n hn5) h2
    show _ ∧ _ ≤ 1099511627776 * (ttN L j + (L.getD j (0, 0)).2)
    rw [getD_iv j (by omega)]
    omega
theorem ttN_mono {L : List Iv} (h : VB L) (j : Nat) (hj : j ≤ L.length) : ttN L j ≤ ttN L L.length := by
  have : ∀ d j, j + d = L.length → ttN L j ≤ ttN L L.length := by
    intro d
    induction d with
    | zero => intro j e; rw [show j = L.length by omega]; exact Int.le_refl _
    | succ d ih =>
      intro j e
      have h1 := ih (j + 1) (by omega)
      obtain ⟨n, _, _, h2, _⟩ := h.at_ j (by omega)
      have h3 : ttN L (j + 1) = ttN L j + L[j].2 := by show ttN L j + _ = _; rw [getD_iv j (by omega)]
      omega
  exact this (L.length - j) j (by omega)
set_option maxRecDepth 100000 in
set_option maxHeartbeats 4000000 in
theorem sum_any (A : Option Addr) (c : Nat) (L : List Iv) (hl : L.length ≤ 305) (hV : VB L) (ht : ttN L L.length ≤ 1048576) (w : World) (hR : Rs w w.heap.size A (ivCells L)) :
    Calls Try.prog 34 #[.agg #[.slice A L.length c]] w fun e w' => e = .returned (.tuple #[.int .i64 (smS loN L L.length), .int .i64 (smS hiN L L.length)]) ∧ Below w.heap.size w w' := by
  have HR := Lib.hid hR
  have HV := Lib.hid hV
  have HT1 := Lib.hid (fun j hj => smS_bd hV loN (fun n hn => Nat.le_trans (lo_le_hi n hn).1 (lo_le_hi n hn).2) j hj)
  have HT2 := Lib.hid (fun j hj => smS_bd hV hiN (fun n hn => (lo_le_hi n hn).2) j hj)
  have HM := Lib.hid (fun j hj => ttN_mono hV j hj)
  clear hR hV
  go_enter Try.func34, Try.ntmps34
  go_wp2_with fail
  go_loopw [2, 3, 12] (fun lv gv iv wr => ∃ j : Nat, j ≤ L.length ∧ iv = .int .i64 (j : Int) ∧ lv = .int .i64 (smS loN L j) ∧ gv = .int .i64 (smS hiN L j) ∧ Hid (Below w.heap.size w wr)) (fun _ _ iv _ => L.length - (intOf iv).toNat)
  case atStart => exact ⟨0, Nat.zero_le _, rfl, rfl, rfl, Lib.hid ((Below.refl _ _).alloc (Nat.le_refl _) _)⟩
  case round =>
    obtain ⟨j, hj, rfl, rfl, rfl, HB⟩ := hrel
    have hsz := HB.out.size
    by_cases hlt : j < L.length
    · obtain ⟨b, off, rfl, hb, h0, h1⟩ := iv_at (Rs.below HR.out HB.out) j hlt
      obtain ⟨n, hn, hn5, hc1, hc2⟩ := HV.out.at_ j hlt
      have ht1 := HT1.out (j + 1) (by omega)
      have hu1 := HT2.out (j + 1) (by omega)
      have ht0 := HT1.out j hj
      have hu0 := HT2.out j hj
      have hm1 := HM.out (j + 1) (by omega)
      have hm0 := HM.out j hj
      have hs1 := smS_step loN j hlt n hn
      have hs2 := smS_step hiN j hlt n hn
      obtain ⟨x, hx⟩ : ∃ x, x = L[j] := ⟨_, rfl⟩
      rw [← hx] at h0 h1 hn hc1 hc2 hs1 hs2
      obtain ⟨x1, x2⟩ := x
      dsimp only at h0 h1 hn hc1 hc2 hs1 hs2
      subst hn
      have HBd := Lib.hid (fun W => bounds_ok n hn5 W)
      have hlh := lo_le_hi n hn5
      have b1 := mul_bds (loN n) x2 (Nat.le_trans hlh.1 hlh.2) hc1
      have b2 := mul_bds (hiN n) x2 hlh.2 hc1
      obtain ⟨lo, hlo⟩ : ∃ lo, lo = loN n := ⟨_, rfl⟩
      obtain ⟨hi, hhi⟩ : ∃ hi, hi = hiN n := ⟨_, rfl⟩
      rw [← hlo] at HBd hs1 b1
      rw [← hhi] at HBd hs2 b2
      obtain ⟨p, hp⟩ : ∃ p : Int, p = (lo : Int) * x2 := ⟨_, rfl⟩
      obtain ⟨q, hq⟩ : ∃ q : Int, q = (hi : Int) * x2 := ⟨_, rfl⟩
      rw [← hp] at hs1 b1
      rw [← hq] at hs2 b2
      rw [hs1] at ht1
      rw [hs2] at hu1
      have HS1 := Lib.hid hs1
      have HS2 := Lib.hid hs2
      obtain ⟨t, htt⟩ : ∃ t, t = smS loN L j := ⟨_, rfl⟩
      obtain ⟨u, huu⟩ : ∃ u, u = smS hiN L j := ⟨_, rfl⟩
      rw [← htt] at ht1 ht0 HS1 ⊢
      rw [← huu] at hu1 hu0 HS2 ⊢
      have hjI : (j : Int) < (L.length : Int) := by omega
      have hj0 : (0 : Int) ≤ (j : Int) := by omega
      have g1 : 0 ≤ t := by omega
      have g2 : t ≤ 1152921504606846976 := by omega
      have g3 : 0 ≤ u := by omega
      have g4 : u ≤ 1152921504606846976 := by omega
      have g5 : 0 ≤ p := by omega
      have g6 : p ≤ 1152921504606846976 := by omega
      have g7 : 0 ≤ q := by omega
      have g8 : q ≤ 1152921504606846976 := by omega
      have hw1 : IntKind.i64.wrap ((j : Int) + 1) = (j : Int) + 1 := by simp only [IntKind.wrap_i64]; omega
      have e1 : IntKind.i64.wrap ((lo : Int) * x2) = p := by rw [← hp]; simp only [IntKind.wrap_i64]; omega
      have e1' : wrap64 ((lo : Int) * x2) = p := by rw [← hp]; unfold wrap64; omega
      have e2 : IntKind.i64.wrap ((hi : Int) * x2) = q := by rw [← hq]; simp only [IntKind.wrap_i64]; omega
      have e2' : wrap64 ((hi : Int) * x2) = q := by rw [← hq]; unfold wrap64; omega
      clear hx hn5 htt huu ht1 hu1 ht0 hu0 hm1 hm0 hs1 hs2 hlo hhi hp hq b1 b2 hlh hc1 hc2
      have HBa := Lib.hid (HB.out.alloc hsz (.cells #[.int .i64 (n : Int), .int .i64 x2] 66))
      have HKa : Hid ((wr.alloc (.cells #[.int .i64 (n : Int), .int .i64 x2] 66)).heap[wr.heap.size]? = some (.cells #[.int .i64 (n : Int), .int .i64 x2] 66 (0, 0))) := Lib.hid (Deep.blk_alloc_new wr _)
      go_wp2_with fail
      refine (HBd.out _).mono ?_
      rintro e w3 ⟨rfl, hb3⟩
      have HB3 := Lib.hid (HBa.out.trans (hb3.mono HBa.out.size))
      have HK3 := Lib.hid ((hb3.block wr.heap.size (by simp)).trans HKa.out)
      have hc3 : w3.cell? ⟨wr.heap.size, 1, none⟩ = some (.int .i64 x2) := cell_of_row w3 wr.heap.size 1 #[.int .i64 (n : Int), .int .i64 x2] _ _ HK3.out
      clear hb3
      go_wp2_with fail
      clear e1 e1' e2 e2'
      go_roundw
      case rel => exact ⟨j + 1, by omega, by go_num, by rw [HS1.out], by rw [HS2.out], HB3⟩
      case measure => simp [intOf] <;> omega
    · obtain rfl : j = L.length := by omega
      go_wp2_with fail
      exact bodyPost_ret (results_tmp2 rfl _ _ _) rfl ⟨rfl, HB.out⟩
/-- The index of the bucket of the value with a rank. -/
def ioL : List Iv → Int → Int
  | [], _ => 305
  | y :: T, r => if r - y.2 ≤ 0 then y.1 else ioL T (r - y.2)
set_option maxRecDepth 100000 in
set_option maxHeartbeats 2000000 in
theorem indexOf_any (A : Option Addr) (c : Nat) (L : List Iv) (hl : L.length ≤ 305) (hV : VB L) (r : Int) (hr : 0 ≤ r ∧ r ≤ 1099511627776) (w : World) (hR : Rs w w.heap.size A (ivCells L)) :
    Calls Try.prog 44 #[.agg #[.slice A L.length c], .int .i64 r] w fun e w' => e = .returned (.int .i64 (ioL L r)) ∧ Below w.heap.size w w' := by
  have HR := Lib.hid hR
  have HV := Lib.hid hV
  clear hR hV
  go_enter Try.func44, Try.ntmps44
  go_wp2_with fail
  go_loopw [1, 10] (fun rv iv wr => ∃ (j : Nat) (r' : Int), j ≤ L.length ∧ iv = .int .i64 (j : Int) ∧ rv = .int .i64 r' ∧ 0 ≤ r' ∧ r' ≤ 1099511627776 ∧ Hid (ioL (L.drop j) r' = ioL L r) ∧ Hid (Below w.heap.size w wr)) (fun _ iv _ => L.length - (intOf iv).toNat)
  case atStart => exact ⟨0, r, Nat.zero_le _, rfl, rfl, hr.1, hr.2, Lib.hid (by rw [List.drop_zero]), Lib.hid ((Below.refl _ _).alloc (Nat.le_refl _) _)⟩
  case round =>
    obtain ⟨j, r', hj, rfl, rfl, hr1, hr2, HIo, HB⟩ := hrel
    have hsz := HB.out.size
    by_cases hlt : j < L.length
    · obtain ⟨b, off, rfl, hb, h0, h1⟩ := iv_at (Rs.below HR.out HB.out) j hlt
      obtain ⟨n, hn, hn5, hc1, hc2⟩ := HV.out.at_ j hlt
      have HS : Hid ((if r' - L[j].2 ≤ 0 then L[j].1 else ioL (L.drop (j + 1)) (r' - L[j].2)) = ioL L r) := Lib.hid (by
        rw [← HIo.out, List.drop_eq_getElem_cons hlt]; rfl)
      obtain ⟨x, hx⟩ : ∃ x, x = L[j] := ⟨_, rfl⟩
      rw [← hx] at h0 h1 hn hc1 hc2 HS
      obtain ⟨x1, x2⟩ := x
      dsimp only at h0 h1 hn hc1 hc2 HS
      subst hn
      have hjI : (j : Int) < (L.length : Int) := by omega
      have hj0 : (0 : Int) ≤ (j : Int) := by omega
      have hw1 : IntKind.i64.wrap ((j : Int) + 1) = (j : Int) + 1 := by simp only [IntKind.wrap_i64]; omega
      clear hx
      by_cases hle : r' - x2 ≤ 0
      · rw [if_pos hle] at HS
        have d1 : decide (r' - x2 ≤ 0) = true := by simpa using hle
        go_wp2_with fail
        go_ret
        exact ⟨by rw [← HS.out]; rfl, HB.out.alloc hsz _⟩
      · rw [if_neg hle] at HS
        have d1 : decide (r' - x2 ≤ 0) = false := by simpa using hle
        have hx3 : 0 ≤ r' - x2 := by omega
        go_wp2_with fail
        go_roundw
        case rel => exact ⟨j + 1, r' - x2, by omega, by go_num, rfl, by omega, by omega, HS, Lib.hid (HB.out.alloc hsz _)⟩
        case measure => simp [intOf] <;> omega
    · obtain rfl : j = L.length := by omega
      have HE : Hid (ioL L r = 305) := Lib.hid (by rw [← HIo.out, List.drop_length]; rfl)
      go_wp2_with fail
      go_ret
      exact ⟨by rw [HE.out]; rfl, HB.out⟩
end Go.Proofs.Ytolgcphmmghlbaa
