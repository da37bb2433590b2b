/- The law's rows of a Set (written by wip/bin/gen_gd.py). -/
import Derived.Test.YtacgomhegjilgaaGc
namespace Go.Proofs.Ytacgomhegjilgaa
open Go.ChangeShapes Go.WideShapes Go.ChangeAt Go.RowKit Ts

def prC (x : Iv) : List Value := [.int .u8 x.1, .int .u8 x.2]
def prCells (L : List Iv) : List Value := L.flatMap prC
/-- A pair of bytes. -/
def PrOk (x : Iv) : Prop := (0 ≤ x.1 ∧ x.1 ≤ 255) ∧ (0 ≤ x.2 ∧ x.2 ≤ 255)
theorem pr_at {w : World} {B : Nat} {A : Option Addr} {L : List Iv} (h : Rs w B A (prCells L)) (j : Nat) (hj : j < L.length) : ∃ b off, A = some ⟨b, off, none⟩ ∧ b < B ∧ w.cell? ⟨b, off + j * 2, none⟩ = some (.int .u8 L[j].1) ∧ w.cell? ⟨b, off + j * 2 + 1, none⟩ = some (.int .u8 L[j].2) := by
  obtain ⟨b, off, e, hb, hc⟩ := rows_at (C := prC) (k := 2) (by decide) (fun _ => rfl) h j hj
  exact ⟨b, off, e, hb, hc 0 (by decide), hc 1 (by decide)⟩
/-- Some ints in a row. -/
def rgI (a : Int) (k : Nat) : List Int := (List.range k).map (fun i : Nat => a + (i : Int))
theorem rgI_succ (a : Int) (k : Nat) : rgI a (k + 1) = rgI a k ++ [a + (k : Int)] := by unfold rgI; rw [List.range_succ, List.map_append]; rfl
theorem rgI_zero (a : Int) : rgI a 0 = [] := rfl
theorem rgI_len (a : Int) (k : Nat) : (rgI a k).length = k := by unfold rgI; simp
theorem rgI_mem (a : Int) (k : Nat) (n : Int) : n ∈ rgI a k ↔ a ≤ n ∧ n < a + (k : Int) := by
  unfold rgI
  constructor
  · intro h
    obtain ⟨i, hi, rfl⟩ := List.mem_map.1 h
    have := List.mem_range.1 hi
    omega
  · intro h
    exact List.mem_map.2 ⟨(n - a).toNat, List.mem_range.2 (by omega), by omega⟩
theorem rgI_inc (a : Int) (k : Nat) : Inc (rgI a k) := by
  unfold rgI
  refine List.pairwise_map.2 (List.pairwise_lt_range.imp (fun h => ?_))
  show a + _ < a + _
  omega
def at0 (b : Int) : Int := if b % 2 = 1 then 1048406 else b % 300
/-- The row behind the first j pairs. -/
def atL (b : Int) (L : List Iv) : Nat → Int
  | 0 => at0 b
  | j + 1 => atL b L j + (L.getD j (0, 0)).1 % 8 + (L.getD j (0, 0)).2 % 8
/-- The rows of the first j pairs. -/
def rwL (b : Int) (L : List Iv) : Nat → List Int
  | 0 => []
  | j + 1 => rwL b L j ++ rgI (atL b L j + (L.getD j (0, 0)).1 % 8) ((L.getD j (0, 0)).2 % 8).toNat
def rowS (b : Int) (L : List Iv) : List Int := rwL b L (min L.length 12)
theorem gd_ok {L : List Iv} (h : ∀ x ∈ L, PrOk x) (j : Nat) : PrOk (L.getD j (0, 0)) := by
  by_cases hj : j < L.length
  · have e : L.getD j (0, 0) = L[j] := by simp [List.getD, List.getElem?_eq_getElem hj]
    rw [e]; exact h _ (List.getElem_mem hj)
  · have e : L.getD j (0, 0) = (0, 0) := by simp [List.getD, List.getElem?_eq_none (Nat.le_of_not_lt hj)]
    rw [e]; unfold PrOk; decide
theorem at0_bd (b : Int) : 0 ≤ at0 b ∧ at0 b ≤ 1048406 := by
  unfold at0
  split <;> omega
theorem atL_bd (b : Int) {L : List Iv} (h : ∀ x ∈ L, PrOk x) (j : Nat) : 0 ≤ atL b L j ∧ atL b L j ≤ 1048406 + 14 * (j : Int) := by
  induction j with
  | zero => have := at0_bd b; show 0 ≤ at0 b ∧ at0 b ≤ _; omega
  | succ j ih =>
    have := gd_ok h j
    unfold PrOk at this
    show 0 ≤ atL b L j + (L.getD j (0, 0)).1 % 8 + (L.getD j (0, 0)).2 % 8 ∧ atL b L j + (L.getD j (0, 0)).1 % 8 + (L.getD j (0, 0)).2 % 8 ≤ _
    omega
theorem rwL_spec (b : Int) {L : List Iv} (h : ∀ x ∈ L, PrOk x) (j : Nat) : Inc (rwL b L j) ∧ (∀ n ∈ rwL b L j, 0 ≤ n ∧ n < atL b L j) ∧ (rwL b L j).length ≤ 7 * j := by
  induction j with
  | zero => exact ⟨List.Pairwise.nil, (fun n hn => nomatch hn), Nat.le_refl _⟩
  | succ j ih =>
    obtain ⟨i1, i2, i3⟩ := ih
    have hp := gd_ok h j
    unfold PrOk at hp
    have ha := atL_bd b h j
    refine ⟨List.pairwise_append.2 ⟨i1, rgI_inc _ _, fun a ha b hb => ?_⟩, fun n hn => ?_, ?_⟩
    · have h1 := i2 a ha
      have h2 := (rgI_mem _ _ _).1 hb
      omega
    · show 0 ≤ n ∧ n < atL b L j + (L.getD j (0, 0)).1 % 8 + (L.getD j (0, 0)).2 % 8
      rcases List.mem_append.1 hn with hn | hn
      · have := i2 n hn; omega
      · have := (rgI_mem _ _ _).1 hn; omega
    · show (rwL b L j ++ rgI (atL b L j + (L.getD j (0, 0)).1 % 8) ((L.getD j (0, 0)).2 % 8).toNat).length ≤ _
      rw [List.length_append, rgI_len]
      omega
theorem rowS_spec (b : Int) {L : List Iv} (h : ∀ x ∈ L, PrOk x) : Inc (rowS b L) ∧ (∀ n ∈ rowS b L, isR n = true) ∧ (rowS b L).length ≤ 84 := by
  obtain ⟨i1, i2, i3⟩ := rwL_spec b h (min L.length 12)
  have ha := atL_bd b h (min L.length 12)
  refine ⟨i1, fun n hn => (isR_iff n).2 ?_, Nat.le_trans i3 (by omega)⟩
  have := i2 n hn
  omega
set_option maxRecDepth 100000 in
set_option maxHeartbeats 4000000 in
theorem rows_any (b : Int) (hb : 0 ≤ b ∧ b ≤ 65535) (A : Option Addr) (c : Nat) (L : List Iv) (hl : L.length ≤ 9223372036854775807) (hOk : ∀ x ∈ L, PrOk x) (w : World) (hR : Rs w w.heap.size A (prCells L)) :
    Calls Try.prog 24 #[.agg #[.int .u16 b, .slice A L.length c]] w fun e w' => (∃ v, e = .returned v ∧ w'.ownsRow w.heap.size 3 1 v (rowS b L).length (nC (rowS b L))) ∧ Below w.heap.size w w' := by
  obtain ⟨i0, hi0, hz0, hz1, hz2⟩ := info_parts2 info_num
  have Hi0 := Lib.hid hi0
  have Hz0 := Lib.hid hz0
  have Hz1 := Lib.hid hz1
  have Hz2 := Lib.hid hz2
  have HAt := Lib.hid (atL_bd b hOk)
  have HRw := Lib.hid (rwL_spec b hOk)
  have HOk := Lib.hid hOk
  obtain ⟨w1, hw1⟩ : ∃ w1, w1 = w.alloc (.cells #[.int .u16 b, .slice A L.length c] 36) := ⟨_, rfl⟩
  have hs1 : w1.heap.size = w.heap.size + 1 := by rw [hw1]; simp
  have HB0 : Hid (Below w.heap.size w w1) := Lib.hid (by rw [hw1]; exact (Below.refl _ _).alloc (Nat.le_refl _) _)
  have HK : Hid (w1.heap[w.heap.size]? = some (.cells #[.int .u16 b, .slice A L.length c] 36 (0, 0))) := Lib.hid (by rw [hw1]; exact Deep.blk_alloc_new w _)
  have HR : Hid (Rs w1 w1.heap.size A (prCells L)) := Lib.hid ((hR.below HB0.out).more HB0.out.size)
  have HW1 := Lib.hid hw1
  have h300 : b.tmod 300 = b % 300 := Int.tmod_eq_emod_of_nonneg hb.1
  have h2 : b.tmod 2 = b % 2 := Int.tmod_eq_emod_of_nonneg hb.1
  obtain ⟨r, hr⟩ : ∃ r, b % 300 = r := ⟨_, rfl⟩
  obtain ⟨t, ht⟩ : ∃ t, b % 2 = t := ⟨_, rfl⟩
  have hrb : 0 ≤ r ∧ r < 300 := by omega
  have htb : 0 ≤ t ∧ t < 2 := by omega
  rw [hr] at h300
  rw [ht] at h2
  have HA0 : Hid (atL b L 0 = if t = 1 then 1048406 else r) := Lib.hid (by show at0 b = _; unfold at0; rw [hr, ht])
  have hwr1 : IntKind.u16.wrap r = r := by simp only [IntKind.wrap_u16]; omega
  have hwr2 : IntKind.i64.wrap r = r := by simp only [IntKind.wrap_i64]; omega
  have hwt : IntKind.u16.wrap t = t := by simp only [IntKind.wrap_u16]; omega
  clear hi0 hz0 hz1 hz2 hOk hR hr ht hw1
  by_cases hodd : t = 1
  · rw [if_pos hodd] at HA0
    subst hodd
    go_enter Try.func24, Try.ntmps24
    go_wp2_with fail
    go_loopw [3, 4, 5] (fun u av iv wr => ∃ j : Nat, j ≤ L.length ∧ j ≤ 12 ∧ av = .int .i64 (atL b L j) ∧ iv = .int .i64 (j : Int) ∧ Hid (wr.ownsRow w1.heap.size 3 1 u (rwL b L j).length (nC (rwL b L j))) ∧ Hid (Below w1.heap.size w1 wr)) (fun _ _ iv _ => 12 - (intOf iv).toNat)
    case atStart =>
      refine ⟨0, Nat.zero_le _, Nat.zero_le _, by rw [HA0.out], rfl, Lib.hid ⟨rfl, Or.inl ⟨rfl, rfl⟩⟩, Lib.hid ?_⟩
      rw [HW1.out]
      exact Below.refl _ _
    case round =>
      obtain ⟨j, hj, hj12, rfl, rfl, HO, HB⟩ := hrel
      have hbox := cell_of_row wr w.heap.size 1 _ _ _ ((HB.out.block w.heap.size (by omega)).trans HK.out)
      have hbsz := HB.out.size
      by_cases hlt : j < L.length
      · have hjl : (j : Int) < (L.length : Int) := by omega
        have hj0 : (0 : Int) ≤ (j : Int) := by omega
        by_cases hj2 : j < 12
        · have hjt : (j : Int) < 12 := by omega
          obtain ⟨g, off, rfl, hg, d0, d1⟩ := pr_at (HR.out.below HB.out) j hlt
          have hok := HOk.out _ (List.getElem_mem hlt)
          have hat := HAt.out j
          have hS : ∀ k : Nat, atL b L (j + 1) = atL b L j + L[j].1 % 8 + L[j].2 % 8 ∧ rwL b L (j + 1) = rwL b L j ++ rgI (atL b L j + L[j].1 % 8) (L[j].2 % 8).toNat := fun _ => by
            have e : L.getD j (0, 0) = L[j] := by simp [List.getD, List.getElem?_eq_getElem hlt]
            constructor
            · show atL b L j + (L.getD j (0, 0)).1 % 8 + (L.getD j (0, 0)).2 % 8 = _
              rw [e]
            · show rwL b L j ++ rgI (atL b L j + (L.getD j (0, 0)).1 % 8) ((L.getD j (0, 0)).2 % 8).toNat = _
              rw [e]
          have HS := Lib.hid (hS 0)
          have hrl := (HRw.out j).2.2
          obtain ⟨x, hx⟩ : ∃ x, x = L[j] := ⟨_, rfl⟩
          rw [← hx] at d0 d1 hok HS
          have HX := Lib.hid hx
          clear hx hS
          obtain ⟨x1, x2⟩ := x
          unfold PrOk at hok
          dsimp only at d0 d1 hok HS
          have hm1 : x1.tmod 8 = x1 % 8 := Int.tmod_eq_emod_of_nonneg hok.1.1
          have hm2 : x2.tmod 8 = x2 % 8 := Int.tmod_eq_emod_of_nonneg hok.2.1
          obtain ⟨m1, h1⟩ : ∃ m1, x1 % 8 = m1 := ⟨_, rfl⟩
          obtain ⟨m2, h2⟩ : ∃ m2 : Nat, x2 % 8 = (m2 : Int) := ⟨(x2 % 8).toNat, by omega⟩
          have hm1b : 0 ≤ m1 ∧ m1 < 8 := by omega
          have hm2b : m2 < 8 := by omega
          rw [h1, h2] at HS
          rw [h1] at hm1
          rw [h2] at hm2
          obtain ⟨a, ha⟩ : ∃ a, a = atL b L j := ⟨_, rfl⟩
          rw [← ha] at hat HS ⊢
          clear ha h1 h2 hok
          have ha2 : 0 ≤ a ∧ a ≤ 1048574 := by omega
          have hu1 : IntKind.u8.wrap m1 = m1 := by simp only [IntKind.wrap_u8]; omega
          have hu2 : IntKind.i64.wrap m1 = m1 := by simp only [IntKind.wrap_i64]; omega
          have hu3 : IntKind.i64.wrap (a + m1) = a + m1 := by simp only [IntKind.wrap_i64]; omega
          have hu4 : IntKind.u8.wrap (m2 : Int) = (m2 : Int) := by simp only [IntKind.wrap_u8]; omega
          have hu5 : IntKind.i64.wrap (m2 : Int) = (m2 : Int) := by simp only [IntKind.wrap_i64]; omega
          have hw1 : IntKind.i64.wrap ((j : Int) + 1) = (j : Int) + 1 := by simp only [IntKind.wrap_i64]; omega
          clear hat
          obtain ⟨J, hJ⟩ : ∃ J, J = rwL b L j := ⟨_, rfl⟩
          rw [← hJ] at HO HS hrl
          clear hJ
          have hJl : J.length ≤ 84 := by omega
          go_wp2_with fail
          go_loopw [3, 4, 6] (fun u av kv wi => ∃ k : Nat, k ≤ m2 ∧ av = .int .i64 (a + m1 + (k : Int)) ∧ kv = .int .i64 (k : Int) ∧ Hid (wi.ownsRow w1.heap.size 3 1 u (J ++ rgI (a + m1) k).length (nC (J ++ rgI (a + m1) k))) ∧ Hid (Below w1.heap.size w1 wi)) (fun _ _ kv _ => 8 - (intOf kv).toNat)
          case atStart => exact ⟨0, Nat.zero_le _, by simp, rfl, by rw [rgI_zero, List.append_nil]; exact HO, HB⟩
          case round =>
            obtain ⟨k, hk, rfl, rfl, HOk2, HBk⟩ := hrel
            have hboxi := cell_of_row wr w.heap.size 1 _ _ _ ((HBk.out.block w.heap.size (by omega)).trans HK.out)
            obtain ⟨g', off', eg, _, _, d1'⟩ := pr_at (HR.out.below HBk.out) j hlt
            rw [← HX.out] at d1'
            dsimp only at d1'
            simp only [Option.some.injEq, Addr.mk.injEq, and_true] at eg
            obtain ⟨rfl, rfl⟩ := eg
            have hbk := HBk.out.size
            have hJk : (J ++ rgI (a + m1) k).length = J.length + k := by rw [List.length_append, rgI_len]
            by_cases hkm : k < m2
            · have hkI : (k : Int) < (m2 : Int) := by omega
              have hv1 : IntKind.i64.wrap ((k : Int) + 1) = (k : Int) + 1 := by simp only [IntKind.wrap_i64]; omega
              have hv2 : IntKind.i64.wrap (a + m1 + (k : Int) + 1) = a + m1 + (k : Int) + 1 := by simp only [IntKind.wrap_i64]; omega
              have HE : Hid (J ++ rgI (a + m1) (k + 1) = J ++ rgI (a + m1) k ++ [a + m1 + (k : Int)]) := Lib.hid (by rw [rgI_succ, List.append_assoc])
              have HOa := Lib.hid (HOk2.out.alloc (.cells #[.int .i64 (a + m1 + (k : Int))] 3))
              have HBa := Lib.hid (HBk.out.alloc HBk.out.size (.cells #[.int .i64 (a + m1 + (k : Int))] 3))
              have HKa := Lib.hid (Deep.blk_alloc_new wr (.cells #[.int .i64 (a + m1 + (k : Int))] 3))
              go_wp2_with (at_builtin; refine wpList_append_agg rfl (.tmp 48) (.tmp 50) 22 rfl w1.heap.size 3 i0 _ 1 8 Try.underlying22 Hi0.out Hz0.out Hz1.out Hz2.out rfl (by decide) _ (J ++ rgI (a + m1) k).length _ rfl HOa.out wr.heap.size 1 [.int .i64 (a + m1 + (k : Int))] 3 rfl rfl HKa.out (by simp [Value.oneCell']) (by omega) (by omega) HBa.out.size ?_; intro v4 w4 hown4 hg4; have HO4 := Lib.hid hown4; have HB4 := Lib.hid (below_grownk (B := w1.heap.size) (a := w1) HBa.out HOa.out hg4 (Nat.le_refl _) (Nat.le_refl _)); clear hown4 hg4)
              go_roundw
              case rel => exact ⟨k + 1, by omega, by rw [show a + m1 + ((k + 1 : Nat) : Int) = a + m1 + (k : Int) + 1 by omega], by go_num, by rw [HE.out]; exact Lib.hid (by have h := HO4.out; unfold nC at h ⊢; rw [List.map_append, List.length_append]; exact h), HB4⟩
              case measure => simp [intOf] <;> omega
            · obtain rfl : k = m2 := by omega
              have HS1 := HS.out.1
              have HS2 := HS.out.2
              rw [Int.toNat_natCast] at HS2
              have HT1 := Lib.hid HS1
              have HT2 := Lib.hid HS2
              clear HS1 HS2
              go_wp2_with fail
              go_roundw
              case rel => exact ⟨j + 1, by omega, by omega, by rw [HT1.out], by go_num, by rw [HT2.out]; exact HOk2, HBk⟩
              case measure => simp [intOf] <;> omega
        · obtain rfl : j = 12 := by omega
          have HE : Hid (rowS b L = rwL b L 12) := Lib.hid (by unfold rowS; rw [show min L.length 12 = 12 by omega])
          go_wp2_with fail
          go_ret
          exact ⟨⟨_, rfl, by rw [HE.out]; exact own_base HO.out (by omega)⟩, HB0.out.trans (HB.out.mono (by omega))⟩
      · obtain rfl : j = L.length := by omega
        have HE : Hid (rowS b L = rwL b L L.length) := Lib.hid (by unfold rowS; rw [show min L.length 12 = L.length by omega])
        go_wp2_with fail
        go_ret
        exact ⟨⟨_, rfl, by rw [HE.out]; exact own_base HO.out (by omega)⟩, HB0.out.trans (HB.out.mono (by omega))⟩
  
  · rw [if_neg hodd] at HA0
    have hodd2 : (t == 1) = false := by simp [hodd]
    go_enter Try.func24, Try.ntmps24
    go_wp2_with fail
    go_loopw [3, 4, 5] (fun u av iv wr => ∃ j : Nat, j ≤ L.length ∧ j ≤ 12 ∧ av = .int .i64 (atL b L j) ∧ iv = .int .i64 (j : Int) ∧ Hid (wr.ownsRow w1.heap.size 3 1 u (rwL b L j).length (nC (rwL b L j))) ∧ Hid (Below w1.heap.size w1 wr)) (fun _ _ iv _ => 12 - (intOf iv).toNat)
    case atStart =>
      refine ⟨0, Nat.zero_le _, Nat.zero_le _, by rw [HA0.out], rfl, Lib.hid ⟨rfl, Or.inl ⟨rfl, rfl⟩⟩, Lib.hid ?_⟩
      rw [HW1.out]
      exact Below.refl _ _
    case round =>
      obtain ⟨j, hj, hj12, rfl, rfl, HO, HB⟩ := hrel
      have hbox := cell_of_row wr w.heap.size 1 _ _ _ ((HB.out.block w.heap.size (by omega)).trans HK.out)
      have hbsz := HB.out.size
      by_cases hlt : j < L.length
      · have hjl : (j : Int) < (L.length : Int) := by omega
        have hj0 : (0 : Int) ≤ (j : Int) := by omega
        by_cases hj2 : j < 12
        · have hjt : (j : Int) < 12 := by omega
          obtain ⟨g, off, rfl, hg, d0, d1⟩ := pr_at (HR.out.below HB.out) j hlt
          have hok := HOk.out _ (List.getElem_mem hlt)
          have hat := HAt.out j
          have hS : ∀ k : Nat, atL b L (j + 1) = atL b L j + L[j].1 % 8 + L[j].2 % 8 ∧ rwL b L (j + 1) = rwL b L j ++ rgI (atL b L j + L[j].1 % 8) (L[j].2 % 8).toNat := fun _ => by
            have e : L.getD j (0, 0) = L[j] := by simp [List.getD, List.getElem?_eq_getElem hlt]
            constructor
            · show atL b L j + (L.getD j (0, 0)).1 % 8 + (L.getD j (0, 0)).2 % 8 = _
              rw [e]
            · show rwL b L j ++ rgI (atL b L j + (L.getD j (0, 0)).1 % 8) ((L.getD j (0, 0)).2 % 8).toNat = _
              rw [e]
          have HS := Lib.hid (hS 0)
          have hrl := (HRw.out j).2.2
          obtain ⟨x, hx⟩ : ∃ x, x = L[j] := ⟨_, rfl⟩
          rw [← hx] at d0 d1 hok HS
          have HX := Lib.hid hx
          clear hx hS
          obtain ⟨x1, x2⟩ := x
          unfold PrOk at hok
          dsimp only at d0 d1 hok HS
          have hm1 : x1.tmod 8 = x1 % 8 := Int.tmod_eq_emod_of_nonneg hok.1.1
          have hm2 : x2.tmod 8 = x2 % 8 := Int.tmod_eq_emod_of_nonneg hok.2.1
          obtain ⟨m1, h1⟩ : ∃ m1, x1 % 8 = m1 := ⟨_, rfl⟩
          obtain ⟨m2, h2⟩ : ∃ m2 : Nat, x2 % 8 = (m2 : Int) := ⟨(x2 % 8).toNat, by omega⟩
          have hm1b : 0 ≤ m1 ∧ m1 < 8 := by omega
          have hm2b : m2 < 8 := by omega
          rw [h1, h2] at HS
          rw [h1] at hm1
          rw [h2] at hm2
          obtain ⟨a, ha⟩ : ∃ a, a = atL b L j := ⟨_, rfl⟩
          rw [← ha] at hat HS ⊢
          clear ha h1 h2 hok
          have ha2 : 0 ≤ a ∧ a ≤ 1048574 := by omega
          have hu1 : IntKind.u8.wrap m1 = m1 := by simp only [IntKind.wrap_u8]; omega
          have hu2 : IntKind.i64.wrap m1 = m1 := by simp only [IntKind.wrap_i64]; omega
          have hu3 : IntKind.i64.wrap (a + m1) = a + m1 := by simp only [IntKind.wrap_i64]; omega
          have hu4 : IntKind.u8.wrap (m2 : Int) = (m2 : Int) := by simp only [IntKind.wrap_u8]; omega
          have hu5 : IntKind.i64.wrap (m2 : Int) = (m2 : Int) := by simp only [IntKind.wrap_i64]; omega
          have hw1 : IntKind.i64.wrap ((j : Int) + 1) = (j : Int) + 1 := by simp only [IntKind.wrap_i64]; omega
          clear hat
          obtain ⟨J, hJ⟩ : ∃ J, J = rwL b L j := ⟨_, rfl⟩
          rw [← hJ] at HO HS hrl
          clear hJ
          have hJl : J.length ≤ 84 := by omega
          go_wp2_with fail
          go_loopw [3, 4, 6] (fun u av kv wi => ∃ k : Nat, k ≤ m2 ∧ av = .int .i64 (a + m1 + (k : Int)) ∧ kv = .int .i64 (k : Int) ∧ Hid (wi.ownsRow w1.heap.size 3 1 u (J ++ rgI (a + m1) k).length (nC (J ++ rgI (a + m1) k))) ∧ Hid (Below w1.heap.size w1 wi)) (fun _ _ kv _ => 8 - (intOf kv).toNat)
          case atStart => exact ⟨0, Nat.zero_le _, by simp, rfl, by rw [rgI_zero, List.append_nil]; exact HO, HB⟩
          case round =>
            obtain ⟨k, hk, rfl, rfl, HOk2, HBk⟩ := hrel
            have hboxi := cell_of_row wr w.heap.size 1 _ _ _ ((HBk.out.block w.heap.size (by omega)).trans HK.out)
            obtain ⟨g', off', eg, _, _, d1'⟩ := pr_at (HR.out.below HBk.out) j hlt
            rw [← HX.out] at d1'
            dsimp only at d1'
            simp only [Option.some.injEq, Addr.mk.injEq, and_true] at eg
            obtain ⟨rfl, rfl⟩ := eg
            have hbk := HBk.out.size
            have hJk : (J ++ rgI (a + m1) k).length = J.length + k := by rw [List.length_append, rgI_len]
            by_cases hkm : k < m2
            · have hkI : (k : Int) < (m2 : Int) := by omega
              have hv1 : IntKind.i64.wrap ((k : Int) + 1) = (k : Int) + 1 := by simp only [IntKind.wrap_i64]; omega
              have hv2 : IntKind.i64.wrap (a + m1 + (k : Int) + 1) = a + m1 + (k : Int) + 1 := by simp only [IntKind.wrap_i64]; omega
              have HE : Hid (J ++ rgI (a + m1) (k + 1) = J ++ rgI (a + m1) k ++ [a + m1 + (k : Int)]) := Lib.hid (by rw [rgI_succ, List.append_assoc])
              have HOa := Lib.hid (HOk2.out.alloc (.cells #[.int .i64 (a + m1 + (k : Int))] 3))
              have HBa := Lib.hid (HBk.out.alloc HBk.out.size (.cells #[.int .i64 (a + m1 + (k : Int))] 3))
              have HKa := Lib.hid (Deep.blk_alloc_new wr (.cells #[.int .i64 (a + m1 + (k : Int))] 3))
              go_wp2_with (at_builtin; refine wpList_append_agg rfl (.tmp 48) (.tmp 50) 22 rfl w1.heap.size 3 i0 _ 1 8 Try.underlying22 Hi0.out Hz0.out Hz1.out Hz2.out rfl (by decide) _ (J ++ rgI (a + m1) k).length _ rfl HOa.out wr.heap.size 1 [.int .i64 (a + m1 + (k : Int))] 3 rfl rfl HKa.out (by simp [Value.oneCell']) (by omega) (by omega) HBa.out.size ?_; intro v4 w4 hown4 hg4; have HO4 := Lib.hid hown4; have HB4 := Lib.hid (below_grownk (B := w1.heap.size) (a := w1) HBa.out HOa.out hg4 (Nat.le_refl _) (Nat.le_refl _)); clear hown4 hg4)
              go_roundw
              case rel => exact ⟨k + 1, by omega, by rw [show a + m1 + ((k + 1 : Nat) : Int) = a + m1 + (k : Int) + 1 by omega], by go_num, by rw [HE.out]; exact Lib.hid (by have h := HO4.out; unfold nC at h ⊢; rw [List.map_append, List.length_append]; exact h), HB4⟩
              case measure => simp [intOf] <;> omega
            · obtain rfl : k = m2 := by omega
              have HS1 := HS.out.1
              have HS2 := HS.out.2
              rw [Int.toNat_natCast] at HS2
              have HT1 := Lib.hid HS1
              have HT2 := Lib.hid HS2
              clear HS1 HS2
              go_wp2_with fail
              go_roundw
              case rel => exact ⟨j + 1, by omega, by omega, by rw [HT1.out], by go_num, by rw [HT2.out]; exact HOk2, HBk⟩
              case measure => simp [intOf] <;> omega
        · obtain rfl : j = 12 := by omega
          have HE : Hid (rowS b L = rwL b L 12) := Lib.hid (by unfold rowS; rw [show min L.length 12 = 12 by omega])
          go_wp2_with fail
          go_ret
          exact ⟨⟨_, rfl, by rw [HE.out]; exact own_base HO.out (by omega)⟩, HB0.out.trans (HB.out.mono (by omega))⟩
      · obtain rfl : j = L.length := by omega
        have HE : Hid (rowS b L = rwL b L L.length) := Lib.hid (by unfold rowS; rw [show min L.length 12 = L.length by omega])
        go_wp2_with fail
        go_ret
        exact ⟨⟨_, rfl, by rw [HE.out]; exact own_base HO.out (by omega)⟩, HB0.out.trans (HB.out.mono (by omega))⟩
end Go.Proofs.Ytacgomhegjilgaa
