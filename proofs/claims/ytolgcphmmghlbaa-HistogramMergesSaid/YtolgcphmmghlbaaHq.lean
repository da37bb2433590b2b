/- The law's values. -/
import Derived.Test.YtolgcphmmghlbaaHp
namespace Go.Proofs.Ytolgcphmmghlbaa
open Go.ChangeShapes Go.WideShapes Go.ChangeAt Go.RowKit Go.Joins

/-- A number as a value: itself, or its remainder. -/
def vlN (x : Int) : Int := if 0 ≤ x ∧ x ≤ 1099511627776 then x else (x % 18446744073709551616) % 1099511627777
theorem vlN_ok (x : Int) : Vl (vlN x) := by
  unfold vlN Vl
  split <;> omega
/-- The values of the first j numbers. -/
def vsN (L : List Int) (j : Nat) : List Int := (L.take j).map vlN
theorem vsN_succ (L : List Int) (j : Nat) (h : j < L.length) : vsN L (j + 1) = vsN L j ++ [vlN L[j]] := by
  unfold vsN
  rw [← List.take_append_getElem h, List.map_append]
  rfl
theorem vsN_len (L : List Int) (j : Nat) : (vsN L j).length ≤ j := by
  unfold vsN
  rw [List.length_map, List.length_take]
  omega
theorem vsN_ok (L : List Int) (j : Nat) : ∀ x ∈ vsN L j, Vl x := fun x hx => by
  obtain ⟨y, _, rfl⟩ := List.mem_map.1 hx
  exact vlN_ok y
theorem info_int1 : (Try.prog.info? 3).map (fun i => (i.zero, i.size, i.bytes)) = some (some (.int .i64 0), 1, 8) := by kernel_rfl
set_option maxRecDepth 100000 in
set_option maxHeartbeats 4000000 in
theorem values_any (A : Option Addr) (c : Nat) (L : List Int) (_hL : L.length ≤ 9223372036854775807) (hs : ∀ x ∈ L, -9223372036854775808 ≤ x ∧ x ≤ 9223372036854775807) (w : World) (hR : Rd (Value.int .i64) w A L) :
    Calls Try.prog 27 #[.slice A L.length c] w fun e w' => (∃ v, e = .returned v ∧ w'.ownsRow w.heap.size 3 1 v (vsN L 40).length ((vsN L 40).map (Value.int .i64))) ∧ Below w.heap.size w w' := by
  obtain ⟨i0, hi0, hz0, hz1, hz2⟩ := info_parts2 info_int1
  have Hi0 := Lib.hid hi0
  have Hz0 := Lib.hid hz0
  have Hz1 := Lib.hid hz1
  have Hz2 := Lib.hid hz2
  have HR := Lib.hid hR
  have HS := Lib.hid hs
  have HSu := Lib.hid (vsN_succ L)
  have HLn := Lib.hid (vsN_len L)
  clear hi0 hz0 hz1 hz2 hR hs
  go_enter Try.func27, Try.ntmps27
  go_wp2_with fail
  go_loopw [3, 4, 5] (fun u iv _ wr => ∃ j : Nat, j ≤ L.length ∧ j ≤ 40 ∧ iv = .int .i64 (j : Int) ∧ Hid (wr.ownsRow w.heap.size 3 1 u (vsN L j).length ((vsN L j).map (Value.int .i64))) ∧ Hid (Below w.heap.size w wr)) (fun _ iv _ _ => 40 - (intOf iv).toNat)
  case atStart => exact ⟨0, Nat.zero_le _, Nat.zero_le _, rfl, Lib.hid ⟨by simp [vsN], Or.inl ⟨rfl, rfl⟩⟩, Lib.hid (Below.refl _ _)⟩
  case round =>
    obtain ⟨j, hj, hj4, rfl, HO, HB⟩ := hrel
    have hsz := HB.out.size
    have hj0 : (0 : Int) ≤ (j : Int) := by omega
    by_cases hlt : j < L.length
    · have hjI : (j : Int) < (L.length : Int) := by omega
      by_cases h4 : j < 40
      · have h4I : (j : Int) < 40 := by omega
        obtain ⟨b, off, rfl, hb, h0⟩ := int_at (HR.out.below HB.out) j hlt
        have hbd := HS.out _ (List.getElem_mem hlt)
        have HS1 := Lib.hid (HSu.out j hlt)
        have hk := HLn.out j
        obtain ⟨K, hK⟩ : ∃ K, K = vsN L j := ⟨_, rfl⟩
        rw [← hK] at HO HS1 hk
        obtain ⟨x, hx⟩ : ∃ x, x = L[j] := ⟨_, rfl⟩
        rw [← hx] at h0 hbd HS1
        have hw1 : IntKind.i64.wrap ((j : Int) + 1) = (j : Int) + 1 := by simp only [IntKind.wrap_i64]; omega
        have hv := vlN_ok x
        obtain ⟨m, hm⟩ : ∃ m, m = x % 18446744073709551616 := ⟨_, rfl⟩
        obtain ⟨r, hr⟩ : ∃ r, r = m % 1099511627777 := ⟨_, rfl⟩
        have hr0 : 0 ≤ r ∧ r ≤ 1099511627776 := by omega
        have e1 : IntKind.u64.wrap x = m := by simp only [IntKind.wrap_u64]; omega
        have e2 : m.tmod 1099511627777 = r := by rw [Int.tmod_eq_emod_of_nonneg (by omega)]; omega
        have e3 : IntKind.u64.wrap r = r := by simp only [IntKind.wrap_u64]; omega
        have e4 : IntKind.i64.wrap r = r := by simp only [IntKind.wrap_i64]; omega
        have HM : Hid (m = x % 18446744073709551616 ∧ r = m % 1099511627777) := Lib.hid ⟨hm, hr⟩
        clear hK hx hm hr hv
        by_cases c1 : 0 ≤ x
        · by_cases c2 : x ≤ 1099511627776
          · have HE : Hid (vlN x = x) := Lib.hid (by unfold vlN; rw [if_pos ⟨c1, c2⟩])
            have HOa := Lib.hid (HO.out.alloc (.cells #[.int .i64 x] 3))
            have HBa := Lib.hid (HB.out.alloc hsz (.cells #[.int .i64 x] 3))
            go_wp2_with (at_builtin; refine wpList_append_agg rfl (.tmp 39) (.tmp 41) 36 rfl w.heap.size 3 i0 _ 1 8 Try.underlying36 Hi0.out Hz0.out Hz1.out Hz2.out rfl (by decide) _ K.length _ rfl HOa.out wr.heap.size 1 [.int .i64 x] 3 rfl (by simp [go_sem]) (Deep.blk_alloc_new wr _) (by simp [Value.oneCell']) (by omega) (by omega) (by simp <;> omega) ?_; intro v2 w2 hown2 hg2; have HB2 := Lib.hid (below_grownk (B := w.heap.size) (a := w) HBa.out HOa.out hg2 (Nat.le_refl _) (Nat.le_refl _)); have HO2 := Lib.hid hown2; clear hown2 hg2)
            go_roundw
            case rel =>
              refine ⟨j + 1, by omega, by omega, by go_num, ?_, HB2⟩
              rw [HS1.out, HE.out, List.length_append, List.map_append]
              exact HO2
            case measure => simp [intOf] <;> omega
          · have HE : Hid (vlN x = r) := Lib.hid (by unfold vlN; rw [if_neg (by omega), ← HM.out.1, ← HM.out.2])
            have HOa := Lib.hid (HO.out.alloc (.cells #[.int .i64 r] 3))
            have HBa := Lib.hid (HB.out.alloc hsz (.cells #[.int .i64 r] 3))
            go_wp2_with (at_builtin; refine wpList_append_agg rfl (.tmp 39) (.tmp 41) 36 rfl w.heap.size 3 i0 _ 1 8 Try.underlying36 Hi0.out Hz0.out Hz1.out Hz2.out rfl (by decide) _ K.length _ rfl HOa.out wr.heap.size 1 [.int .i64 r] 3 rfl (by simp [go_sem]) (Deep.blk_alloc_new wr _) (by simp [Value.oneCell']) (by omega) (by omega) (by simp <;> omega) ?_; intro v2 w2 hown2 hg2; have HB2 := Lib.hid (below_grownk (B := w.heap.size) (a := w) HBa.out HOa.out hg2 (Nat.le_refl _) (Nat.le_refl _)); have HO2 := Lib.hid hown2; clear hown2 hg2)
            go_roundw
            case rel =>
              refine ⟨j + 1, by omega, by omega, by go_num, ?_, HB2⟩
              rw [HS1.out, HE.out, List.length_append, List.map_append]
              exact HO2
            case measure => simp [intOf] <;> omega
        · have HE : Hid (vlN x = r) := Lib.hid (by unfold vlN; rw [if_neg (by omega), ← HM.out.1, ← HM.out.2])
          have HOa := Lib.hid (HO.out.alloc (.cells #[.int .i64 r] 3))
          have HBa := Lib.hid (HB.out.alloc hsz (.cells #[.int .i64 r] 3))
          go_wp2_with (at_builtin; refine wpList_append_agg rfl (.tmp 39) (.tmp 41) 36 rfl w.heap.size 3 i0 _ 1 8 Try.underlying36 Hi0.out Hz0.out Hz1.out Hz2.out rfl (by decide) _ K.length _ rfl HOa.out wr.heap.size 1 [.int .i64 r] 3 rfl (by simp [go_sem]) (Deep.blk_alloc_new wr _) (by simp [Value.oneCell']) (by omega) (by omega) (by simp <;> omega) ?_; intro v2 w2 hown2 hg2; have HB2 := Lib.hid (below_grownk (B := w.heap.size) (a := w) HBa.out HOa.out hg2 (Nat.le_refl _) (Nat.le_refl _)); have HO2 := Lib.hid hown2; clear hown2 hg2)
          go_roundw
          case rel =>
            refine ⟨j + 1, by omega, by omega, by go_num, ?_, HB2⟩
            rw [HS1.out, HE.out, List.length_append, List.map_append]
            exact HO2
          case measure => simp [intOf] <;> omega
      · obtain rfl : j = 40 := by omega
        have hge : ¬ (40 : Int) < 40 := by omega
        go_wp2_with fail
        go_ret
        exact ⟨⟨_, rfl, HO.out⟩, HB.out⟩
    · obtain rfl : j = L.length := by omega
      have e : vsN L L.length = vsN L 40 := by
        unfold vsN
        rw [List.take_of_length_le (Nat.le_refl _), List.take_of_length_le hj4]
      rw [e] at HO
      go_wp2_with fail
      go_ret
      exact ⟨⟨_, rfl, HO.out⟩, HB.out⟩
end Go.Proofs.Ytolgcphmmghlbaa
