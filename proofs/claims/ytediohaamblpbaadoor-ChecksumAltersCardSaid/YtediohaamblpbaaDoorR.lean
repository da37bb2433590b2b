/- What the register's functions return: pass, Extend, Sum, and the reference's. -/
import Derived.Test.YtediohaamblpbaaDoorW
namespace Go.Proofs.YtediohaamblpbaaDoor
open Go.ChangeShapes Go.WideShapes Go.ChangeAt Go.RowKit Ck

theorem u32_lt (a : BitVec 32) : a.toNat < 4294967296 := a.isLt
theorem wrap_nat32 (n : Nat) : IntKind.u32.wrap (n : Int) = ((BitVec.ofNat 32 n).toNat : Int) := by
  rw [IntKind.wrap_u32', BitVec.toNat_ofNat]; omega
theorem xor32 (a b : BitVec 32) : bits .xor .u32 (a.toNat : Int) (b.toNat : Int) = ((a ^^^ b).toNat : Int) := by
  rw [u32_xor_nat _ _ (u32_lt a) (u32_lt b), BitVec.toNat_xor]
theorem shr4 (a : BitVec 32) : (a.toNat : Int) / (16 : Int) = ((a >>> 4).toNat : Int) := by
  rw [BitVec.toNat_ushiftRight, Nat.shiftRight_eq_div_pow, Int.natCast_ediv]; rfl
theorem and_15 (a : BitVec 32) : bits .and .u32 (a.toNat : Int) 15 = ((a.toNat % 16 : Nat) : Int) := by
  have h := u32_and_nat a.toNat 15 (u32_lt a) (by omega)
  rw [show ((15 : Nat) : Int) = 15 from rfl] at h
  rw [h, show a.toNat &&& 15 = a.toNat % 2 ^ 4 from Nat.and_two_pow_sub_one_eq_mod a.toNat 4]
theorem nib_int (c : BitVec 32) : bits .xor .u32 ((c.toNat : Int) / 16) ((tab (c.toNat % 16)).toNat : Int) = ((shn 4 c).toNat : Int) := by
  rw [shr4, xor32, nib]

/-- The table reads as its initialiser has it. -/
def Tab (w : World) : Prop := ∀ k : Nat, k < 16 → w.cell? ⟨0, k, none⟩ = some (.int .u32 (tab k).toNat)
theorem Tab.of_heap {w w' : World} (h : Tab w) (e : w'.heap = w.heap) : Tab w' := fun k hk => by
  rw [← h k hk]; simp [World.cell?, e]
theorem Tab.lt {w : World} (h : Tab w) : 0 < w.heap.size := by
  have := block_lt_of_cell (h 0 (by omega)); simpa using this
theorem Tab.below {w w' : World} (h : Tab w) (hb : Below w.heap.size w w') : Tab w' := fun k hk => by
  rw [← h k hk]; exact hb.cell (p := ⟨0, k, none⟩) h.lt
theorem Tab.drewN {w : World} (h : Tab w) (n : Nat) : Tab (w.drewN n) := h
theorem Tab.alloc {w : World} (h : Tab w) (o : Obj) : Tab (w.alloc o) := h.below ((Below.refl _ _).alloc (Nat.le_refl _) o)

set_option maxHeartbeats 400000 in
theorem pass_any (c : BitVec 32) (v : Int) (hv : v = c.toNat) (w : World) (hT : Tab w) :
    Calls Tryd.prog 35 #[.int .u32 v] w fun e w' => e = .returned (.int .u32 (shn 8 c).toNat) ∧ w = w' := by
  subst hv
  obtain ⟨d, hd⟩ : ∃ d, shn 4 c = d := ⟨_, rfl⟩
  have e1 := and_15 c
  have e2 := nib_int c
  have hj : c.toNat % 16 < 16 := Nat.mod_lt _ (by omega)
  have c1 := hT _ hj
  have e3 := and_15 d
  have e4 := nib_int d
  have hi : d.toNat % 16 < 16 := Nat.mod_lt _ (by omega)
  have c2 := hT _ hi
  rw [hd] at e2
  have hfin : shn 4 d = shn 8 c := by rw [← hd]; exact pass_nib c
  rw [hfin] at e4
  have HT := Lib.hid hT
  clear hT hd hfin
  generalize c.toNat % 16 = j at *
  generalize d.toNat % 16 = i at *
  generalize shn 8 c = f at *
  go_enter Tryd.func35, Tryd.ntmps35
  go_wp2
  go_ret
  exact ⟨rfl, rfl⟩

theorem not32 (c : BitVec 32) : bits .xor .u32 IntKind.u32.max (c.toNat : Int) = ((~~~c).toNat : Int) := by
  have h := xor32 (BitVec.allOnes 32) c
  rw [BitVec.allOnes_xor] at h
  exact h
theorem xbyte (c : BitVec 32) (b : UInt8) : bits .xor .u32 (c.toNat : Int) (IntKind.u32.wrap (b.toNat : Int)) = ((c ^^^ byte b).toNat : Int) := by
  rw [wrap_nat32, xor32]; rfl
set_option maxHeartbeats 400000 in
theorem ext_any (c : BitVec 32) (v : Int) (hv : v = c.toNat) (t : ByteArray) (ht : t.size ≤ maxLen) (w : World) (hT : Tab w) :
    Calls Tryd.prog 22 #[.int .u32 v, .string t] w fun e w' => e = .returned (.int .u32 (ext c t.data.toList).toNat) ∧ w = w' := by
  subst hv
  unfold maxLen at ht
  have HT := Lib.hid hT
  clear hT
  have e0 := not32 c
  have hfin : ext c t.data.toList = ~~~(reg (~~~c) t.data.toList) := rfl
  rw [hfin]
  clear hfin
  generalize ~~~c = d at *
  obtain ⟨f, hf⟩ : ∃ f, ~~~(reg d t.data.toList) = f := ⟨_, rfl⟩
  rw [hf]
  have Hf := Lib.hid hf
  clear hf
  go_enter Tryd.func22, Tryd.ntmps22
  go_wp2
  clear e0
  go_loop [5, 11] (fun h i => ∃ k : Nat, k ≤ t.size ∧ i = .int .i64 k ∧ h = .int .u32 (reg d (t.data.toList.take k)).toNat) (fun _ i => t.size - (intOf i).toNat)
  case atStart => exact ⟨0, Nat.zero_le _, rfl, rfl⟩
  case round =>
    obtain ⟨k, hk, rfl, rfl⟩ := hrel
    by_cases hlt : k < t.size
    · go_wp2_with fail
      refine (pass_any (reg d (t.data.toList.take k) ^^^ byte t[k]) _ (xbyte _ _) _ HT.out).mono ?_
      rintro e w' ⟨rfl, rfl⟩
      go_wp2_with fail
      go_round
      case rel => exact ⟨k + 1, by omega, by go_num, by rw [take_snoc _ _ hlt, reg_snoc]⟩
      case measure => simp [intOf]; omega
    · obtain rfl : k = t.size := by omega
      go_wp2_with fail
      go_ret
      refine ⟨ret_int ?_, rfl⟩
      rw [List.take_of_length_le (by simp), not32, Hf.out]
theorem sum_any (t : ByteArray) (ht : t.size ≤ maxLen) (w : World) (hT : Tab w) :
    Calls Tryd.prog 20 #[.string t] w fun e w' => e = .returned (.int .u32 (Ck.sum t.data.toList).toNat) ∧ w = w' := by
  have HT := Lib.hid hT
  clear hT
  go_enter Tryd.func20, Tryd.ntmps20
  go_wp2_with fail
  refine (ext_any 0#32 _ rfl t ht _ HT.out).mono ?_
  rintro e w' ⟨rfl, rfl⟩
  go_wp2_with fail
  go_ret
  exact ⟨rfl, rfl⟩

theorem shr1 (a : BitVec 32) : (a.toNat : Int) / (2 : Int) = ((a >>> 1).toNat : Int) := by
  rw [BitVec.toNat_ushiftRight, Nat.shiftRight_eq_div_pow, Int.natCast_ediv]; rfl
theorem low_bit (c : BitVec 32) : c.getLsbD 0 = decide (c.toNat % 2 = 1) := by
  rw [BitVec.getLsbD, Nat.testBit_zero]
theorem rshift_any (c : BitVec 32) (w : World) :
    Calls Tryd.prog 36 #[.int .u32 c.toNat] w fun e w' => e = .returned (.int .u32 (sh c).toNat) ∧ w = w' := by
  by_cases h : c.toNat % 2 = 1
  · have h1 : ((c.toNat : Int) % 2 == 1) = true := by rw [beq_iff_eq]; omega
    have hs : sh c = c >>> 1 ^^^ poly := by unfold sh; rw [low_bit]; simp [h]
    have h := Lib.hid h
    have hs := Lib.hid hs
    go_enter Tryd.func36, Tryd.ntmps36
    go_wp2
    go_ret
    refine ⟨ret_int ?_, rfl⟩
    rw [shr1, hs.out, ← xor32]; rfl
  · have h1 : ((c.toNat : Int) % 2 == 1) = false := by rw [beq_eq_false_iff_ne]; omega
    have hs : sh c = c >>> 1 := by unfold sh; rw [low_bit]; simp [h]
    have hs := Lib.hid hs
    clear h
    go_enter Tryd.func36, Tryd.ntmps36
    go_wp2
    go_ret
    refine ⟨ret_int ?_, rfl⟩
    rw [shr1, hs.out]
theorem rshift_at (c : BitVec 32) (v : Int) (hv : v = c.toNat) (w : World) :
    Calls Tryd.prog 36 #[.int .u32 v] w fun e w' => e = .returned (.int .u32 (sh c).toNat) ∧ w = w' := by
  subst hv; exact rshift_any c w
set_option maxHeartbeats 1000000 in
theorem rreg_any (c : BitVec 32) (v : Int) (hv : v = c.toNat) (t : ByteArray) (ht : t.size ≤ maxLen) (w : World) :
    Calls Tryd.prog 23 #[.int .u32 v, .string t] w fun e w' => e = .returned (.int .u32 (reg c t.data.toList).toNat) ∧ w = w' := by
  subst hv
  unfold maxLen at ht
  go_enter Tryd.func23, Tryd.ntmps23
  go_wp2
  go_loop [0, 5] (fun h i => ∃ k : Nat, k ≤ t.size ∧ i = .int .i64 k ∧ h = .int .u32 (reg c (t.data.toList.take k)).toNat) (fun _ i => t.size - (intOf i).toNat)
  case atStart => exact ⟨0, Nat.zero_le _, rfl, rfl⟩
  case round =>
    obtain ⟨k, hk, rfl, rfl⟩ := hrel
    by_cases hlt : k < t.size
    · go_wp2_with fail
      go_loop [0, 6] (fun h i => ∃ j : Nat, j ≤ 8 ∧ i = .int .i64 j ∧ h = .int .u32 (shn j (reg c (t.data.toList.take k) ^^^ byte t[k])).toNat) (fun _ i => 8 - (intOf i).toNat)
      case atStart => exact ⟨0, Nat.zero_le _, rfl, by rw [← IntKind.wrap_u32', xbyte]; rfl⟩
      case round =>
        obtain ⟨j, hj, rfl, rfl⟩ := hrel
        by_cases hjt : j < 8
        · go_wp2_with fail
          refine (rshift_at (shn j (reg c (t.data.toList.take k) ^^^ byte t[k])) _ rfl _).mono ?_
          rintro e w' ⟨rfl, rfl⟩
          go_wp2_with fail
          go_round
          case rel => exact ⟨j + 1, by omega, by go_num, by rw [shn_succ]⟩
          case measure => simp [intOf]; omega
        · obtain rfl : j = 8 := by omega
          go_wp2_with fail
          go_round
          case rel => exact ⟨k + 1, by omega, by go_num, by rw [take_snoc _ _ hlt, reg_snoc]⟩
          case measure => simp [intOf]; omega
    · obtain rfl : k = t.size := by omega
      go_wp2_with fail
      go_ret
      refine ⟨ret_int ?_, rfl⟩
      rw [List.take_of_length_le (by simp)]
theorem rsum_any (t : ByteArray) (ht : t.size ≤ maxLen) (w : World) :
    Calls Tryd.prog 21 #[.string t] w fun e w' => e = .returned (.int .u32 (Ck.sum t.data.toList).toNat) ∧ w = w' := by
  obtain ⟨f, hf⟩ : ∃ f, Ck.sum t.data.toList = f := ⟨_, rfl⟩
  rw [hf]
  have Hf := Lib.hid hf
  clear hf
  go_enter Tryd.func21, Tryd.ntmps21
  go_wp2_with fail
  refine (rreg_any (~~~0#32) _ rfl t ht _).mono ?_
  rintro e w' ⟨rfl, rfl⟩
  go_wp2_with fail
  go_ret
  refine ⟨ret_int ?_, rfl⟩
  rw [not32, ← Hf.out]; rfl
set_option maxHeartbeats 400000 in
theorem rzeros_any (c : BitVec 32) (v : Int) (hv : v = c.toNat) (n : Nat) (hn : n ≤ 1000000) (w : World) :
    Calls Tryd.prog 25 #[.int .u32 v, .int .i64 n] w fun e w' => e = .returned (.int .u32 (shn (8 * n) c).toNat) ∧ w = w' := by
  subst hv
  go_enter Tryd.func25, Tryd.ntmps25
  go_wp2
  go_loop [0, 5] (fun h i => ∃ k : Nat, k ≤ 8 * n ∧ i = .int .i64 k ∧ h = .int .u32 (shn k c).toNat) (fun _ i => 8 * n - (intOf i).toNat)
  case atStart => exact ⟨0, Nat.zero_le _, rfl, rfl⟩
  case round =>
    obtain ⟨k, hk, rfl, rfl⟩ := hrel
    by_cases hlt : k < 8 * n
    · go_wp2_with fail
      refine (rshift_at (shn k c) _ rfl _).mono ?_
      rintro e w' ⟨rfl, rfl⟩
      go_wp2_with fail
      go_round
      case rel => exact ⟨k + 1, by omega, by go_num, by rw [shn_succ]⟩
      case measure => simp [intOf]; omega
    · obtain rfl : k = 8 * n := by omega
      go_wp2_with fail
      go_ret
      exact ⟨rfl, rfl⟩
end Go.Proofs.YtediohaamblpbaaDoor
