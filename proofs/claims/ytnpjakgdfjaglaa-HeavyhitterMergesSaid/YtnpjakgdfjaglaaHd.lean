/- The law's most, weight, Key. -/
import Derived.Test.YtnpjakgdfjaglaaHc
namespace Go.Proofs.Ytnpjakgdfjaglaa
open Go.ChangeShapes Go.WideShapes Go.ChangeAt Go.RowKit Go.Joins

/-- The number of counters that a small number stands for. -/
def moN (n : Nat) : Int := 1 + ((n % 8 : Nat) : Int)
theorem mo_bd (n : Nat) : 1 ≤ moN n ∧ moN n ≤ 8 := by unfold moN; omega
theorem most_any (n : Nat) (hn : n ≤ 255) (w : World) : Calls Try.prog 22 #[.int .u8 (n : Int)] w fun e w' => e = .returned (.int .i64 (moN n)) ∧ w = w' := by
  obtain ⟨m, hm⟩ : ∃ m : Nat, m = n % 8 := ⟨_, rfl⟩
  have HM : Hid (moN n = 1 + (m : Int)) := Lib.hid (by unfold moN; rw [hm])
  have h0 : (0 : Int) ≤ (n : Int) := by omega
  have q1 : ((n : Int)).tmod 8 = (m : Int) := by rw [Int.tmod_eq_emod_of_nonneg h0]; omega
  have q2 : IntKind.i64.wrap (m : Int) = (m : Int) := by simp only [IntKind.wrap_i64]; omega
  have q3 : IntKind.i64.wrap (1 + (m : Int)) = 1 + (m : Int) := by simp only [IntKind.wrap_i64]; omega
  clear hm
  go_enter Try.func22, Try.ntmps22
  go_wp2_with fail
  go_ret
  exact ⟨ret_int HM.out.symm, rfl⟩
theorem weight_any (x : It) (hx : x.2 ≤ 255) (w : World) : Calls Try.prog 24 #[.agg #[.int .u8 (x.1 : Int), .int .u8 (x.2 : Int)]] w fun e w' => e = .returned (.int .i64 (wtI x)) ∧ Below w.heap.size w w' := by
  obtain ⟨k, n⟩ := x
  dsimp only at hx ⊢
  obtain ⟨m, hm⟩ : ∃ m : Nat, m = n % 32 := ⟨_, rfl⟩
  have HM : Hid (wtI (k, n) = 1 + (m : Int)) := Lib.hid (by unfold wtI; rw [hm])
  have h0 : (0 : Int) ≤ (n : Int) := by omega
  have q1 : ((n : Int)).tmod 32 = (m : Int) := by rw [Int.tmod_eq_emod_of_nonneg h0]; omega
  have q2 : IntKind.i64.wrap (m : Int) = (m : Int) := by simp only [IntKind.wrap_i64]; omega
  have q3 : IntKind.i64.wrap (1 + (m : Int)) = 1 + (m : Int) := by simp only [IntKind.wrap_i64]; omega
  clear hm
  go_enter Try.func24, Try.ntmps24
  go_wp2_with fail
  go_ret
  exact ⟨ret_int HM.out.symm, (Below.refl _ _).alloc (Nat.le_refl _) _⟩
set_option maxRecDepth 100000 in
theorem key_any (x : It) (hx : x.1 ≤ 255) (w : World) : Calls Try.prog 23 #[.agg #[.int .u8 (x.1 : Int), .int .u8 (x.2 : Int)]] w fun e w' => e = .returned (.string (kyI x.1)) ∧ Below w.heap.size w w' := by
  obtain ⟨k, n⟩ := x
  dsimp only at hx ⊢
  obtain ⟨m, hm⟩ : ∃ m : Nat, m = k % 26 := ⟨_, rfl⟩
  obtain ⟨a, ha⟩ : ∃ a : Nat, a = 97 + m := ⟨_, rfl⟩
  have h0 : (0 : Int) ≤ (k : Int) := by omega
  have q1 : ((k : Int)).tmod 26 = (m : Int) := by rw [Int.tmod_eq_emod_of_nonneg h0]; omega
  have q3 : IntKind.u8.wrap (97 + (m : Int)) = (a : Int) := by simp only [IntKind.wrap_u8]; omega
  have HA : Hid (a = 97 + k % 26) := Lib.hid (by omega)
  obtain ⟨W, hW⟩ : ∃ W, W = w.alloc (.cells #[.int .u8 (k : Int), .int .u8 (n : Int)] 44) := ⟨_, rfl⟩
  have hz : W.heap.size = w.heap.size + 1 := by rw [hW]; simp
  have hcv := run_convert_bytes_back (P := Try.prog) (W.alloc (.cells #[.int .u8 107, .int .u8 (a : Int)] 5)) 79 9 5 ⟨W.heap.size, 0, none⟩ 2 [107, UInt8.ofNat (97 + k % 26)] Try.underlying79 Try.underlying5 Try.underlying9 (fun j hj => by
    have e2 : (UInt8.ofNat (97 + k % 26)).toNat = 97 + k % 26 := by simp; omega
    rw [add_flat, Nat.zero_add, cell_of_row _ W.heap.size j _ _ _ (Deep.blk_alloc_new W _)]
    have hj2 : j = 0 ∨ j = 1 := by simp at hj; omega
    rcases hj2 with rfl | rfl
    · rfl
    · show some (Value.int .u8 (a : Int)) = some (.int .u8 ((UInt8.ofNat (97 + k % 26)).toNat : Int))
      rw [e2, HA.out])
  simp only [List.length_cons, List.length_nil, Nat.reduceAdd] at hcv
  have HK : Hid ((⟨[107, UInt8.ofNat (97 + k % 26)].toArray⟩ : ByteArray) = kyI k) := Lib.hid rfl
  obtain ⟨y, hy⟩ : ∃ y : ByteArray, y = ⟨[107, UInt8.ofNat (97 + k % 26)].toArray⟩ := ⟨_, rfl⟩
  rw [← hy] at hcv HK
  rw [hz, hW] at hcv
  have HB : Hid (Below w.heap.size w ((w.alloc (.cells #[.int .u8 (k : Int), .int .u8 (n : Int)] 44)).alloc (.cells #[.int .u8 107, .int .u8 (a : Int)] 5))) := Lib.hid (((Below.refl _ _).alloc (Nat.le_refl _) _).alloc (by simp) _)
  clear hm ha hy hW hz HA
  go_enter Try.func23, Try.ntmps23
  go_wp2_with fail
  go_ret
  exact ⟨by rw [HK.out]; rfl, HB.out⟩
end Go.Proofs.Ytnpjakgdfjaglaa
