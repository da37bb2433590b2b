
/- The reference's digits and Print. -/
import Derived.Test.YtokapficojgkgaaDoorIt
import Derived.Test.YtokapficojgkgaaDoorCheck
import Derived.Laws.IdiomStrings
namespace Go.Proofs.YtokapficojgkgaaDoor
open Go.ChangeShapes Go.WideShapes Go.ChangeAt Go.RowKit Pl

theorem conv_digit {r : Nat} (hr : r < 10) (w : World) : (convert 56 9 (.slice (some ⟨w.heap.size, 0, none⟩) 1 1)).run Tryd.prog (w.alloc (.cells #[.int .u8 (48 + (r : Int))] 5)) = .ok (.string ⟨#[UInt8.ofNat (48 + r)]⟩) (w.alloc (.cells #[.int .u8 (48 + (r : Int))] 5)) := by
  refine run_convert_bytes_back (w.alloc (.cells #[.int .u8 (48 + (r : Int))] 5)) 56 9 5 ⟨w.heap.size, 0, none⟩ 1 [UInt8.ofNat (48 + r)] Tryd.underlying56 Tryd.underlying5 Tryd.underlying9 ?_
  intro j hj
  have hj0 : j = 0 := by simpa using hj
  subst hj0
  have ha : (⟨w.heap.size, 0, none⟩ : Addr).add 0 = ⟨w.heap.size, 0, none⟩ := by unfold Addr.add; rfl
  rw [ha, cell_of_row _ w.heap.size 0 _ _ _ (Deep.blk_alloc_new w _)]
  show some (Value.int .u8 (48 + (r : Int))) = some (.int .u8 ((UInt8.ofNat (48 + r)).toNat : Int))
  rw [digit_nat hr]
  congr 2
theorem bytes_cons (x : UInt8) (S : List UInt8) : (⟨#[x]⟩ : ByteArray) ++ ⟨S.toArray⟩ = ⟨(x :: S).toArray⟩ := by
  refine ByteArray.ext ?_
  rw [ByteArray.data_append]
  simp
set_option maxRecDepth 100000 in
set_option maxHeartbeats 1000000 in
theorem digits_any (u : Nat) (hu : u ≤ 1048576) (w : World) :
    Calls Tryd.prog 21 #[.int .i64 (u : Int), .int .i64 1] w fun e w' => e = .returned (.string ⟨(Lib.decDigits u).toArray⟩) ∧ Below w.heap.size w w' := by
  have hlen := nd_le (k := 6) (u := u) (by omega)
  rw [← dec_len] at hlen
  have HF := Lib.hid (fun (c : Nat) (S : List UInt8) (h : Lib.decDigits c ++ S = Lib.decDigits u) => dec_step u S h)
  obtain ⟨D, hD⟩ : ∃ D, D = Lib.decDigits u := ⟨_, rfl⟩
  rw [← hD] at hlen HF ⊢
  go_enter Tryd.func21, Tryd.ntmps21
  go_wp2_with fail
  go_loopw [0, 5, 6] (fun cv sv iv wr => ∃ (c i : Nat) (S : List UInt8) (T : ByteArray), cv = .int .i64 (c : Int) ∧ sv = .string T ∧ Hid (T = ⟨S.toArray⟩) ∧ iv = .int .i64 (i : Int) ∧ Hid (S.length = i) ∧ Hid (c ≤ 1048576) ∧ Hid ((i = 0 ∨ 0 < c) → Lib.decDigits c ++ S = D) ∧ Hid (i ≠ 0 → c = 0 → S = D) ∧ Hid (Below w.heap.size w wr)) (fun cv _ iv _ => 2 * (intOf cv).toNat + (if intOf iv = 0 then 1 else 0))
  case atStart => exact ⟨u, 0, [], ⟨#[]⟩, rfl, rfl, Lib.hid rfl, rfl, Lib.hid rfl, Lib.hid hu, Lib.hid (fun _ => by rw [List.append_nil]; exact hD.symm), Lib.hid (fun h => absurd rfl h), Lib.hid (Below.refl _ _)⟩
  case round =>
    obtain ⟨c, i, S, T, rfl, rfl, HT, rfl, HL, HC, HG, HE, HB⟩ := hrel
    have hTs : T.size = i := by rw [HT.out, ← HL.out]; exact List.size_toArray
    have hL := HL.out
    have hC := HC.out
    by_cases hgo : i = 0 ∨ 0 < c
    · have hst := HF.out c S (HG.out hgo)
      have hgl := HG.out hgo
      have hil : i ≤ 7 := by
        have := congrArg List.length hgl
        rw [List.length_append] at this
        omega
      have hd10 : c % 10 < 10 := by omega
      obtain ⟨r, hr⟩ : ∃ r, r = c % 10 := ⟨_, rfl⟩
      obtain ⟨q, hq⟩ : ∃ q, q = c / 10 := ⟨_, rfl⟩
      rw [← hr] at hd10
      have e1 : (c : Int).tmod 10 = (r : Int) := by rw [Int.tmod_eq_emod_of_nonneg (by omega)]; omega
      have e1' : (c : Int) % 10 = (r : Int) := by omega
      have e2 : (c : Int).tdiv 10 = (q : Int) := by rw [Int.tdiv_eq_ediv_of_nonneg (by omega)]; omega
      have e2' : (c : Int) / 10 = (q : Int) := by omega
      have w1 : IntKind.i64.wrap (r : Int) = (r : Int) := by simp only [IntKind.wrap_i64]; omega
      have w2 : IntKind.i64.wrap (48 + (r : Int)) = 48 + (r : Int) := by simp only [IntKind.wrap_i64]; omega
      have w3 : IntKind.u8.wrap (48 + (r : Int)) = 48 + (r : Int) := by simp only [IntKind.wrap_u8]; omega
      have w4 : IntKind.i64.wrap (q : Int) = (q : Int) := by simp only [IntKind.wrap_i64]; omega
      have w5 : IntKind.i64.wrap ((i : Int) + 1) = (i : Int) + 1 := by simp only [IntKind.wrap_i64]; omega
      have hc0 : (0 : Int) ≤ (c : Int) := by omega
      rw [← hr, ← hq] at hst
      have HST := Lib.hid hst
      clear hst hgl hr hq hL hC hlen
      rcases Nat.eq_zero_or_pos i with hi | hi
      · subst hi
        have hcv := conv_digit hd10 wr
        obtain ⟨X, hX⟩ : ∃ X : ByteArray, X = ⟨#[UInt8.ofNat (48 + r)]⟩ := ⟨_, rfl⟩
        have hXs : X.size = 1 := by rw [hX]; rfl
        have n1 : ¬ 9223372036854775807 < X.size + T.size := by omega
        rw [← hX] at hcv
        have HX := Lib.hid hX
        clear hX hXs hTs
        go_wp2_with fail
        go_roundw
        case rel =>
          refine ⟨q, 0 + 1, UInt8.ofNat (48 + r) :: S, X ++ T, rfl, rfl, Lib.hid (by rw [HX.out, HT.out, bytes_cons]), by go_num, Lib.hid (by rw [List.length_cons, HL.out]), Lib.hid (by have := HC.out; omega), Lib.hid (fun h => ?_), Lib.hid (fun _ h => ?_), Lib.hid (HB.out.alloc HB.out.size _)⟩
          · rcases HST.out with ⟨h1, _⟩ | ⟨_, h2⟩
            · exact absurd h (by omega)
            · exact h2
          · rcases HST.out with ⟨_, h2⟩ | ⟨h1, _⟩
            · exact h2
            · omega
        case measure =>
          have hq2 : (q : Int) = (c : Int).tdiv 10 := e2.symm
          rw [Int.tdiv_eq_ediv_of_nonneg hc0] at hq2
          simp [intOf] <;> omega
      · have hcp : 0 < c ∨ c = 0 := by omega
        have hi1 : ¬ (i : Int) < 1 := by omega
        have hc1 : (0 : Int) < (c : Int) := by omega
        have hcv := conv_digit hd10 wr
        obtain ⟨X, hX⟩ : ∃ X : ByteArray, X = ⟨#[UInt8.ofNat (48 + r)]⟩ := ⟨_, rfl⟩
        have hXs : X.size = 1 := by rw [hX]; rfl
        have n1 : ¬ 9223372036854775807 < X.size + T.size := by omega
        rw [← hX] at hcv
        have HX := Lib.hid hX
        clear hX hXs hTs
        go_wp2_with fail
        go_roundw
        case rel =>
          refine ⟨q, i + 1, UInt8.ofNat (48 + r) :: S, X ++ T, rfl, rfl, Lib.hid (by rw [HX.out, HT.out, bytes_cons]), by go_num, Lib.hid (by rw [List.length_cons, HL.out]), Lib.hid (by have := HC.out; omega), Lib.hid (fun h => ?_), Lib.hid (fun _ h => ?_), Lib.hid (HB.out.alloc HB.out.size _)⟩
          · rcases HST.out with ⟨h1, _⟩ | ⟨_, h2⟩
            · exact absurd h (by omega)
            · exact h2
          · rcases HST.out with ⟨_, h2⟩ | ⟨h1, _⟩
            · exact h2
            · omega
        case measure =>
          have hq2 : (q : Int) = (c : Int).tdiv 10 := e2.symm
          rw [Int.tdiv_eq_ediv_of_nonneg hc0] at hq2
          have z1 : ¬ i = 0 := by omega
          have z2 : ¬ ((i : Int) + 1 = 0) := by omega
          simp [intOf, z1, z2] <;> omega
    · have hi1 : ¬ (i : Int) < 1 := by omega
      have hc1 : ¬ (0 : Int) < (c : Int) := by omega
      have hS := HE.out (by omega) (by omega)
      have hT2 := HT.out
      rw [hS] at hT2
      subst hT2
      clear hL hC hlen hTs hS
      go_wp2_with fail
      go_ret
      exact ⟨rfl, HB.out⟩
end Go.Proofs.YtokapficojgkgaaDoor
