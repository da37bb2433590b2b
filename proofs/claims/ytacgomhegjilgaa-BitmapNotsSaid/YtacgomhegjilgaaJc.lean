/- The reference's Not (written by wip/bin/gen_jc.py). -/
import Derived.Test.YtacgomhegjilgaaGa
import Derived.Test.YtacgomhegjilgaaGb
namespace Go.Proofs.Ytacgomhegjilgaa
open Go.ChangeShapes Go.WideShapes Go.ChangeAt Go.RowKit Ts

/-- The numbers below k. -/
def upL (k : Nat) : List Int := (List.range k).map (fun i : Nat => (i : Int))
theorem upL_len (k : Nat) : (upL k).length = k := by unfold upL; rw [List.length_map, List.length_range]
theorem upL_get (k j : Nat) (h : j < k) : (upL k)[j]'(by rw [upL_len]; exact h) = (j : Int) := by simp [upL]
theorem upL_inc (k : Nat) : Inc (upL k) := by
  unfold upL
  refine List.pairwise_map.2 (List.pairwise_lt_range.imp (fun {a b} h => ?_))
  show (a : Int) < (b : Int)
  omega
theorem upL_mem (k : Nat) (n : Int) : n ∈ upL k ↔ 0 ≤ n ∧ n < (k : Int) := by
  unfold upL
  constructor
  · intro h
    obtain ⟨i, hi, rfl⟩ := List.mem_map.1 h
    have := List.mem_range.1 hi
    omega
  · intro h
    exact List.mem_map.2 ⟨n.toNat, List.mem_range.2 (by omega), by omega⟩
set_option maxRecDepth 100000 in
set_option maxHeartbeats 1000000 in
theorem ref_not (B : Option Addr) (d : Nat) (M : List Int) (k : Nat) (hk : k ≤ 900000) (hm : M.length ≤ 900000) (w : World) (hQ : Rs w w.heap.size B (nC M)) :
    Calls Try.prog 42 #[.slice B M.length d, .int .i64 (k : Int)] w fun e w' => (∃ v, e = .returned v ∧ w'.ownsRow w.heap.size 3 1 v ((upL k).filter (fun x => !decide (x ∈ M))).length (nC ((upL k).filter (fun x => !decide (x ∈ M))))) ∧ Below w.heap.size w w' := by
  have HQ := Lib.hid hQ
  obtain ⟨f, hf⟩ : ∃ f : Int → Bool, f = fun x => !decide (x ∈ M) := ⟨_, rfl⟩
  rw [← hf]
  have HF : Hid (∀ x, f x = !decide (x ∈ M)) := Lib.hid (fun x => by rw [hf])
  have HS : Hid (∀ j, j < k → ((upL k).take (j + 1)).filter f = ((upL k).take j).filter f ++ if f (j : Int) = true then [(j : Int)] else []) := Lib.hid (fun j hj => by
    have := fil_step f (upL k) j (by rw [upL_len]; exact hj)
    rw [upL_get k j hj] at this
    exact this)
  have HL := Lib.hid (fil_len f (upL k))
  have HE : Hid (((upL k).take k).filter f = (upL k).filter f) := Lib.hid (by rw [List.take_of_length_le (by rw [upL_len]; omega)])
  obtain ⟨U, hU⟩ : ∃ U, U = upL k := ⟨_, rfl⟩
  rw [← hU] at HS HL HE ⊢
  obtain ⟨i0, hi0, hz0, hz1, hz2⟩ := info_parts2 info_num
  have Hi0 := Lib.hid hi0
  have Hz0 := Lib.hid hz0
  have Hz1 := Lib.hid hz1
  have Hz2 := Lib.hid hz2
  clear hQ hf hi0 hz0 hz1 hz2 hU
  go_enter Try.func42, Try.ntmps42
  go_wp2_with fail
  go_loopw [5, 6] (fun u iv wr => ∃ j : Nat, j ≤ k ∧ iv = .int .i64 (j : Int) ∧ Hid (wr.ownsRow w.heap.size 3 1 u ((U.take j).filter f).length (nC ((U.take j).filter f))) ∧ Hid (Below w.heap.size w wr)) (fun _ iv _ => k - (intOf iv).toNat)
  case atStart => exact ⟨0, Nat.zero_le _, rfl, Lib.hid ⟨rfl, Or.inl ⟨rfl, rfl⟩⟩, Lib.hid (Below.refl _ _)⟩
  case round =>
    obtain ⟨j, hj, rfl, HO, HB⟩ := hrel
    have hle := HL.out j
    by_cases hlt : j < k
    · have HS1 := Lib.hid (HS.out j hlt)
      obtain ⟨J, hJ⟩ : ∃ J, J = (U.take j).filter f := ⟨_, rfl⟩
      rw [← hJ] at hle HS1 HO
      clear hJ
      have hjl : (j : Int) < (k : Int) := by omega
      have hj0 : (0 : Int) ≤ (j : Int) := by omega
      have hw1 : IntKind.i64.wrap ((j : Int) + 1) = (j : Int) + 1 := by simp only [IntKind.wrap_i64]; omega
      have HC := Lib.hid (has_any B d M hm (j : Int) wr ((HQ.out.below HB.out).more HB.out.size))
      have HFx := Lib.hid (HF.out (j : Int))
      by_cases hmm : (j : Int) ∈ M
      · rw [decide_eq_true hmm] at HC HFx
        have HS2 : Hid ((U.take (j + 1)).filter f = J) := Lib.hid (by rw [HS1.out, HFx.out]; simp)
        clear hmm
        go_wp2_with fail
        refine HC.out.mono ?_
        rintro e w1 ⟨rfl, rfl⟩
        go_wp2_with fail
        go_roundw
        case rel => exact ⟨j + 1, by omega, by go_num, by rw [HS2.out]; exact HO, HB⟩
        case measure => simp [intOf] <;> omega
      · rw [decide_eq_false hmm] at HC HFx
        have HS2 : Hid ((U.take (j + 1)).filter f = J ++ [(j : Int)]) := Lib.hid (by rw [HS1.out, HFx.out]; simp)
        have HOa := Lib.hid (HO.out.alloc (.cells #[.int .i64 (j : Int)] 3))
        have HBa := Lib.hid (HB.out.alloc HB.out.size (.cells #[.int .i64 (j : Int)] 3))
        have HKa := Lib.hid (Deep.blk_alloc_new wr (.cells #[.int .i64 (j : Int)] 3))
        clear hmm
        go_wp2_with fail
        refine HC.out.mono ?_
        rintro e w1 ⟨rfl, rfl⟩
        go_wp2_with (at_builtin; refine wpList_append_agg rfl (.tmp 16) (.tmp 18) 22 rfl w.heap.size 3 i0 _ 1 8 Try.underlying22 Hi0.out Hz0.out Hz1.out Hz2.out rfl (by decide) _ J.length _ rfl HOa.out w1.heap.size 1 [.int .i64 (j : Int)] 3 rfl rfl HKa.out (by simp [Value.oneCell']) (by omega) (by omega) HBa.out.size ?_; intro v4 w4 hown4 hg4; have HO4 := Lib.hid hown4; have HB4 := Lib.hid (below_grownk (B := w.heap.size) (a := w) HBa.out HOa.out hg4 (Nat.le_refl _) (Nat.le_refl _)); clear hown4 hg4)
        go_roundw
        case rel => exact ⟨j + 1, by omega, by go_num, by rw [HS2.out]; exact Lib.hid (by have h := HO4.out; unfold nC at h ⊢; rw [List.map_append, List.length_append]; exact h), HB4⟩
        case measure => simp [intOf] <;> omega
    · obtain rfl : j = k := by omega
      rw [HE.out] at HO
      go_wp2_with fail
      go_ret
      exact ⟨⟨_, rfl, HO.out⟩, HB.out⟩
end Go.Proofs.Ytacgomhegjilgaa
