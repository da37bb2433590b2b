/- The reference's Has, Same, Rank, Valid, And, AndNot, Not (written by wip/bin/gen_ga.py). -/
import Derived.Test.YtacgomhegjilgaaKn
namespace Go.Proofs.Ytacgomhegjilgaa
open Go.ChangeShapes Go.WideShapes Go.ChangeAt Go.RowKit Ts

set_option maxRecDepth 100000 in
theorem has_any (A : Option Addr) (c : Nat) (L : List Int) (hl : L.length ≤ 900000) (n : Int) (w : World) (hR : Rs w w.heap.size A (nC L)) :
    Calls Try.prog 29 #[.slice A L.length c, .int .i64 n] w fun e w' => e = .returned (.bool (decide (n ∈ L))) ∧ w' = w := by
  have HR := Lib.hid hR
  obtain ⟨F, hF⟩ : ∃ F, F = decide (n ∈ L) := ⟨_, rfl⟩
  rw [← hF]
  have HF := Lib.hid hF
  clear hR hF
  go_enter Try.func29, Try.ntmps29
  go_wp2_with fail
  go_loopw [5] (fun iv wr => ∃ j : Nat, j ≤ L.length ∧ iv = .int .i64 (j : Int) ∧ Hid (∀ q (h : q < L.length), q < j → L[q] ≠ n) ∧ wr = w) (fun iv _ => L.length - (intOf iv).toNat)
  case atStart => exact ⟨0, Nat.zero_le _, rfl, Lib.hid (fun q _ hq => absurd hq (by omega)), rfl⟩
  case round =>
    obtain ⟨j, hj, rfl, hall, rfl⟩ := hrel
    by_cases hlt : j < L.length
    · obtain ⟨g, off, rfl, hg, d0⟩ := num_at HR.out j hlt
      obtain ⟨x, hx⟩ : ∃ x, x = L[j] := ⟨_, rfl⟩
      rw [← hx] at d0
      have HX := Lib.hid hx
      clear hx
      have hjl : (j : Int) < (L.length : Int) := by omega
      have hj0 : (0 : Int) ≤ (j : Int) := by omega
      have hw1 : IntKind.i64.wrap ((j : Int) + 1) = (j : Int) + 1 := by simp only [IntKind.wrap_i64]; omega
      by_cases hn : x = n
      · have HA : Hid (F = true) := Lib.hid (by rw [HF.out]; exact decide_eq_true (by rw [← hn, HX.out]; exact List.getElem_mem hlt))
        go_wp2_with fail
        go_ret
        exact ⟨by rw [HA.out]; rfl, rfl⟩
      · go_wp2_with fail
        go_roundw
        case rel =>
          refine ⟨j + 1, by omega, by go_num, Lib.hid (fun q hq hqj => ?_), trivial⟩
          by_cases e : q = j
          · subst e; rw [← HX.out]; exact hn
          · exact hall.out q hq (by omega)
        case measure => simp [intOf]; omega
    · obtain rfl : j = L.length := by omega
      have HA : Hid (F = false) := Lib.hid (by
        rw [HF.out]
        refine decide_eq_false (fun h => ?_)
        obtain ⟨q, hq, e⟩ := List.getElem_of_mem h
        exact hall.out q hq hq e)
      go_wp2_with fail
      go_ret
      exact ⟨by rw [HA.out]; rfl, rfl⟩
set_option maxRecDepth 100000 in
set_option maxHeartbeats 1000000 in
/-- Same, for equal lists. -/
theorem same_true (A B : Option Addr) (c d : Nat) (L : List Int) (hl : L.length ≤ 900000) (w : World) (hR : Rs w w.heap.size A (nC L)) (hQ : Rs w w.heap.size B (nC L)) :
    Calls Try.prog 40 #[.slice A L.length c, .slice B L.length d] w fun e w' => e = .returned (.bool true) ∧ Below w.heap.size w w' := by
  have HR := Lib.hid hR
  have HQ := Lib.hid hQ
  clear hR hQ
  go_enter Try.func40, Try.ntmps40
  go_wp2_with fail
  go_loopw [5] (fun iv wr => ∃ j : Nat, j ≤ L.length ∧ iv = .int .i64 (j : Int) ∧ Hid (Below w.heap.size w wr)) (fun iv _ => L.length - (intOf iv).toNat)
  case atStart => exact ⟨0, Nat.zero_le _, rfl, Lib.hid (Below.refl _ _)⟩
  case round =>
    obtain ⟨j, hj, rfl, HB⟩ := hrel
    by_cases hlt : j < L.length
    · obtain ⟨g, off, rfl, hg, d0⟩ := num_at (HR.out.below HB.out) j hlt
      obtain ⟨g', off', rfl, hg', d0'⟩ := num_at (HQ.out.below HB.out) j hlt
      obtain ⟨x, hx⟩ : ∃ x, x = L[j] := ⟨_, rfl⟩
      rw [← hx] at d0 d0'
      clear hx
      have hjl : (j : Int) < (L.length : Int) := by omega
      have hj0 : (0 : Int) ≤ (j : Int) := by omega
      have hw1 : IntKind.i64.wrap ((j : Int) + 1) = (j : Int) + 1 := by simp only [IntKind.wrap_i64]; omega
      have hbr : g < wr.heap.size := by have := HB.out.size; omega
      have hbr' : g' < wr.heap.size := by have := HB.out.size; omega
      go_wp2_with fail
      go_region
      all_goals
        go_wp2_with fail
        go_roundw
        case rel => exact ⟨j + 1, by omega, by go_num, Lib.hid (Below.drew HB.out)⟩
        case measure => simp [intOf]; omega
    · obtain rfl : j = L.length := by omega
      go_wp2_with fail
      go_ret
      exact ⟨rfl, HB.out⟩
/-- How many are less. -/
def rkN (n : Int) (L : List Int) : Nat := L.countP (fun x => decide (x < n))
set_option maxRecDepth 100000 in
theorem ref_rank (A : Option Addr) (c : Nat) (L : List Int) (hl : L.length ≤ 900000) (n : Int) (w : World) (hR : Rs w w.heap.size A (nC L)) :
    Calls Try.prog 31 #[.slice A L.length c, .int .i64 n] w fun e w' => e = .returned (.int .i64 (rkN n L : Nat)) ∧ w' = w := by
  have HR := Lib.hid hR
  clear hR
  have HS : Hid (∀ j (h : j < L.length), rkN n (L.take (j + 1)) = rkN n (L.take j) + if L[j] < n then 1 else 0) := Lib.hid (fun j h => by
    unfold rkN
    rw [take_snoc L j h, List.countP_append]
    congr 1
    by_cases hx : L[j] < n <;> simp [hx])
  have HL : Hid (∀ j, rkN n (L.take j) ≤ j) := Lib.hid (fun j => by
    unfold rkN
    exact Nat.le_trans List.countP_le_length (by rw [List.length_take]; omega))
  have HE : Hid (rkN n (L.take L.length) = rkN n L) := Lib.hid (by rw [List.take_length])
  go_enter Try.func31, Try.ntmps31
  go_wp2_with fail
  go_loopw [5, 6] (fun cv iv wr => ∃ j : Nat, j ≤ L.length ∧ cv = .int .i64 (rkN n (L.take j) : Nat) ∧ iv = .int .i64 (j : Int) ∧ wr = w) (fun _ iv _ => L.length - (intOf iv).toNat)
  case atStart => exact ⟨0, Nat.zero_le _, rfl, rfl, rfl⟩
  case round =>
    obtain ⟨j, hj, rfl, rfl, rfl⟩ := hrel
    have hle := HL.out j
    by_cases hlt : j < L.length
    · obtain ⟨g, off, rfl, hg, d0⟩ := num_at HR.out j hlt
      have HS1 := Lib.hid (HS.out j hlt)
      obtain ⟨x, hx⟩ : ∃ x, x = L[j] := ⟨_, rfl⟩
      rw [← hx] at d0 HS1
      clear hx
      obtain ⟨k, hk⟩ : ∃ k, k = rkN n (L.take j) := ⟨_, rfl⟩
      rw [← hk] at hle HS1 ⊢
      clear hk
      have hjl : (j : Int) < (L.length : Int) := by omega
      have hj0 : (0 : Int) ≤ (j : Int) := by omega
      have hw1 : IntKind.i64.wrap ((j : Int) + 1) = (j : Int) + 1 := by simp only [IntKind.wrap_i64]; omega
      have hw2 : IntKind.i64.wrap ((k : Int) + 1) = (k : Int) + 1 := by simp only [IntKind.wrap_i64]; omega
      by_cases hn : x < n
      · rw [if_pos hn] at HS1
        go_wp2_with fail
        go_roundw
        case rel => exact ⟨j + 1, by omega, by rw [HS1.out]; go_num, by go_num, trivial⟩
        case measure => simp [intOf]; omega
      · rw [if_neg hn] at HS1
        go_wp2_with fail
        go_roundw
        case rel => exact ⟨j + 1, by omega, by rw [HS1.out]; rfl, by go_num, trivial⟩
        case measure => simp [intOf]; omega
    · obtain rfl : j = L.length := by omega
      rw [HE.out] at hle ⊢
      go_wp2_with fail
      go_ret
      exact ⟨rfl, rfl⟩
set_option maxRecDepth 100000 in
theorem valid_any (A : Option Addr) (c : Nat) (L : List Int) (hl : L.length ≤ 900000) (w : World) (hR : Rs w w.heap.size A (nC L)) :
    Calls Try.prog 15 #[.slice A L.length c] w fun e w' => e = .returned (.bool (L.all isR)) ∧ w' = w := by
  have HR := Lib.hid hR
  obtain ⟨F, hF⟩ : ∃ F, F = L.all isR := ⟨_, rfl⟩
  rw [← hF]
  have HF := Lib.hid hF
  clear hR hF
  go_enter Try.func15, Try.ntmps15
  go_wp2_with fail
  go_loopw [3] (fun iv wr => ∃ j : Nat, j ≤ L.length ∧ iv = .int .i64 (j : Int) ∧ Hid (∀ q (h : q < L.length), q < j → isR L[q] = true) ∧ wr = w) (fun iv _ => L.length - (intOf iv).toNat)
  case atStart => exact ⟨0, Nat.zero_le _, rfl, Lib.hid (fun q _ hq => absurd hq (by omega)), rfl⟩
  case round =>
    obtain ⟨j, hj, rfl, hall, rfl⟩ := hrel
    by_cases hlt : j < L.length
    · obtain ⟨g, off, rfl, hg, d0⟩ := num_at HR.out j hlt
      obtain ⟨x, hx⟩ : ∃ x, x = L[j] := ⟨_, rfl⟩
      rw [← hx] at d0
      have HX := Lib.hid hx
      clear hx
      have hjl : (j : Int) < (L.length : Int) := by omega
      have hj0 : (0 : Int) ≤ (j : Int) := by omega
      have hw1 : IntKind.i64.wrap ((j : Int) + 1) = (j : Int) + 1 := by simp only [IntKind.wrap_i64]; omega
      have HN : Hid (isR x = false → F = false) := Lib.hid (fun h => by
        rw [HF.out]
        exact List.all_eq_false.2 ⟨L[j], List.getElem_mem hlt, by rw [← HX.out, h]; decide⟩)
      by_cases h1 : x < 0
      · have HA : Hid (F = false) := Lib.hid (HN.out (by unfold isR; simp; omega))
        go_wp2_with fail
        go_ret
        exact ⟨by rw [HA.out]; rfl, rfl⟩
      · by_cases h2 : 1048576 ≤ x
        · have HA : Hid (F = false) := Lib.hid (HN.out (by unfold isR; simp; omega))
          go_wp2_with fail
          go_ret
          exact ⟨by rw [HA.out]; rfl, rfl⟩
        · have HI : Hid (isR x = true) := Lib.hid ((isR_iff x).2 (by omega))
          go_wp2_with fail
          go_roundw
          case rel =>
            refine ⟨j + 1, by omega, by go_num, Lib.hid (fun q hq hqj => ?_), trivial⟩
            by_cases e : q = j
            · subst e; rw [← HX.out]; exact HI.out
            · exact hall.out q hq (by omega)
          case measure => simp [intOf]; omega
    · obtain rfl : j = L.length := by omega
      have HA : Hid (F = true) := Lib.hid (by
        rw [HF.out]
        refine List.all_eq_true.2 (fun x hx => ?_)
        obtain ⟨q, hq, e⟩ := List.getElem_of_mem hx
        rw [← e]
        exact hall.out q hq hq)
      go_wp2_with fail
      go_ret
      exact ⟨by rw [HA.out]; rfl, rfl⟩
theorem fil_step (f : Int → Bool) (L : List Int) (j : Nat) (h : j < L.length) : (L.take (j + 1)).filter f = (L.take j).filter f ++ if f L[j] = true then [L[j]] else [] := by
  rw [take_snoc L j h, List.filter_append]
  congr 1
  by_cases hx : f L[j] = true <;> simp [hx]
theorem fil_len (f : Int → Bool) (L : List Int) (j : Nat) : ((L.take j).filter f).length ≤ j :=
  Nat.le_trans (List.length_filter_le _ _) (by rw [List.length_take]; omega)

set_option maxRecDepth 100000 in
set_option maxHeartbeats 1000000 in
theorem ref_and (A B : Option Addr) (c d : Nat) (L M : List Int) (hl : L.length ≤ 900000) (hm : M.length ≤ 900000) (w : World) (hR : Rs w w.heap.size A (nC L)) (hQ : Rs w w.heap.size B (nC M)) :
    Calls Try.prog 34 #[.slice A L.length c, .slice B M.length d] w fun e w' => (∃ v, e = .returned v ∧ w'.ownsRow w.heap.size 3 1 v (L.filter (fun x => decide (x ∈ M))).length (nC (L.filter (fun x => decide (x ∈ M))))) ∧ Below w.heap.size w w' := by
  have HR := Lib.hid hR
  have HQ := Lib.hid hQ
  obtain ⟨f, hf⟩ : ∃ f : Int → Bool, f = fun x => decide (x ∈ M) := ⟨_, rfl⟩
  rw [← hf]
  have HF : Hid (∀ x, f x = decide (x ∈ M)) := Lib.hid (fun x => by rw [hf])
  have HS := Lib.hid (fil_step f L)
  have HL := Lib.hid (fil_len f L)
  have HE : Hid ((L.take L.length).filter f = L.filter f) := Lib.hid (by rw [List.take_length])
  obtain ⟨i0, hi0, hz0, hz1, hz2⟩ := info_parts2 info_num
  have Hi0 := Lib.hid hi0
  have Hz0 := Lib.hid hz0
  have Hz1 := Lib.hid hz1
  have Hz2 := Lib.hid hz2
  clear hR hQ hf hi0 hz0 hz1 hz2
  go_enter Try.func34, Try.ntmps34
  go_wp2_with fail
  go_loopw [5, 6] (fun u iv wr => ∃ j : Nat, j ≤ L.length ∧ iv = .int .i64 (j : Int) ∧ Hid (wr.ownsRow w.heap.size 3 1 u ((L.take j).filter f).length (nC ((L.take j).filter f))) ∧ Hid (Below w.heap.size w wr)) (fun _ iv _ => L.length - (intOf iv).toNat)
  case atStart => exact ⟨0, Nat.zero_le _, rfl, Lib.hid ⟨rfl, Or.inl ⟨rfl, rfl⟩⟩, Lib.hid (Below.refl _ _)⟩
  case round =>
    obtain ⟨j, hj, rfl, HO, HB⟩ := hrel
    have hle := HL.out j
    by_cases hlt : j < L.length
    · obtain ⟨g, off, rfl, hg, d0⟩ := num_at (HR.out.below HB.out) j hlt
      have HS1 := Lib.hid (HS.out j hlt)
      obtain ⟨x, hx⟩ : ∃ x, x = L[j] := ⟨_, rfl⟩
      rw [← hx] at d0 HS1
      clear hx
      obtain ⟨J, hJ⟩ : ∃ J, J = (L.take j).filter f := ⟨_, rfl⟩
      rw [← hJ] at hle HS1 HO
      clear hJ
      have hjl : (j : Int) < (L.length : Int) := by omega
      have hj0 : (0 : Int) ≤ (j : Int) := by omega
      have hw1 : IntKind.i64.wrap ((j : Int) + 1) = (j : Int) + 1 := by simp only [IntKind.wrap_i64]; omega
      have hbr : g < wr.heap.size := by have := HB.out.size; omega
      have HC := Lib.hid (has_any B d M hm x wr ((HQ.out.below HB.out).more HB.out.size))
      have HFx := Lib.hid (HF.out x)
      by_cases hmm : x ∈ M
      · rw [decide_eq_true hmm] at HC HFx

        have HS2 : Hid ((L.take (j + 1)).filter f = J ++ [x]) := Lib.hid (by rw [HS1.out, HFx.out]; simp)
        have HOa := Lib.hid (HO.out.alloc (.cells #[.int .i64 x] 3))
        have HBa := Lib.hid (HB.out.alloc HB.out.size (.cells #[.int .i64 x] 3))
        have HKa := Lib.hid (Deep.blk_alloc_new wr (.cells #[.int .i64 x] 3))
        go_wp2_with fail
        refine HC.out.mono ?_
        rintro e w1 ⟨rfl, rfl⟩
        go_wp2_with (at_builtin; refine wpList_append_agg rfl (.tmp 19) (.tmp 24) 22 rfl w.heap.size 3 i0 _ 1 8 Try.underlying22 Hi0.out Hz0.out Hz1.out Hz2.out rfl (by decide) _ J.length _ rfl HOa.out w1.heap.size 1 [.int .i64 x] 3 rfl rfl HKa.out (by simp [Value.oneCell']) (by omega) (by omega) HBa.out.size ?_; intro v4 w4 hown4 hg4; have HO4 := Lib.hid hown4; have HB4 := Lib.hid (below_grownk (B := w.heap.size) (a := w) HBa.out HOa.out hg4 (Nat.le_refl _) (Nat.le_refl _)); clear hown4 hg4)
        go_roundw
        case rel => exact ⟨j + 1, by omega, by go_num, by rw [HS2.out]; exact Lib.hid (by have h := HO4.out; unfold nC at h ⊢; rw [List.map_append, List.length_append]; exact h), HB4⟩
        case measure => simp [intOf] <;> omega
      · rw [decide_eq_false hmm] at HC HFx
        have HS2 : Hid ((L.take (j + 1)).filter f = J) := Lib.hid (by rw [HS1.out, HFx.out]; simp)
        go_wp2_with fail
        refine HC.out.mono ?_
        rintro e w1 ⟨rfl, rfl⟩
        go_wp2_with fail
        go_roundw
        case rel => exact ⟨j + 1, by omega, by go_num, by rw [HS2.out]; exact HO, HB⟩
        case measure => simp [intOf] <;> omega
    · obtain rfl : j = L.length := by omega
      rw [HE.out] at HO
      go_wp2_with fail
      go_ret
      exact ⟨⟨_, rfl, HO.out⟩, HB.out⟩
set_option maxRecDepth 100000 in
set_option maxHeartbeats 1000000 in
theorem ref_but (A B : Option Addr) (c d : Nat) (L M : List Int) (hl : L.length ≤ 900000) (hm : M.length ≤ 900000) (w : World) (hR : Rs w w.heap.size A (nC L)) (hQ : Rs w w.heap.size B (nC M)) :
    Calls Try.prog 38 #[.slice A L.length c, .slice B M.length d] w fun e w' => (∃ v, e = .returned v ∧ w'.ownsRow w.heap.size 3 1 v (L.filter (fun x => !decide (x ∈ M))).length (nC (L.filter (fun x => !decide (x ∈ M))))) ∧ Below w.heap.size w w' := by
  have HR := Lib.hid hR
  have HQ := Lib.hid hQ
  obtain ⟨f, hf⟩ : ∃ f : Int → Bool, f = fun x => !decide (x ∈ M) := ⟨_, rfl⟩
  rw [← hf]
  have HF : Hid (∀ x, f x = !decide (x ∈ M)) := Lib.hid (fun x => by rw [hf])
  have HS := Lib.hid (fil_step f L)
  have HL := Lib.hid (fil_len f L)
  have HE : Hid ((L.take L.length).filter f = L.filter f) := Lib.hid (by rw [List.take_length])
  obtain ⟨i0, hi0, hz0, hz1, hz2⟩ := info_parts2 info_num
  have Hi0 := Lib.hid hi0
  have Hz0 := Lib.hid hz0
  have Hz1 := Lib.hid hz1
  have Hz2 := Lib.hid hz2
  clear hR hQ hf hi0 hz0 hz1 hz2
  go_enter Try.func38, Try.ntmps38
  go_wp2_with fail
  go_loopw [5, 6] (fun u iv wr => ∃ j : Nat, j ≤ L.length ∧ iv = .int .i64 (j : Int) ∧ Hid (wr.ownsRow w.heap.size 3 1 u ((L.take j).filter f).length (nC ((L.take j).filter f))) ∧ Hid (Below w.heap.size w wr)) (fun _ iv _ => L.length - (intOf iv).toNat)
  case atStart => exact ⟨0, Nat.zero_le _, rfl, Lib.hid ⟨rfl, Or.inl ⟨rfl, rfl⟩⟩, Lib.hid (Below.refl _ _)⟩
  case round =>
    obtain ⟨j, hj, rfl, HO, HB⟩ := hrel
    have hle := HL.out j
    by_cases hlt : j < L.length
    · obtain ⟨g, off, rfl, hg, d0⟩ := num_at (HR.out.below HB.out) j hlt
      have HS1 := Lib.hid (HS.out j hlt)
      obtain ⟨x, hx⟩ : ∃ x, x = L[j] := ⟨_, rfl⟩
      rw [← hx] at d0 HS1
      clear hx
      obtain ⟨J, hJ⟩ : ∃ J, J = (L.take j).filter f := ⟨_, rfl⟩
      rw [← hJ] at hle HS1 HO
      clear hJ
      have hjl : (j : Int) < (L.length : Int) := by omega
      have hj0 : (0 : Int) ≤ (j : Int) := by omega
      have hw1 : IntKind.i64.wrap ((j : Int) + 1) = (j : Int) + 1 := by simp only [IntKind.wrap_i64]; omega
      have hbr : g < wr.heap.size := by have := HB.out.size; omega
      have HC := Lib.hid (has_any B d M hm x wr ((HQ.out.below HB.out).more HB.out.size))
      have HFx := Lib.hid (HF.out x)
      by_cases hmm : x ∈ M
      · rw [decide_eq_true hmm] at HC HFx

        have HS2 : Hid ((L.take (j + 1)).filter f = J) := Lib.hid (by rw [HS1.out, HFx.out]; simp)
        go_wp2_with fail
        refine HC.out.mono ?_
        rintro e w1 ⟨rfl, rfl⟩
        go_wp2_with fail
        go_roundw
        case rel => exact ⟨j + 1, by omega, by go_num, by rw [HS2.out]; exact HO, HB⟩
        case measure => simp [intOf] <;> omega
      · rw [decide_eq_false hmm] at HC HFx
        have HS2 : Hid ((L.take (j + 1)).filter f = J ++ [x]) := Lib.hid (by rw [HS1.out, HFx.out]; simp)
        have HOa := Lib.hid (HO.out.alloc (.cells #[.int .i64 x] 3))
        have HBa := Lib.hid (HB.out.alloc HB.out.size (.cells #[.int .i64 x] 3))
        have HKa := Lib.hid (Deep.blk_alloc_new wr (.cells #[.int .i64 x] 3))
        go_wp2_with fail
        refine HC.out.mono ?_
        rintro e w1 ⟨rfl, rfl⟩
        go_wp2_with (at_builtin; refine wpList_append_agg rfl (.tmp 20) (.tmp 25) 22 rfl w.heap.size 3 i0 _ 1 8 Try.underlying22 Hi0.out Hz0.out Hz1.out Hz2.out rfl (by decide) _ J.length _ rfl HOa.out w1.heap.size 1 [.int .i64 x] 3 rfl rfl HKa.out (by simp [Value.oneCell']) (by omega) (by omega) HBa.out.size ?_; intro v4 w4 hown4 hg4; have HO4 := Lib.hid hown4; have HB4 := Lib.hid (below_grownk (B := w.heap.size) (a := w) HBa.out HOa.out hg4 (Nat.le_refl _) (Nat.le_refl _)); clear hown4 hg4)
        go_roundw
        case rel => exact ⟨j + 1, by omega, by go_num, by rw [HS2.out]; exact Lib.hid (by have h := HO4.out; unfold nC at h ⊢; rw [List.map_append, List.length_append]; exact h), HB4⟩
        case measure => simp [intOf] <;> omega
    · obtain rfl : j = L.length := by omega
      rw [HE.out] at HO
      go_wp2_with fail
      go_ret
      exact ⟨⟨_, rfl, HO.out⟩, HB.out⟩
end Go.Proofs.Ytacgomhegjilgaa
