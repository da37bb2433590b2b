/- The reference's Sorted (written by wip/bin/gen_gi.py). -/
import Derived.Test.YtacgomhegjilgaaGs
import Derived.Test.YtacgomhegjilgaaGf
namespace Go.Proofs.Ytacgomhegjilgaa
open Go.ChangeShapes Go.WideShapes Go.ChangeAt Go.RowKit Ts

theorem front_nums {W0 W : World} {g : Nat} {S : List Int} (h : Rs W0 W0.heap.size (some ⟨g, 0, none⟩) (nC S)) (hB : Below W0.heap.size W0 W) (k : Nat) (hk : k ≤ S.length) : ∀ ad, some (⟨g, 0, none⟩ : Addr) = some ad → ∀ j u, (nC (S.take k))[j]? = some u → W.cell? (ad.add j) = some u := by
  intro ad e j u hu
  refine rs_news h hB ad e j u ?_
  obtain ⟨hj, _⟩ := List.getElem?_eq_some_iff.1 hu
  rw [nC_len, List.length_take] at hj
  rw [← hu]
  unfold nC
  rw [List.getElem?_map, List.getElem?_map, List.getElem?_take_of_lt (by omega)]
theorem back_nums {W0 W : World} {g : Nat} {S : List Int} (h : Rs W0 W0.heap.size (some ⟨g, 0, none⟩) (nC S)) (hB : Below W0.heap.size W0 W) (k : Nat) (_hk : k ≤ S.length) : ∀ ad, some (⟨g, k, none⟩ : Addr) = some ad → ∀ j u, (nC (S.drop k))[j]? = some u → W.cell? (ad.add j) = some u := by
  intro ad e j u hu
  cases e
  have h2 := rs_news h hB ⟨g, 0, none⟩ rfl (k + j) u (by
    rw [← hu]; unfold nC
    rw [List.getElem?_map, List.getElem?_map, List.getElem?_drop])
  rw [add_flat] at h2 ⊢
  rw [Nat.zero_add] at h2
  exact h2
set_option maxRecDepth 100000 in
set_option maxHeartbeats 16000000 in
theorem ref_sorted (A : Option Addr) (c : Nat) (L : List Int) (hl : L.length ≤ 90000) (w : World) (hR : Rs w w.heap.size A (nC L)) :
    Calls Try.prog 17 #[.slice A L.length c] w fun e w' => (∃ r, e = .returned r ∧ w'.ownsRow w.heap.size 3 1 r (bds L).length (nC (bds L))) ∧ Below w.heap.size w w' := by
  obtain ⟨i1, hj0, hj1, hj2, hj3⟩ := info_parts2 info_num
  have Hj0 := Lib.hid hj0
  have Hj1 := Lib.hid hj1
  have Hj2 := Lib.hid hj2
  have Hj3 := Lib.hid hj3
  have HR := Lib.hid hR
  have HAll := Lib.hid (bdk_all L)
  clear hj0 hj1 hj2 hj3 hR
  go_enter Try.func17, Try.ntmps17
  go_wp2_with fail
  go_loopw [3, 4] (fun u iv wr => ∃ j : Nat, j ≤ L.length ∧ iv = .int .i64 (j : Int) ∧ Hid (wr.ownsRow w.heap.size 3 1 u (bdk L j).length (nC (bdk L j))) ∧ Hid (u = .slice none 0 0 ∨ 0 < (bdk L j).length) ∧ Hid (Below w.heap.size w wr)) (fun _ iv _ => L.length - (intOf iv).toNat)
  case atStart => exact ⟨0, Nat.zero_le _, rfl, Lib.hid ⟨rfl, Or.inl ⟨rfl, rfl⟩⟩, Lib.hid (.inl rfl), Lib.hid (Below.refl _ _)⟩
  case round =>
    obtain ⟨j, hj, rfl, HO, HN, HB⟩ := hrel
    by_cases hlt : j < L.length
    · obtain ⟨lb, lo, rfl, hb4, h0⟩ := num_at (HR.out.below HB.out) j hlt
      have hs := bdk_succ L j hlt
      have hS := bdk_inc L j
      have hlen := bdk_len L j
      obtain ⟨n, hn⟩ : ∃ n, n = L[j] := ⟨_, rfl⟩
      rw [← hn] at h0 hs
      clear hn
      obtain ⟨S, hSe⟩ : ∃ S, S = bdk L j := ⟨_, rfl⟩
      rw [← hSe] at HO HN hs hS hlen
      have E := Lib.hid hs
      obtain ⟨A', c', rfl, hnc, hRs, hA'⟩ := rs_ownn HO.out
      have HRs := Lib.hid hRs
      have HA' := Lib.hid hA'
      have HS := Lib.hid hS
      have hjI : (j : Int) < (L.length : Int) := by omega
      have hj0 : (0 : Int) ≤ (j : Int) := by omega
      have hwn : IntKind.i64.wrap ((j : Int) + 1) = (j : Int) + 1 := by simp only [IntKind.wrap_i64]; omega
      clear hSe hRs hA' hS hs
      go_wp2_with fail
      rename World => W0
      have hlb : lb < W0.heap.size := by have := HB.out.size; omega
      go_loopw [5] (fun kv wk => ∃ k : Nat, k ≤ S.length ∧ kv = .int .i64 (k : Int) ∧ Hid (∀ i (h : i < S.length), k ≤ i → n < S[i]) ∧ Hid (Below W0.heap.size W0 wk)) (fun kv _ => (intOf kv).toNat)
      case atStart => exact ⟨S.length, Nat.le_refl _, rfl, Lib.hid (fun i h hi => absurd h (by omega)), Lib.hid (Below.refl _ _)⟩
      case round =>
        obtain ⟨k, hk, rfl, Hk, HBk⟩ := hrel
        rcases Nat.eq_zero_or_pos k with hk0 | hkp
        · subst hk0
          have HP := Lib.hid (insN_new n S 0 (by omega) (fun i h hi => absurd hi (by omega)) (fun h => Hk.out 0 h (by omega)))

          go_wp2_with fail
          go_quiet (fail)
          (refine (by assumption : ∀ _ _, _ → _) _ _ ?_)
          have hb5q := below_drewN HBk.out nq
          generalize World.drewN wr nq = W5 at hb5q ⊢
          have HB5 := Lib.hid hb5q
          clear hb5q

          go_wp2_with fail
          go_quiet (fail)
          (refine (by assumption : ∀ _ _, _ → _) _ _ ?_)
          have hb6q := below_drewN HB5.out nq
          generalize World.drewN W5 nq = W6 at hb6q ⊢
          have HB6 := Lib.hid hb6q
          clear hb6q

          have c0 := (HB6.out.cell (p := ⟨lb, lo + j, none⟩) hlb).trans h0
          rcases HN.out with hnil | hpos
          · injection hnil with z1 z2 z3
            obtain rfl : S = [] := List.eq_nil_of_length_eq_zero z2
            subst z1 z3
            go_wp2_with fail
            have hG : W0.heap.size ≤ W6.heap.size := HB6.out.size
            have hlW : lb < W6.heap.size := by omega
            go_region_law ((first
              | (refine step_append_sized rfl (.tmp 44) (.tmp 47) 22 rfl W0.heap.size 3 i1 _ 1 8 Try.underlying22 Hj0.out Hj1.out Hj2.out Hj3.out rfl (by decide) (.slice (some ⟨W6.heap.size, 0, none⟩) 0 0) 0 [] (by simp [Act.eval]) (own_emptyn (k := 1) (Deep.blk_alloc_new W6 (.cells #[] 3)) hG) none 0 0 (by simp [Act.eval]) [] (by rfl) (fun _ => ⟨rfl, rfl⟩) (fun ad e j u hu => by simp at hu) (by first | exact nC_one _ | simp) (by omega) (by omega) (by have := HB6.out.size; simp; omega) ?_; intro v1 w2 hown1 hg1; have HBw := Lib.hid (below_grownk (B := W0.heap.size) (a := W0) ((Below.alloc HB6.out HB6.out.size _).drew) (own_emptyn (k := 1) (Deep.blk_alloc_new W6 (.cells #[] 3)) hG) hg1 (Nat.le_refl _) (Nat.le_refl _)); have HO1 := Lib.hid hown1; have c0w := (HBw.out.cell (p := ⟨lb, lo + j, none⟩) hlb).trans h0; clear hown1 hg1)
              | (refine step_append_sized rfl (.tmp 44) (.tmp 47) 22 rfl W0.heap.size 3 i1 _ 1 8 Try.underlying22 Hj0.out Hj1.out Hj2.out Hj3.out rfl (by decide) (.slice (some ⟨W6.heap.size, 0, none⟩) 0 0) 0 [] (by simp [Act.eval]) (own_emptyn (k := 1) (blk_under W6 (.cells #[] 3) (.cells #[.int .i64 n] 3)) hG) none 0 0 (by simp [Act.eval]) [] (by rfl) (fun _ => ⟨rfl, rfl⟩) (fun ad e j u hu => by simp at hu) (by first | exact nC_one _ | simp) (by omega) (by omega) (by have := HB6.out.size; simp; omega) ?_; intro v1 w2 hown1 hg1; have HBw := Lib.hid (below_grownk (B := W0.heap.size) (a := W0) ((Below.alloc (Below.alloc HB6.out HB6.out.size _) (by have := HB6.out.size; simp; omega) _).drew) (own_emptyn (k := 1) (blk_under W6 (.cells #[] 3) (.cells #[.int .i64 n] 3)) hG) hg1 (Nat.le_refl _) (Nat.le_refl _)); have HO1 := Lib.hid hown1; have HX2 : Hid (w2.heap[W6.heap.size + 1]? = some (.cells #[.int .i64 n] 3)) := Lib.hid ((hg1.block (W6.heap.size + 1) (by simp) (by simp [Value.ownBlock])).trans (blk_over W6 (.cells #[] 3) (.cells #[.int .i64 n] 3))); have c0w := (HBw.out.cell (p := ⟨lb, lo + j, none⟩) hlb).trans h0; clear hown1 hg1)
              | (refine step_append_sized rfl (.tmp 44) (.tmp 47) 22 rfl W0.heap.size 3 i1 _ 1 8 Try.underlying22 Hj0.out Hj1.out Hj2.out Hj3.out rfl (by decide) (.slice (some ⟨(W6.heap.size + 1), 0, none⟩) 0 0) 0 [] (by simp [Act.eval]) (own_emptyn (k := 1) (blk_over W6 (.cells #[.int .i64 n] 3) (.cells #[] 3)) (by omega)) none 0 0 (by simp [Act.eval]) [] (by rfl) (fun _ => ⟨rfl, rfl⟩) (fun ad e j u hu => by simp at hu) (by first | exact nC_one _ | simp) (by omega) (by omega) (by have := HB6.out.size; simp; omega) ?_; intro v1 w2 hown1 hg1; have HBw := Lib.hid (below_grownk (B := W0.heap.size) (a := W0) ((Below.alloc (Below.alloc HB6.out HB6.out.size _) (by have := HB6.out.size; simp; omega) _).drew) (own_emptyn (k := 1) (blk_over W6 (.cells #[.int .i64 n] 3) (.cells #[] 3)) (by omega)) hg1 (Nat.le_refl _) (Nat.le_refl _)); have HO1 := Lib.hid hown1; have HX2 : Hid (w2.heap[W6.heap.size]? = some (.cells #[.int .i64 n] 3)) := Lib.hid ((hg1.block W6.heap.size (by simp; omega) (by simp [Value.ownBlock])).trans (blk_under W6 (.cells #[.int .i64 n] 3) (.cells #[] 3))); have c0w := (HBw.out.cell (p := ⟨lb, lo + j, none⟩) hlb).trans h0; clear hown1 hg1)
              | (refine step_append_sized rfl (.tmp 48) (.tmp 53) 22 rfl W0.heap.size 3 i1 _ 1 8 Try.underlying22 Hj0.out Hj1.out Hj2.out Hj3.out rfl (by decide) v1 (0 + 0) ([] ++ []) (by simp [Act.eval]) (HO1.out.alloc _) (some ⟨w2.heap.size, 0, none⟩) 1 1 (by simp [Act.eval]) [.int .i64 n] rfl (fun h => by cases h) (cells_one (Deep.blk_alloc_new w2 (.cells #[.int .i64 n] 3))) (by simp [Value.oneCell']) (by omega) (by omega) (by have := HBw.out.size; simp; omega) ?_; intro v2 w3 hown2 hg2; have HBv := Lib.hid (below_grownk (B := W0.heap.size) (a := W0) (Below.alloc HBw.out HBw.out.size _) (HO1.out.alloc _) hg2 (Nat.le_refl _) (Nat.le_refl _)); have HO2 := Lib.hid hown2; clear hown2 hg2)
              | (refine step_append_sized rfl (.tmp 48) (.tmp 53) 22 rfl W0.heap.size 3 i1 _ 1 8 Try.underlying22 Hj0.out Hj1.out Hj2.out Hj3.out rfl (by decide) v1 (0 + 0) ([] ++ []) (by simp [Act.eval]) HO1.out (some ⟨(W6.heap.size + 1), 0, none⟩) 1 1 (by simp [Act.eval]) [.int .i64 n] rfl (fun h => by cases h) (cells_one HX2.out) (by simp [Value.oneCell']) (by omega) (by omega) (by have := HBw.out.size; simp; omega) ?_; intro v2 w3 hown2 hg2; have HBv := Lib.hid (below_grownk (B := W0.heap.size) (a := W0) HBw.out HO1.out hg2 (Nat.le_refl _) (Nat.le_refl _)); have HO2 := Lib.hid hown2; clear hown2 hg2)
              | (refine step_append_sized rfl (.tmp 48) (.tmp 53) 22 rfl W0.heap.size 3 i1 _ 1 8 Try.underlying22 Hj0.out Hj1.out Hj2.out Hj3.out rfl (by decide) v1 (0 + 0) ([] ++ []) (by simp [Act.eval]) HO1.out (some ⟨W6.heap.size, 0, none⟩) 1 1 (by simp [Act.eval]) [.int .i64 n] rfl (fun h => by cases h) (cells_one HX2.out) (by simp [Value.oneCell']) (by omega) (by omega) (by have := HBw.out.size; simp; omega) ?_; intro v2 w3 hown2 hg2; have HBv := Lib.hid (below_grownk (B := W0.heap.size) (a := W0) HBw.out HO1.out hg2 (Nat.le_refl _) (Nat.le_refl _)); have HO2 := Lib.hid hown2; clear hown2 hg2)
              | (refine step_append_sized rfl (.tmp 54) (.tmp 57) 22 rfl W0.heap.size 3 i1 _ 1 8 Try.underlying22 Hj0.out Hj1.out Hj2.out Hj3.out rfl (by decide) v2 (0 + 0 + 1) ([] ++ [] ++ [.int .i64 n]) (by simp [Act.eval]) HO2.out none 0 0 (by simp [Act.eval]) [] (by rfl) (fun _ => ⟨rfl, rfl⟩) (fun ad e j u hu => by simp at hu) (by first | exact nC_one _ | simp) (by omega) (by omega) HBv.out.size ?_; intro v3 w4 hown3 hg3; have HBu := Lib.hid (below_grownk (B := W0.heap.size) (a := W0) HBv.out HO2.out hg3 (Nat.le_refl _) (Nat.le_refl _)); have HO3 := Lib.hid hown3; clear hown3 hg3)))
            all_goals
              go_wp2_with fail
              go_roundw
              case rel =>
                refine ⟨j + 1, by omega, by go_num, Lib.hid ?_, Lib.hid (.inr ?_), Lib.hid (HB.out.trans (HBu.out.mono HB.out.size))⟩
                · have h := own_base HO3.out HB.out.size
                  have e1 : (bdk L (j + 1)).length = 0 + 0 + 1 + 0 := by rw [E.out, HP.out]; simp
                  have e2 : nC (bdk L (j + 1)) = [] ++ [] ++ [.int .i64 n] ++ [] := by rw [E.out, HP.out]; simp [nC]
                  rw [e1, e2]; exact h
                · rw [E.out, HP.out, List.length_append, List.length_append]; simp only [List.length_cons, List.length_nil]; omega
              case measure => simp [intOf] <;> omega

          · obtain ⟨g, off, rfl, hg, _⟩ := num_at (HRs.out.below HB6.out) 0 hpos
            obtain ⟨rfl, g0, gl⟩ : off = 0 ∧ w.heap.size ≤ g ∧ g < W0.heap.size := by
              rcases HA'.out with ⟨h, _⟩ | ⟨g', h, h1, h2⟩
              · cases h
              · cases h; exact ⟨rfl, h1, h2⟩
            have hc0 : ¬ c' = 0 := by omega
            have hkz : ¬ (0 : Int) = (S.length : Int) := by omega
            go_wp2_with fail
            have hG : W0.heap.size ≤ W6.heap.size := HB6.out.size
            have hlW : lb < W6.heap.size := by omega
            go_region_law ((first
              | (refine step_append_sized rfl (.tmp 44) (.tmp 47) 22 rfl W0.heap.size 3 i1 _ 1 8 Try.underlying22 Hj0.out Hj1.out Hj2.out Hj3.out rfl (by decide) (.slice (some ⟨W6.heap.size, 0, none⟩) 0 0) 0 [] (by simp [Act.eval]) (own_emptyn (k := 1) (Deep.blk_alloc_new W6 (.cells #[] 3)) hG) (some ⟨g, 0, none⟩) 0 c' (by simp [Act.eval]) [] (by rfl) (fun h => by cases h) (fun ad e j u hu => by simp at hu) (by first | exact nC_one _ | simp) (by omega) (by omega) (by have := HB6.out.size; simp; omega) ?_; intro v1 w2 hown1 hg1; have HBw := Lib.hid (below_grownk (B := W0.heap.size) (a := W0) ((Below.alloc HB6.out HB6.out.size _).drew) (own_emptyn (k := 1) (Deep.blk_alloc_new W6 (.cells #[] 3)) hG) hg1 (Nat.le_refl _) (Nat.le_refl _)); have HO1 := Lib.hid hown1; have c0w := (HBw.out.cell (p := ⟨lb, lo + j, none⟩) hlb).trans h0; clear hown1 hg1)
              | (refine step_append_sized rfl (.tmp 44) (.tmp 47) 22 rfl W0.heap.size 3 i1 _ 1 8 Try.underlying22 Hj0.out Hj1.out Hj2.out Hj3.out rfl (by decide) (.slice (some ⟨W6.heap.size, 0, none⟩) 0 0) 0 [] (by simp [Act.eval]) (own_emptyn (k := 1) (blk_under W6 (.cells #[] 3) (.cells #[.int .i64 n] 3)) hG) (some ⟨g, 0, none⟩) 0 c' (by simp [Act.eval]) [] (by rfl) (fun h => by cases h) (fun ad e j u hu => by simp at hu) (by first | exact nC_one _ | simp) (by omega) (by omega) (by have := HB6.out.size; simp; omega) ?_; intro v1 w2 hown1 hg1; have HBw := Lib.hid (below_grownk (B := W0.heap.size) (a := W0) ((Below.alloc (Below.alloc HB6.out HB6.out.size _) (by have := HB6.out.size; simp; omega) _).drew) (own_emptyn (k := 1) (blk_under W6 (.cells #[] 3) (.cells #[.int .i64 n] 3)) hG) hg1 (Nat.le_refl _) (Nat.le_refl _)); have HO1 := Lib.hid hown1; have HX2 : Hid (w2.heap[W6.heap.size + 1]? = some (.cells #[.int .i64 n] 3)) := Lib.hid ((hg1.block (W6.heap.size + 1) (by simp) (by simp [Value.ownBlock])).trans (blk_over W6 (.cells #[] 3) (.cells #[.int .i64 n] 3))); have c0w := (HBw.out.cell (p := ⟨lb, lo + j, none⟩) hlb).trans h0; clear hown1 hg1)
              | (refine step_append_sized rfl (.tmp 44) (.tmp 47) 22 rfl W0.heap.size 3 i1 _ 1 8 Try.underlying22 Hj0.out Hj1.out Hj2.out Hj3.out rfl (by decide) (.slice (some ⟨(W6.heap.size + 1), 0, none⟩) 0 0) 0 [] (by simp [Act.eval]) (own_emptyn (k := 1) (blk_over W6 (.cells #[.int .i64 n] 3) (.cells #[] 3)) (by omega)) (some ⟨g, 0, none⟩) 0 c' (by simp [Act.eval]) [] (by rfl) (fun h => by cases h) (fun ad e j u hu => by simp at hu) (by first | exact nC_one _ | simp) (by omega) (by omega) (by have := HB6.out.size; simp; omega) ?_; intro v1 w2 hown1 hg1; have HBw := Lib.hid (below_grownk (B := W0.heap.size) (a := W0) ((Below.alloc (Below.alloc HB6.out HB6.out.size _) (by have := HB6.out.size; simp; omega) _).drew) (own_emptyn (k := 1) (blk_over W6 (.cells #[.int .i64 n] 3) (.cells #[] 3)) (by omega)) hg1 (Nat.le_refl _) (Nat.le_refl _)); have HO1 := Lib.hid hown1; have HX2 : Hid (w2.heap[W6.heap.size]? = some (.cells #[.int .i64 n] 3)) := Lib.hid ((hg1.block W6.heap.size (by simp; omega) (by simp [Value.ownBlock])).trans (blk_under W6 (.cells #[.int .i64 n] 3) (.cells #[] 3))); have c0w := (HBw.out.cell (p := ⟨lb, lo + j, none⟩) hlb).trans h0; clear hown1 hg1)
              | (refine step_append_sized rfl (.tmp 48) (.tmp 53) 22 rfl W0.heap.size 3 i1 _ 1 8 Try.underlying22 Hj0.out Hj1.out Hj2.out Hj3.out rfl (by decide) v1 (0 + 0) ([] ++ []) (by simp [Act.eval]) (HO1.out.alloc _) (some ⟨w2.heap.size, 0, none⟩) 1 1 (by simp [Act.eval]) [.int .i64 n] rfl (fun h => by cases h) (cells_one (Deep.blk_alloc_new w2 (.cells #[.int .i64 n] 3))) (by simp [Value.oneCell']) (by omega) (by omega) (by have := HBw.out.size; simp; omega) ?_; intro v2 w3 hown2 hg2; have HBv := Lib.hid (below_grownk (B := W0.heap.size) (a := W0) (Below.alloc HBw.out HBw.out.size _) (HO1.out.alloc _) hg2 (Nat.le_refl _) (Nat.le_refl _)); have HO2 := Lib.hid hown2; clear hown2 hg2)
              | (refine step_append_sized rfl (.tmp 48) (.tmp 53) 22 rfl W0.heap.size 3 i1 _ 1 8 Try.underlying22 Hj0.out Hj1.out Hj2.out Hj3.out rfl (by decide) v1 (0 + 0) ([] ++ []) (by simp [Act.eval]) HO1.out (some ⟨(W6.heap.size + 1), 0, none⟩) 1 1 (by simp [Act.eval]) [.int .i64 n] rfl (fun h => by cases h) (cells_one HX2.out) (by simp [Value.oneCell']) (by omega) (by omega) (by have := HBw.out.size; simp; omega) ?_; intro v2 w3 hown2 hg2; have HBv := Lib.hid (below_grownk (B := W0.heap.size) (a := W0) HBw.out HO1.out hg2 (Nat.le_refl _) (Nat.le_refl _)); have HO2 := Lib.hid hown2; clear hown2 hg2)
              | (refine step_append_sized rfl (.tmp 48) (.tmp 53) 22 rfl W0.heap.size 3 i1 _ 1 8 Try.underlying22 Hj0.out Hj1.out Hj2.out Hj3.out rfl (by decide) v1 (0 + 0) ([] ++ []) (by simp [Act.eval]) HO1.out (some ⟨W6.heap.size, 0, none⟩) 1 1 (by simp [Act.eval]) [.int .i64 n] rfl (fun h => by cases h) (cells_one HX2.out) (by simp [Value.oneCell']) (by omega) (by omega) (by have := HBw.out.size; simp; omega) ?_; intro v2 w3 hown2 hg2; have HBv := Lib.hid (below_grownk (B := W0.heap.size) (a := W0) HBw.out HO1.out hg2 (Nat.le_refl _) (Nat.le_refl _)); have HO2 := Lib.hid hown2; clear hown2 hg2)
              | (refine step_append_sized rfl (.tmp 54) (.tmp 57) 22 rfl W0.heap.size 3 i1 _ 1 8 Try.underlying22 Hj0.out Hj1.out Hj2.out Hj3.out rfl (by decide) v2 (0 + 0 + 1) ([] ++ [] ++ [.int .i64 n]) (by simp [Act.eval]) HO2.out (some ⟨g, 0, none⟩) S.length c' (by simp [Act.eval]) (nC S) (by rw [nC_len, Nat.mul_one]) (fun h => by cases h) (by have h := back_nums HRs.out HBv.out 0 (Nat.zero_le _); simpa using h) (by first | exact nC_one _ | simp) (by omega) (by omega) HBv.out.size ?_; intro v3 w4 hown3 hg3; have HBu := Lib.hid (below_grownk (B := W0.heap.size) (a := W0) HBv.out HO2.out hg3 (Nat.le_refl _) (Nat.le_refl _)); have HO3 := Lib.hid hown3; clear hown3 hg3)))
            all_goals
              go_wp2_with fail
              go_roundw
              case rel =>
                refine ⟨j + 1, by omega, by go_num, Lib.hid ?_, Lib.hid (.inr ?_), Lib.hid (HB.out.trans (HBu.out.mono HB.out.size))⟩
                · have h := own_base HO3.out HB.out.size
                  have e1 : (bdk L (j + 1)).length = 0 + 0 + 1 + S.length := by rw [E.out, HP.out]; simp; omega
                  have e2 : nC (bdk L (j + 1)) = [] ++ [] ++ [.int .i64 n] ++ (nC S) := by rw [E.out, HP.out]; simp [nC]
                  rw [e1, e2]; exact h
                · rw [E.out, HP.out, List.length_append, List.length_append]; simp only [List.length_cons, List.length_nil]; omega
              case measure => simp [intOf] <;> omega

        · obtain ⟨m, hm1⟩ : ∃ m, k = m + 1 := ⟨k - 1, by omega⟩
          have hm : m < S.length := by omega
          obtain ⟨g, off, rfl, hg, d0⟩ := num_at (HRs.out.below HBk.out) m hm
          obtain ⟨rfl, g0, gl⟩ : off = 0 ∧ w.heap.size ≤ g ∧ g < W0.heap.size := by
            rcases HA'.out with ⟨h, _⟩ | ⟨g', h, h1, h2⟩
            · cases h
            · cases h; exact ⟨rfl, h1, h2⟩
          have dW0 : W0.cell? ⟨g, 0 + m, none⟩ = some (.int .i64 S[m]) := (HBk.out.cell (p := ⟨g, 0 + m, none⟩) gl).symm.trans d0
          rw [Nat.zero_add] at d0 dW0
          obtain ⟨y, hy⟩ : ∃ y, y = S[m] := ⟨_, rfl⟩
          rw [← hy] at d0 dW0
          have HY := Lib.hid hy
          have HDW := Lib.hid dW0
          have c0 := (HBk.out.cell (p := ⟨lb, lo + j, none⟩) hlb).trans h0
          have hlk : lb < wr.heap.size := by have := HBk.out.size; omega
          have hgk : g < wr.heap.size := by have := HBk.out.size; omega
          have hkI : (0 : Int) < (k : Int) := by omega
          have hk1 : IntKind.i64.wrap ((k : Int) - 1) = (m : Int) := by simp only [IntKind.wrap_i64]; omega
          have hk2 : wrap64 ((k : Int) - 1) = (m : Int) := by unfold wrap64; omega
          have hmI : (m : Int) < (S.length : Int) := by omega
          have hm0 : (0 : Int) ≤ (m : Int) := by omega
          have HM1 := Lib.hid hm1
          clear hy dW0 hm1
          by_cases hgt : n < y
          · go_wp2_with fail
            go_quiet (fail)
            (refine (by assumption : ∀ _ _, _ → _) _ _ ?_)
            have hb5q := below_drewN HBk.out nq
            generalize World.drewN wr nq = W5 at hb5q ⊢
            have HB5 := Lib.hid hb5q
            clear hb5q

            go_wp2_with fail
            go_roundw
            case rel =>
              refine ⟨m, by omega, by go_num, Lib.hid (fun i h hi => ?_), HB5⟩
              by_cases e : i = m
              · subst e; rw [← HY.out]; exact hgt
              · exact Hk.out i h (by have := HM1.out; omega)
            case measure => have := HM1.out; simp [intOf]; omega
          · have hle : y ≤ n := by omega
            have hlow : ∀ i (h : i < S.length), i < m → S[i] < y := fun i h hi => by rw [HY.out]; exact List.pairwise_iff_getElem.1 HS.out i m h hm hi
            have HLow := Lib.hid hlow
            clear hlow
            go_wp2_with fail
            go_quiet (fail)
            (refine (by assumption : ∀ _ _, _ → _) _ _ ?_)
            have hb5q := below_drewN HBk.out nq
            generalize World.drewN wr nq = W5 at hb5q ⊢
            have HB5 := Lib.hid hb5q
            clear hb5q

            have d5 := (HB5.out.cell (p := ⟨g, m, none⟩) gl).trans HDW.out
            have c5 := (HB5.out.cell (p := ⟨lb, lo + j, none⟩) hlb).trans h0
            have hl5 : lb < W5.heap.size := by have := HB5.out.size; omega
            have hg5 : g < W5.heap.size := by have := HB5.out.size; omega
            by_cases hye : y = n
            · have HP := Lib.hid (insN_old n S m hm (fun i h hi => by rw [← hye]; exact HLow.out i h hi) (by rw [← HY.out]; exact hye))
              subst hye
              go_wp2_with fail
              go_quiet (fail)
              (refine (by assumption : ∀ _ _, _ → _) _ _ ?_)
              have hb6q := below_drewN HB5.out nq
              generalize World.drewN W5 nq = W6 at hb6q ⊢
              have HB6 := Lib.hid hb6q
              clear hb6q

              go_wp2_with fail
              go_roundw
              case rel => exact ⟨j + 1, by omega, by go_num, by rw [E.out, HP.out]; exact Lib.hid (own_belowk HO.out HB6.out), by rw [E.out, HP.out]; exact HN, Lib.hid (HB.out.trans (HB6.out.mono HB.out.size))⟩
              case measure => simp [intOf] <;> omega
            · have HP := Lib.hid (insN_new n S k hk (fun i h hi => by
                have hm1 := HM1.out
                by_cases e : i = m
                · subst e; rw [← HY.out]; omega
                · have := HLow.out i h (by omega); omega) (fun h => Hk.out k h (by omega)))
              have hyb : (y == n) = false := by simp [hye]
              go_wp2_with fail
              go_quiet (fail)
              (refine (by assumption : ∀ _ _, _ → _) _ _ ?_)
              have hb6q := below_drewN HB5.out nq
              generalize World.drewN W5 nq = W6 at hb6q ⊢
              have HB6 := Lib.hid hb6q
              clear hb6q

              have c6 := (HB6.out.cell (p := ⟨lb, lo + j, none⟩) hlb).trans h0
              have hkS : k ≤ S.length := hk
              have hmc : k ≤ c' := by omega
              clear d0 c0 d5 c5 hk1 hk2
              by_cases hcm2 : c' = k
              · have hSk : S.length = c' := by omega
                subst hcm2
                simp only [hSk]
                go_wp2_with fail
                have hG : W0.heap.size ≤ W6.heap.size := HB6.out.size
                have hlW : lb < W6.heap.size := by omega
                go_region_law ((first
                  | (refine step_append_sized rfl (.tmp 44) (.tmp 47) 22 rfl W0.heap.size 3 i1 _ 1 8 Try.underlying22 Hj0.out Hj1.out Hj2.out Hj3.out rfl (by decide) (.slice (some ⟨W6.heap.size, 0, none⟩) 0 0) 0 [] (by simp [Act.eval]) (own_emptyn (k := 1) (Deep.blk_alloc_new W6 (.cells #[] 3)) hG) (some ⟨g, 0, none⟩) c' c' (by simp [Act.eval]) (nC (S.take c')) (by rw [nC_len, List.length_take, Nat.min_eq_left hkS, Nat.mul_one]) (fun h => by cases h) (front_nums HRs.out ((Below.alloc HB6.out HB6.out.size _).drew) c' hkS) (by first | exact nC_one _ | simp) (by omega) (by omega) (by have := HB6.out.size; simp; omega) ?_; intro v1 w2 hown1 hg1; have HBw := Lib.hid (below_grownk (B := W0.heap.size) (a := W0) ((Below.alloc HB6.out HB6.out.size _).drew) (own_emptyn (k := 1) (Deep.blk_alloc_new W6 (.cells #[] 3)) hG) hg1 (Nat.le_refl _) (Nat.le_refl _)); have HO1 := Lib.hid hown1; have c0w := (HBw.out.cell (p := ⟨lb, lo + j, none⟩) hlb).trans h0; clear hown1 hg1)
                  | (refine step_append_sized rfl (.tmp 44) (.tmp 47) 22 rfl W0.heap.size 3 i1 _ 1 8 Try.underlying22 Hj0.out Hj1.out Hj2.out Hj3.out rfl (by decide) (.slice (some ⟨W6.heap.size, 0, none⟩) 0 0) 0 [] (by simp [Act.eval]) (own_emptyn (k := 1) (blk_under W6 (.cells #[] 3) (.cells #[.int .i64 n] 3)) hG) (some ⟨g, 0, none⟩) c' c' (by simp [Act.eval]) (nC (S.take c')) (by rw [nC_len, List.length_take, Nat.min_eq_left hkS, Nat.mul_one]) (fun h => by cases h) (front_nums HRs.out ((Below.alloc (Below.alloc HB6.out HB6.out.size _) (by have := HB6.out.size; simp; omega) _).drew) c' hkS) (by first | exact nC_one _ | simp) (by omega) (by omega) (by have := HB6.out.size; simp; omega) ?_; intro v1 w2 hown1 hg1; have HBw := Lib.hid (below_grownk (B := W0.heap.size) (a := W0) ((Below.alloc (Below.alloc HB6.out HB6.out.size _) (by have := HB6.out.size; simp; omega) _).drew) (own_emptyn (k := 1) (blk_under W6 (.cells #[] 3) (.cells #[.int .i64 n] 3)) hG) hg1 (Nat.le_refl _) (Nat.le_refl _)); have HO1 := Lib.hid hown1; have HX2 : Hid (w2.heap[W6.heap.size + 1]? = some (.cells #[.int .i64 n] 3)) := Lib.hid ((hg1.block (W6.heap.size + 1) (by simp) (by simp [Value.ownBlock])).trans (blk_over W6 (.cells #[] 3) (.cells #[.int .i64 n] 3))); have c0w := (HBw.out.cell (p := ⟨lb, lo + j, none⟩) hlb).trans h0; clear hown1 hg1)
                  | (refine step_append_sized rfl (.tmp 44) (.tmp 47) 22 rfl W0.heap.size 3 i1 _ 1 8 Try.underlying22 Hj0.out Hj1.out Hj2.out Hj3.out rfl (by decide) (.slice (some ⟨(W6.heap.size + 1), 0, none⟩) 0 0) 0 [] (by simp [Act.eval]) (own_emptyn (k := 1) (blk_over W6 (.cells #[.int .i64 n] 3) (.cells #[] 3)) (by omega)) (some ⟨g, 0, none⟩) c' c' (by simp [Act.eval]) (nC (S.take c')) (by rw [nC_len, List.length_take, Nat.min_eq_left hkS, Nat.mul_one]) (fun h => by cases h) (front_nums HRs.out ((Below.alloc (Below.alloc HB6.out HB6.out.size _) (by have := HB6.out.size; simp; omega) _).drew) c' hkS) (by first | exact nC_one _ | simp) (by omega) (by omega) (by have := HB6.out.size; simp; omega) ?_; intro v1 w2 hown1 hg1; have HBw := Lib.hid (below_grownk (B := W0.heap.size) (a := W0) ((Below.alloc (Below.alloc HB6.out HB6.out.size _) (by have := HB6.out.size; simp; omega) _).drew) (own_emptyn (k := 1) (blk_over W6 (.cells #[.int .i64 n] 3) (.cells #[] 3)) (by omega)) hg1 (Nat.le_refl _) (Nat.le_refl _)); have HO1 := Lib.hid hown1; have HX2 : Hid (w2.heap[W6.heap.size]? = some (.cells #[.int .i64 n] 3)) := Lib.hid ((hg1.block W6.heap.size (by simp; omega) (by simp [Value.ownBlock])).trans (blk_under W6 (.cells #[.int .i64 n] 3) (.cells #[] 3))); have c0w := (HBw.out.cell (p := ⟨lb, lo + j, none⟩) hlb).trans h0; clear hown1 hg1)
                  | (refine step_append_sized rfl (.tmp 48) (.tmp 53) 22 rfl W0.heap.size 3 i1 _ 1 8 Try.underlying22 Hj0.out Hj1.out Hj2.out Hj3.out rfl (by decide) v1 (0 + c') ([] ++ (nC (S.take c'))) (by simp [Act.eval]) (HO1.out.alloc _) (some ⟨w2.heap.size, 0, none⟩) 1 1 (by simp [Act.eval]) [.int .i64 n] rfl (fun h => by cases h) (cells_one (Deep.blk_alloc_new w2 (.cells #[.int .i64 n] 3))) (by simp [Value.oneCell']) (by omega) (by omega) (by have := HBw.out.size; simp; omega) ?_; intro v2 w3 hown2 hg2; have HBv := Lib.hid (below_grownk (B := W0.heap.size) (a := W0) (Below.alloc HBw.out HBw.out.size _) (HO1.out.alloc _) hg2 (Nat.le_refl _) (Nat.le_refl _)); have HO2 := Lib.hid hown2; clear hown2 hg2)
                  | (refine step_append_sized rfl (.tmp 48) (.tmp 53) 22 rfl W0.heap.size 3 i1 _ 1 8 Try.underlying22 Hj0.out Hj1.out Hj2.out Hj3.out rfl (by decide) v1 (0 + c') ([] ++ (nC (S.take c'))) (by simp [Act.eval]) HO1.out (some ⟨(W6.heap.size + 1), 0, none⟩) 1 1 (by simp [Act.eval]) [.int .i64 n] rfl (fun h => by cases h) (cells_one HX2.out) (by simp [Value.oneCell']) (by omega) (by omega) (by have := HBw.out.size; simp; omega) ?_; intro v2 w3 hown2 hg2; have HBv := Lib.hid (below_grownk (B := W0.heap.size) (a := W0) HBw.out HO1.out hg2 (Nat.le_refl _) (Nat.le_refl _)); have HO2 := Lib.hid hown2; clear hown2 hg2)
                  | (refine step_append_sized rfl (.tmp 48) (.tmp 53) 22 rfl W0.heap.size 3 i1 _ 1 8 Try.underlying22 Hj0.out Hj1.out Hj2.out Hj3.out rfl (by decide) v1 (0 + c') ([] ++ (nC (S.take c'))) (by simp [Act.eval]) HO1.out (some ⟨W6.heap.size, 0, none⟩) 1 1 (by simp [Act.eval]) [.int .i64 n] rfl (fun h => by cases h) (cells_one HX2.out) (by simp [Value.oneCell']) (by omega) (by omega) (by have := HBw.out.size; simp; omega) ?_; intro v2 w3 hown2 hg2; have HBv := Lib.hid (below_grownk (B := W0.heap.size) (a := W0) HBw.out HO1.out hg2 (Nat.le_refl _) (Nat.le_refl _)); have HO2 := Lib.hid hown2; clear hown2 hg2)
                  | (refine step_append_sized rfl (.tmp 54) (.tmp 57) 22 rfl W0.heap.size 3 i1 _ 1 8 Try.underlying22 Hj0.out Hj1.out Hj2.out Hj3.out rfl (by decide) v2 (0 + c' + 1) ([] ++ (nC (S.take c')) ++ [.int .i64 n]) (by simp [Act.eval]) HO2.out (some ⟨g, 0, none⟩) 0 0 (by simp [Act.eval]) [] (by rfl) (fun h => by cases h) (fun ad e j u hu => by simp at hu) (by first | exact nC_one _ | simp) (by omega) (by omega) HBv.out.size ?_; intro v3 w4 hown3 hg3; have HBu := Lib.hid (below_grownk (B := W0.heap.size) (a := W0) HBv.out HO2.out hg3 (Nat.le_refl _) (Nat.le_refl _)); have HO3 := Lib.hid hown3; clear hown3 hg3)))
                all_goals
                  go_wp2_with fail
                  go_roundw
                  case rel =>
                    refine ⟨j + 1, by omega, by go_num, Lib.hid ?_, Lib.hid (.inr ?_), Lib.hid (HB.out.trans (HBu.out.mono HB.out.size))⟩
                    · have h := own_base HO3.out HB.out.size
                      have e1 : (bdk L (j + 1)).length = 0 + c' + 1 + 0 := by rw [E.out, HP.out]; simp only [List.length_append, List.length_take, List.length_drop, List.length_cons, List.length_nil, Nat.min_eq_left hkS]; omega
                      have e2 : nC (bdk L (j + 1)) = [] ++ (nC (S.take c')) ++ [.int .i64 n] ++ [] := by rw [E.out, HP.out]; rw [List.drop_eq_nil_of_le (by omega)]; simp [nC]
                      rw [e1, e2]; exact h
                    · rw [E.out, HP.out, List.length_append, List.length_append]; simp only [List.length_cons, List.length_nil]; omega
                  case measure => simp [intOf] <;> omega

              · go_wp2_with fail
                have hG : W0.heap.size ≤ W6.heap.size := HB6.out.size
                have hlW : lb < W6.heap.size := by omega
                go_region_law ((first
                  | (refine step_append_sized rfl (.tmp 44) (.tmp 47) 22 rfl W0.heap.size 3 i1 _ 1 8 Try.underlying22 Hj0.out Hj1.out Hj2.out Hj3.out rfl (by decide) (.slice (some ⟨W6.heap.size, 0, none⟩) 0 0) 0 [] (by simp [Act.eval]) (own_emptyn (k := 1) (Deep.blk_alloc_new W6 (.cells #[] 3)) hG) (some ⟨g, 0, none⟩) k c' (by simp [Act.eval]) (nC (S.take k)) (by rw [nC_len, List.length_take, Nat.min_eq_left hkS, Nat.mul_one]) (fun h => by cases h) (front_nums HRs.out ((Below.alloc HB6.out HB6.out.size _).drew) k hkS) (by first | exact nC_one _ | simp) (by omega) (by omega) (by have := HB6.out.size; simp; omega) ?_; intro v1 w2 hown1 hg1; have HBw := Lib.hid (below_grownk (B := W0.heap.size) (a := W0) ((Below.alloc HB6.out HB6.out.size _).drew) (own_emptyn (k := 1) (Deep.blk_alloc_new W6 (.cells #[] 3)) hG) hg1 (Nat.le_refl _) (Nat.le_refl _)); have HO1 := Lib.hid hown1; have c0w := (HBw.out.cell (p := ⟨lb, lo + j, none⟩) hlb).trans h0; clear hown1 hg1)
                  | (refine step_append_sized rfl (.tmp 44) (.tmp 47) 22 rfl W0.heap.size 3 i1 _ 1 8 Try.underlying22 Hj0.out Hj1.out Hj2.out Hj3.out rfl (by decide) (.slice (some ⟨W6.heap.size, 0, none⟩) 0 0) 0 [] (by simp [Act.eval]) (own_emptyn (k := 1) (blk_under W6 (.cells #[] 3) (.cells #[.int .i64 n] 3)) hG) (some ⟨g, 0, none⟩) k c' (by simp [Act.eval]) (nC (S.take k)) (by rw [nC_len, List.length_take, Nat.min_eq_left hkS, Nat.mul_one]) (fun h => by cases h) (front_nums HRs.out ((Below.alloc (Below.alloc HB6.out HB6.out.size _) (by have := HB6.out.size; simp; omega) _).drew) k hkS) (by first | exact nC_one _ | simp) (by omega) (by omega) (by have := HB6.out.size; simp; omega) ?_; intro v1 w2 hown1 hg1; have HBw := Lib.hid (below_grownk (B := W0.heap.size) (a := W0) ((Below.alloc (Below.alloc HB6.out HB6.out.size _) (by have := HB6.out.size; simp; omega) _).drew) (own_emptyn (k := 1) (blk_under W6 (.cells #[] 3) (.cells #[.int .i64 n] 3)) hG) hg1 (Nat.le_refl _) (Nat.le_refl _)); have HO1 := Lib.hid hown1; have HX2 : Hid (w2.heap[W6.heap.size + 1]? = some (.cells #[.int .i64 n] 3)) := Lib.hid ((hg1.block (W6.heap.size + 1) (by simp) (by simp [Value.ownBlock])).trans (blk_over W6 (.cells #[] 3) (.cells #[.int .i64 n] 3))); have c0w := (HBw.out.cell (p := ⟨lb, lo + j, none⟩) hlb).trans h0; clear hown1 hg1)
                  | (refine step_append_sized rfl (.tmp 44) (.tmp 47) 22 rfl W0.heap.size 3 i1 _ 1 8 Try.underlying22 Hj0.out Hj1.out Hj2.out Hj3.out rfl (by decide) (.slice (some ⟨(W6.heap.size + 1), 0, none⟩) 0 0) 0 [] (by simp [Act.eval]) (own_emptyn (k := 1) (blk_over W6 (.cells #[.int .i64 n] 3) (.cells #[] 3)) (by omega)) (some ⟨g, 0, none⟩) k c' (by simp [Act.eval]) (nC (S.take k)) (by rw [nC_len, List.length_take, Nat.min_eq_left hkS, Nat.mul_one]) (fun h => by cases h) (front_nums HRs.out ((Below.alloc (Below.alloc HB6.out HB6.out.size _) (by have := HB6.out.size; simp; omega) _).drew) k hkS) (by first | exact nC_one _ | simp) (by omega) (by omega) (by have := HB6.out.size; simp; omega) ?_; intro v1 w2 hown1 hg1; have HBw := Lib.hid (below_grownk (B := W0.heap.size) (a := W0) ((Below.alloc (Below.alloc HB6.out HB6.out.size _) (by have := HB6.out.size; simp; omega) _).drew) (own_emptyn (k := 1) (blk_over W6 (.cells #[.int .i64 n] 3) (.cells #[] 3)) (by omega)) hg1 (Nat.le_refl _) (Nat.le_refl _)); have HO1 := Lib.hid hown1; have HX2 : Hid (w2.heap[W6.heap.size]? = some (.cells #[.int .i64 n] 3)) := Lib.hid ((hg1.block W6.heap.size (by simp; omega) (by simp [Value.ownBlock])).trans (blk_under W6 (.cells #[.int .i64 n] 3) (.cells #[] 3))); have c0w := (HBw.out.cell (p := ⟨lb, lo + j, none⟩) hlb).trans h0; clear hown1 hg1)
                  | (refine step_append_sized rfl (.tmp 48) (.tmp 53) 22 rfl W0.heap.size 3 i1 _ 1 8 Try.underlying22 Hj0.out Hj1.out Hj2.out Hj3.out rfl (by decide) v1 (0 + k) ([] ++ (nC (S.take k))) (by simp [Act.eval]) (HO1.out.alloc _) (some ⟨w2.heap.size, 0, none⟩) 1 1 (by simp [Act.eval]) [.int .i64 n] rfl (fun h => by cases h) (cells_one (Deep.blk_alloc_new w2 (.cells #[.int .i64 n] 3))) (by simp [Value.oneCell']) (by omega) (by omega) (by have := HBw.out.size; simp; omega) ?_; intro v2 w3 hown2 hg2; have HBv := Lib.hid (below_grownk (B := W0.heap.size) (a := W0) (Below.alloc HBw.out HBw.out.size _) (HO1.out.alloc _) hg2 (Nat.le_refl _) (Nat.le_refl _)); have HO2 := Lib.hid hown2; clear hown2 hg2)
                  | (refine step_append_sized rfl (.tmp 48) (.tmp 53) 22 rfl W0.heap.size 3 i1 _ 1 8 Try.underlying22 Hj0.out Hj1.out Hj2.out Hj3.out rfl (by decide) v1 (0 + k) ([] ++ (nC (S.take k))) (by simp [Act.eval]) HO1.out (some ⟨(W6.heap.size + 1), 0, none⟩) 1 1 (by simp [Act.eval]) [.int .i64 n] rfl (fun h => by cases h) (cells_one HX2.out) (by simp [Value.oneCell']) (by omega) (by omega) (by have := HBw.out.size; simp; omega) ?_; intro v2 w3 hown2 hg2; have HBv := Lib.hid (below_grownk (B := W0.heap.size) (a := W0) HBw.out HO1.out hg2 (Nat.le_refl _) (Nat.le_refl _)); have HO2 := Lib.hid hown2; clear hown2 hg2)
                  | (refine step_append_sized rfl (.tmp 48) (.tmp 53) 22 rfl W0.heap.size 3 i1 _ 1 8 Try.underlying22 Hj0.out Hj1.out Hj2.out Hj3.out rfl (by decide) v1 (0 + k) ([] ++ (nC (S.take k))) (by simp [Act.eval]) HO1.out (some ⟨W6.heap.size, 0, none⟩) 1 1 (by simp [Act.eval]) [.int .i64 n] rfl (fun h => by cases h) (cells_one HX2.out) (by simp [Value.oneCell']) (by omega) (by omega) (by have := HBw.out.size; simp; omega) ?_; intro v2 w3 hown2 hg2; have HBv := Lib.hid (below_grownk (B := W0.heap.size) (a := W0) HBw.out HO1.out hg2 (Nat.le_refl _) (Nat.le_refl _)); have HO2 := Lib.hid hown2; clear hown2 hg2)
                  | (refine step_append_sized rfl (.tmp 54) (.tmp 57) 22 rfl W0.heap.size 3 i1 _ 1 8 Try.underlying22 Hj0.out Hj1.out Hj2.out Hj3.out rfl (by decide) v2 (0 + k + 1) ([] ++ (nC (S.take k)) ++ [.int .i64 n]) (by simp [Act.eval]) HO2.out (some ⟨g, k, none⟩) (S.length - k) (c' - k) (by simp [Act.eval]) (nC (S.drop k)) (by rw [nC_len, List.length_drop, Nat.mul_one]) (fun h => by cases h) (back_nums HRs.out HBv.out k hkS) (by first | exact nC_one _ | simp) (by omega) (by omega) HBv.out.size ?_; intro v3 w4 hown3 hg3; have HBu := Lib.hid (below_grownk (B := W0.heap.size) (a := W0) HBv.out HO2.out hg3 (Nat.le_refl _) (Nat.le_refl _)); have HO3 := Lib.hid hown3; clear hown3 hg3)))
                all_goals
                  go_wp2_with fail
                  go_roundw
                  case rel =>
                    refine ⟨j + 1, by omega, by go_num, Lib.hid ?_, Lib.hid (.inr ?_), Lib.hid (HB.out.trans (HBu.out.mono HB.out.size))⟩
                    · have h := own_base HO3.out HB.out.size
                      have e1 : (bdk L (j + 1)).length = 0 + k + 1 + (S.length - k) := by rw [E.out, HP.out]; simp only [List.length_append, List.length_take, List.length_drop, List.length_cons, List.length_nil, Nat.min_eq_left hkS]; omega
                      have e2 : nC (bdk L (j + 1)) = [] ++ (nC (S.take k)) ++ [.int .i64 n] ++ (nC (S.drop k)) := by rw [E.out, HP.out]; simp [nC]
                      rw [e1, e2]; exact h
                    · rw [E.out, HP.out, List.length_append, List.length_append]; simp only [List.length_cons, List.length_nil]; omega
                  case measure => simp [intOf] <;> omega

    · obtain rfl : j = L.length := by omega
      rw [HAll.out] at HO
      clear HN HAll
      go_wp2_with fail
      go_ret
      exact ⟨⟨_, rfl, HO.out⟩, HB.out⟩
end Go.Proofs.Ytacgomhegjilgaa
