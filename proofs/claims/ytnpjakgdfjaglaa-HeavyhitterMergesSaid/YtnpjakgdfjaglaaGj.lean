/- counters; New. -/
import Derived.Test.YtnpjakgdfjaglaaGi
namespace Go.Proofs.Ytnpjakgdfjaglaa
open Go.ChangeShapes Go.WideShapes Go.ChangeAt Go.RowKit Go.Joins

theorem ct_snoc (L : List Ct) (x : Ct) : ctCells (L ++ [x]) = ctCells L ++ [.string x.1, .int .i64 x.2] := by simp [ctCells, ctC]
theorem gt_at {L : List Ct} (hS : Sd L) (j : Nat) (hj : j < L.length) : gt L L[j].1 = L[j].2 := by
  have e : L = L.take j ++ L[j] :: L.drop (j + 1) := by rw [← List.drop_eq_getElem_cons hj, List.take_append_drop]
  have h := gt_mid (A := L.take j) (p := L[j]) (B := L.drop (j + 1)) (by rw [← e]; exact hS)
  rwa [← e] at h
set_option maxRecDepth 100000 in
set_option maxHeartbeats 4000000 in
theorem counters_any (b : Nat) (L : List Ct) (hK : ∀ p ∈ L, p.1.size ≤ 1000) (hln : L.length ≤ 1000000) (w : World) (h : Hm w b L) :
    Calls Try.prog 42 #[.map (some b)] w fun e w' => (∃ v, e = .returned v ∧ w'.ownsRow w.heap.size 27 2 v L.length (ctCells L)) ∧ Below w.heap.size w w' := by
  obtain ⟨i0, hi0, hz0, hz1, hz2⟩ := info_parts2 ct_info
  have Hi0 := Lib.hid hi0
  have Hz0 := Lib.hid hz0
  have Hz1 := Lib.hid hz1
  have Hz2 := Lib.hid hz2
  have HC : Hid (∀ j (h : j < L.length), L[j].1.size ≤ 1000 ∧ gt L L[j].1 = L[j].2 ∧ ctCells (L.take (j + 1)) = ctCells (L.take j) ++ [.string L[j].1, .int .i64 L[j].2]) := Lib.hid (fun j hj => ⟨hK _ (List.getElem_mem hj), gt_at h.sd j hj, by rw [List.take_succ_eq_append_getElem hj, ct_snoc]⟩)
  have HM0 := Lib.hid h
  have HKy := Lib.hid (keys_any b L hln w h)
  clear h hi0 hz0 hz1 hz2 hK
  go_enter Try.func42, Try.ntmps42
  go_wp2_with fail
  refine HKy.out.mono ?_
  rintro e w1 ⟨v, rfl, hrow, hb1⟩
  obtain ⟨A, c, rfl, _⟩ := own_slice hrow
  have HR0 := Lib.hid hrow
  have HM1 := Lib.hid (HM0.out.below hb1)
  have HB1 := Lib.hid hb1
  have hsz1 := hb1.size
  clear hrow hb1
  go_wp2_with fail
  go_loopw [3, 5, 9] (fun u _ iv wr => ∃ j : Nat, j ≤ L.length ∧ iv = .int .i64 (j : Int) ∧ Hid (wr.ownsRow w1.heap.size 27 2 u j (ctCells (L.take j))) ∧ Hid (Below w1.heap.size w1 wr)) (fun _ _ iv _ => L.length - (intOf iv).toNat)
  case atStart => exact ⟨0, Nat.zero_le _, rfl, Lib.hid (by rw [List.take_zero]; exact own_nilc _ _), Lib.hid (Below.refl _ _)⟩
  case round =>
    obtain ⟨j, hj, rfl, HO, HB⟩ := hrel
    have hsz := HB.out.size
    by_cases hlt : j < L.length
    · obtain ⟨g, rfl, hg, h0⟩ := ks_at HR0.out j hlt
      have h0' := (HB.out.cell (p := ⟨g, j, none⟩) hg).trans h0
      have hgr : g < wr.heap.size := by omega
      obtain ⟨k0, hg1, hst⟩ := HC.out j hlt
      obtain ⟨x, hx⟩ : ∃ x, x = L[j] := ⟨_, rfl⟩
      rw [← hx] at h0' k0 hst hg1
      clear hx h0
      obtain ⟨k, v⟩ := x
      dsimp only at h0' k0 hst hg1
      have HS := Lib.hid hst
      have HG := Lib.hid hg1
      have HMr := Lib.hid (HM1.out.below HB.out)
      clear hst hg1
      obtain ⟨A1, c1, rfl, _, _, _⟩ := rs_own HO.out
      have hjI : (j : Int) < (L.length : Int) := by omega
      have hj0 : (0 : Int) ≤ (j : Int) := by omega
      have hw1 : IntKind.i64.wrap ((j : Int) + 1) = (j : Int) + 1 := by simp only [IntKind.wrap_i64]; omega
      have HBa := Lib.hid (HB.out.alloc hsz (.cells #[.string k, .int .i64 v] 27))
      go_wp2_with (first
        | (at_lookup; refine wpList_getv rfl _ _ rfl b L rfl HMr.out k (by omega) rfl v HG.out ?_)
        | (at_builtin; refine wpList_append_agg rfl (.tmp 13) (.tmp 19) 22 rfl w1.heap.size 27 i0 _ 2 24 Try.underlying22 Hi0.out Hz0.out Hz1.out Hz2.out rfl (by decide) _ j _ rfl (World.ownsRow.alloc HO.out _) wr.heap.size 1 [.string k, .int .i64 v] 27 rfl (by simp [go_sem]) (Deep.blk_alloc_new wr _) (by simp [Value.oneCell']) (by omega) (by omega) (by simp <;> omega) ?_; intro v2 w2 hown2 hg2; obtain ⟨A2, c2, rfl, _, _, _⟩ := rs_own hown2; have HB2 := Lib.hid (below_grownk (B := w1.heap.size) (a := w1) HBa.out (World.ownsRow.alloc HO.out _) hg2 (Nat.le_refl _) (Nat.le_refl _)); have HO2 := Lib.hid hown2; clear hown2 hg2))
      go_roundw
      case rel => exact ⟨j + 1, by omega, by go_num, Lib.hid (by rw [HS.out]; exact HO2.out), HB2⟩
      case measure => simp [intOf] <;> omega
    · obtain rfl : j = L.length := by omega
      obtain ⟨A1, c1, rfl, _, _, _⟩ := rs_own HO.out
      have HOf : Hid (wr.ownsRow w.heap.size 27 2 (.slice A1 L.length c1) L.length (ctCells L)) := Lib.hid (by have := ownsRow_le HO.out hsz1; rwa [List.take_length] at this)
      go_wp2_with fail
      go_ret
      exact ⟨⟨_, rfl, HOf.out⟩, HB1.out.trans (HB.out.mono hsz1)⟩
/-- Is a number between two. -/
theorem between22_any (n a b : Int) (w : World) : Calls Try.prog 38 #[.int .i64 n, .int .i64 a, .int .i64 b] w fun e w' => e = .returned (.bool (decide (a ≤ n) && decide (n ≤ b))) ∧ w = w' := by
  go_enter Try.func38, Try.ntmps38
  by_cases h1 : a ≤ n
  · have d1 : decide (a ≤ n) = true := by simpa using h1
    go_wp2_with fail
    go_ret
    exact ⟨by simp [h1], rfl⟩
  · have d1 : decide (a ≤ n) = false := by simpa using h1
    go_wp2_with fail
    go_ret
    exact ⟨by simp, rfl⟩
end Go.Proofs.Ytnpjakgdfjaglaa
