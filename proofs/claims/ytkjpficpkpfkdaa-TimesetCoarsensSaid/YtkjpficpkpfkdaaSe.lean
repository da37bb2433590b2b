/- The law's Set. -/
import Derived.Test.YtkjpficpkpfkdaaOf
namespace Go.Proofs.Ytkjpficpkpfkdaa
open Go.ChangeShapes Go.WideShapes Go.ChangeAt Go.RowKit Ts

/-- A span of the law's: its beginning, its length. -/
def spC (x : Int × Int) : List Value := [.int .i16 x.1, .int .u8 x.2]
def spCells (L : List (Int × Int)) : List Value := L.flatMap spC
def spIv (x : Int × Int) : Iv := (x.1.tmod 200, x.1.tmod 200 + x.2 % 40)
def SpOk (x : Int × Int) : Prop := -32768 ≤ x.1 ∧ x.1 ≤ 32767 ∧ 0 ≤ x.2 ∧ x.2 ≤ 255
/-- The set of some spans. -/
def stL (L : List (Int × Int)) : List Iv := ofL ((L.take 10).map spIv)
theorem sp_at {w : World} {B : Nat} {A : Option Addr} {L : List (Int × Int)} (h : Rs w B A (spCells L)) (j : Nat) (hj : j < L.length) : ∃ b off, A = some ⟨b, off, none⟩ ∧ b < B ∧ w.cell? ⟨b, off + j * 2, none⟩ = some (.int .i16 L[j].1) ∧ w.cell? ⟨b, off + j * 2 + 1, none⟩ = some (.int .u8 L[j].2) := by
  obtain ⟨b, off, e, hb, hc⟩ := rows_at (C := spC) (k := 2) (by decide) (fun _ => rfl) h j hj
  exact ⟨b, off, e, hb, hc 0 (by decide), hc 1 (by decide)⟩
theorem stL_nrm (L : List (Int × Int)) : Nrm (stL L) := (ofL_spec _).1
/-- The bounds of a normal list are bounds of the intervals that it is made of. -/
theorem jn_bd {lo hi : Int} {L : List Iv} {x : Iv} (hL : ∀ y ∈ L, lo ≤ y.1 ∧ y.2 ≤ hi) (hx : lo ≤ x.1 ∧ x.2 ≤ hi) : ∀ y ∈ jn L x, lo ≤ y.1 ∧ y.2 ≤ hi := by
  rcases List.eq_nil_or_concat L with rfl | ⟨K, z, rfl⟩
  · rw [jn_nil]; intro y hy; rw [List.mem_singleton.1 hy]; exact hx
  · rw [List.concat_eq_append] at hL ⊢
    have hz := hL z (List.mem_append_right _ (List.mem_singleton.2 rfl))
    by_cases h : z.2 < x.1
    · rw [jn_far K z x h]
      intro y hy
      rcases List.mem_append.1 hy with hy | hy
      · exact hL y hy
      · rw [List.mem_singleton.1 hy]; exact hx
    · rw [jn_near K z x h]
      intro y hy
      rcases List.mem_append.1 hy with hy | hy
      · exact hL y (List.mem_append_left _ hy)
      · rw [List.mem_singleton.1 hy]; dsimp only; omega
theorem ofL_bd {lo hi : Int} {L : List Iv} (hL : ∀ y ∈ L, lo ≤ y.1 ∧ y.2 ≤ hi) : ∀ y ∈ ofL L, lo ≤ y.1 ∧ y.2 ≤ hi := by
  have : ∀ (S A : List Iv), (∀ y ∈ S, lo ≤ y.1 ∧ y.2 ≤ hi) → (∀ y ∈ A, lo ≤ y.1 ∧ y.2 ≤ hi) → ∀ y ∈ S.foldl jn A, lo ≤ y.1 ∧ y.2 ≤ hi := by
    intro S
    induction S with
    | nil => intro A _ h; exact h
    | cons x S ih => intro A h1 h2; exact ih _ (fun y hy => h1 y (List.mem_cons_of_mem _ hy)) (jn_bd h2 (h1 x (List.mem_cons_self ..)))
  exact this _ _ (fun y hy => hL y ((srt_spec L).2 y |>.1 hy).1) (fun y hy => absurd hy (by simp))
theorem ofL_len (L : List Iv) : (ofL L).length ≤ L.length := by
  rw [← jk_all]
  have := jk_len (srt L) (srt L).length (Nat.le_refl _)
  have := srt_len L
  omega
theorem stL_len (L : List (Int × Int)) : (stL L).length ≤ 10 := by
  have := ofL_len ((L.take 10).map spIv)
  rw [List.length_map, List.length_take] at this
  unfold stL; omega
theorem stL_bd (L : List (Int × Int)) (hL : ∀ x ∈ L, SpOk x) : ∀ y ∈ stL L, -200 ≤ y.1 ∧ y.1 < y.2 ∧ y.2 ≤ 300 := by
  have h := ofL_bd (lo := -200) (hi := 300) (L := (L.take 10).map spIv) (fun y hy => by
    obtain ⟨x, hx, rfl⟩ := List.mem_map.1 hy
    obtain ⟨a, b, c, d⟩ := hL x (List.mem_of_mem_take hx)
    have e1 := Int.tmod_lt_of_pos x.1 (show (0 : Int) < 200 by decide)
    have e2 := Int.lt_tmod_of_pos x.1 (show (0 : Int) < 200 by decide)
    unfold spIv
    dsimp only
    omega)
  intro y hy
  exact ⟨(h y hy).1, (stL_nrm L).1 y hy, (h y hy).2⟩
def spk (L : List (Int × Int)) (j : Nat) : List Iv := (L.take j).map spIv
theorem spk_succ (L : List (Int × Int)) (j : Nat) (h : j < L.length) : spk L (j + 1) = spk L j ++ [spIv L[j]] := by
  unfold spk
  rw [take_snoc L j h, List.map_append]; rfl
theorem spk_len (L : List (Int × Int)) (j : Nat) (h : j ≤ L.length) : (spk L j).length = j := by
  unfold spk
  rw [List.length_map, List.length_take]; omega
set_option maxRecDepth 100000 in
set_option maxHeartbeats 2000000 in
theorem set_any (A : Option Addr) (c : Nat) (L : List (Int × Int)) (hl : L.length ≤ 9223372036854775807) (hOk : ∀ x ∈ L, SpOk x) (w : World) (hR : Rs w w.heap.size A (spCells L)) :
    Calls Try.prog 19 #[.slice A L.length c] w fun e w' => (∃ v, e = .returned v ∧ w'.ownsRow w.heap.size 25 2 v (stL L).length (ivCells (stL L))) ∧ Below w.heap.size w w' := by
  obtain ⟨i0, hi0, hz0, hz1, hz2⟩ := info_parts info_iv
  have Hi0 := Lib.hid hi0
  have Hz0 := Lib.hid hz0
  have Hz1 := Lib.hid hz1
  have Hz2 := Lib.hid hz2
  have HR := Lib.hid hR
  have HOk := Lib.hid hOk
  clear hi0 hz0 hz1 hz2 hR hOk
  go_enter Try.func19, Try.ntmps19
  go_wp2_with fail
  go_loopw [3, 4] (fun u iv wr => ∃ j : Nat, j ≤ L.length ∧ j ≤ 10 ∧ iv = .int .i64 (j : Int) ∧ Hid (wr.ownsRow w.heap.size 25 2 u j (ivCells (spk L j))) ∧ Hid (Below w.heap.size w wr)) (fun _ iv _ => 10 - (intOf iv).toNat)
  case atStart => exact ⟨0, Nat.zero_le _, Nat.zero_le _, rfl, Lib.hid ⟨rfl, Or.inl ⟨rfl, rfl⟩⟩, Lib.hid (Below.refl _ _)⟩
  case round =>
    obtain ⟨j, hj, hj10, rfl, HO, HB⟩ := hrel
    by_cases hlt : j < L.length ∧ j < 10
    · obtain ⟨b, off, rfl, hb, h0, h1⟩ := sp_at (HR.out.below HB.out) j hlt.1
      have hs := spk_succ L j hlt.1
      have hok := HOk.out _ (List.getElem_mem hlt.1)
      obtain ⟨x, hx⟩ : ∃ x, x = L[j] := ⟨_, rfl⟩
      rw [← hx] at h0 h1 hs hok
      clear hx
      obtain ⟨x1, x2⟩ := x
      have HS := Lib.hid hs
      clear hs
      obtain ⟨k1, k2, k3, k4⟩ := hok
      dsimp only at h0 h1 k1 k2 k3 k4
      have hjl : (j : Int) < (L.length : Int) := by omega
      have hj0 : (0 : Int) ≤ (j : Int) := by omega
      have hjt : (j : Int) < 10 := by omega
      have hbr : b < wr.heap.size := by have := HB.out.size; omega
      obtain ⟨p, hp⟩ : ∃ p, x1.tmod 200 = p := ⟨_, rfl⟩
      obtain ⟨q, hq⟩ : ∃ q, x2.tmod 40 = q := ⟨_, rfl⟩
      have hp1 : -200 < p ∧ p < 200 := by
        have e1 := Int.tmod_lt_of_pos x1 (show (0 : Int) < 200 by decide)
        have e2 := Int.lt_tmod_of_pos x1 (show (0 : Int) < 200 by decide)
        omega
      have hq1 : q = x2 % 40 := by rw [← hq, Int.tmod_eq_emod_of_nonneg k3]
      have HS2 := Lib.hid (show spIv (x1, x2) = (p, p + q) by rw [hq1, ← hp]; rfl)
      have hq2 : 0 ≤ q ∧ q < 40 := by omega
      have hw1 : IntKind.i64.wrap p = p := by simp only [IntKind.wrap_i64]; omega
      have hw2 : IntKind.i64.wrap q = q := by simp only [IntKind.wrap_i64]; omega
      have hw3 : IntKind.i64.wrap (p + q) = p + q := by simp only [IntKind.wrap_i64]; omega
      clear hq1 k1 k2 k3 k4
      go_wp2_with fail
      go_region_law (refine step_append_sized rfl (.tmp 15) (.tmp 39) 22 rfl w.heap.size 25 i0 _ 2 16 Try.underlying22 Hi0.out Hz0.out Hz1.out Hz2.out rfl (by decide) u3 j (ivCells (spk L j)) (by simp [Act.eval]) (World.ownsRow.alloc HO.out _) (some ⟨wr.heap.size, 0, none⟩) 1 1 (by simp [Act.eval]) [.int .i64 p, .int .i64 (p + q)] rfl (fun h => by cases h) (cells_two (Deep.blk_alloc_new wr _)) (by simp [Value.oneCell']) (by omega) (by omega) (by have := HB.out.size; simp; omega) ?_; intro v3 w4 hown3 hg3; have HB3 := Lib.hid (below_grownk (B := w.heap.size) (a := w) (Below.drew (Below.alloc HB.out HB.out.size _)) (World.ownsRow.alloc HO.out _) hg3 (Nat.le_refl _) (Nat.le_refl _)); have HO3 := Lib.hid hown3; clear hown3 hg3)
      all_goals
        go_wp2_with fail
        go_roundw
        case rel => exact ⟨j + 1, by omega, by omega, by go_num, Lib.hid (by rw [HS.out, HS2.out, iv_snoc]; exact HO3.out), HB3⟩
        case measure => simp [intOf]; omega
    · have e : (L.take 10).map spIv = spk L j := by
        unfold spk
        rcases Nat.lt_or_ge j 10 with h | h
        · obtain rfl : j = L.length := by omega
          rw [List.take_of_length_le (show L.length ≤ 10 by omega), List.take_of_length_le (Nat.le_refl _)]
        · obtain rfl : j = 10 := by omega
          rfl
      have HE : Hid (stL L = ofL (spk L j)) := Lib.hid (by unfold stL; rw [e])
      have hsl := spk_len L j hj
      obtain ⟨A', c', rfl, _, hRs, _⟩ := rs_own HO.out
      have Hc := Lib.hid (ref_of A' c' (spk L j) (by omega) wr hRs)
      rw [hsl] at Hc
      clear e hRs
      by_cases hlj : j < L.length
      · obtain rfl : j = 10 := by omega
        have hlj2 : (10 : Int) < (L.length : Int) := by omega
        clear hlt
        go_wp2_with fail
        refine Hc.out.mono ?_
        rintro e w2 ⟨⟨v, rfl, hown⟩, hb⟩
        have HO2 := Lib.hid hown
        have HB2 := Lib.hid (HB.out.trans (hb.mono HB.out.size))
        clear hb hown
        go_wp2_with fail
        go_ret
        rw [HE.out]
        exact ⟨⟨_, rfl, own_base HO2.out HB.out.size⟩, HB2.out⟩
      · obtain rfl : j = L.length := by omega
        clear hlt
        go_wp2_with fail
        refine Hc.out.mono ?_
        rintro e w2 ⟨⟨v, rfl, hown⟩, hb⟩
        have HO2 := Lib.hid hown
        have HB2 := Lib.hid (HB.out.trans (hb.mono HB.out.size))
        clear hb hown
        go_wp2_with fail
        go_ret
        rw [HE.out]
        exact ⟨⟨_, rfl, own_base HO2.out HB.out.size⟩, HB2.out⟩
end Go.Proofs.Ytkjpficpkpfkdaa
