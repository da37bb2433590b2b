/- Range; the law's runs. -/
import Derived.Test.YtacgomhegjilgaaBc
namespace Go.Proofs.Ytacgomhegjilgaa
open Go.ChangeShapes Go.WideShapes Go.ChangeAt Go.RowKit Ts

theorem rs_blk {w : World} {X : Nat} {cs : List Value} {e : TypeId} (h : w.heap[X]? = some (.cells cs.toArray e (0, 0))) : Rs w w.heap.size (some ⟨X, 0, none⟩) cs := fun j hj =>
  ⟨X, 0, rfl, (Array.getElem?_eq_some_iff.1 h).1, by rw [Nat.zero_add, cell_of_row w X j _ _ _ h]; simp [hj]⟩
theorem sl_blk {w : World} {X : Nat} {L : List Iv} {e : TypeId} (hl : L.length ≤ 1000) (h : w.heap[X]? = some (.cells (ivCells L).toArray e (0, 0))) : Sl w (.slice (some ⟨X, 0, none⟩) L.length L.length) L :=
  ⟨_, _, rfl, Nat.le_refl _, by omega, (fun e => by cases e), rs_blk h⟩
/-- What Range returns: a code and runs. -/
def rgE (a b : Int) : Int := if a < 0 ∨ 1048576 < a ∨ b < 0 ∨ 1048576 < b then 2 else 0
def rgV (a b : Int) : List Iv := if a < 0 ∨ 1048576 < a ∨ b < 0 ∨ 1048576 < b then [] else if b ≤ a then [] else [(a, b - 1)]
theorem rg_bad {a b : Int} (h : a < 0 ∨ 1048576 < a ∨ b < 0 ∨ 1048576 < b) : rgE a b = 2 ∧ rgV a b = [] := by
  unfold rgE rgV; rw [if_pos h, if_pos h]; exact ⟨rfl, rfl⟩
theorem rg_none {a b : Int} (h : ¬ (a < 0 ∨ 1048576 < a ∨ b < 0 ∨ 1048576 < b)) (h2 : b ≤ a) : rgE a b = 0 ∧ rgV a b = [] := by
  unfold rgE rgV; rw [if_neg h, if_neg h, if_pos h2]; exact ⟨rfl, rfl⟩
theorem rg_one {a b : Int} (h : ¬ (a < 0 ∨ 1048576 < a ∨ b < 0 ∨ 1048576 < b)) (h2 : a < b) : rgE a b = 0 ∧ rgV a b = [(a, b - 1)] := by
  unfold rgE rgV; rw [if_neg h, if_neg h, if_neg (by omega)]; exact ⟨rfl, rfl⟩
/-- What a call that returns a set and an error leaves. -/
def OutB (w : World) (e : Ending) (L : List Iv) (E : Int) : Prop := ∃ r, e = .returned (.tuple #[.agg #[r], .int .i64 E]) ∧ Sl w r L
set_option maxRecDepth 100000 in
set_option maxHeartbeats 2000000 in
theorem range_any (a b : Int) (w : World) :
    Calls Try.prog 25 #[.int .i64 a, .int .i64 b] w fun e w' => OutB w' e (rgV a b) (rgE a b) ∧ Below w.heap.size w w' := by
  obtain ⟨V, hV⟩ : ∃ V, V = rgV a b := ⟨_, rfl⟩
  obtain ⟨E, hE⟩ : ∃ E, E = rgE a b := ⟨_, rfl⟩
  rw [← hV, ← hE]
  have HV := Lib.hid hV
  have HE := Lib.hid hE
  clear hV hE
  by_cases h1 : a < 0
  · have HH := Lib.hid (rg_bad (a := a) (b := b) (by omega))
    go_enter Try.func25, Try.ntmps25
    go_wp2_with fail
    (try simp only [Exit.inBlock, Exit.then])
    refine bodyPost_ret (v := .tuple #[.agg #[.slice none 0 0], .int .i64 2]) ?_ rfl ⟨?_, ?_⟩
    · rw [results_cell_tmp1 rfl]; go_simp <;> rfl
    · rw [HV.out, HE.out, HH.out.1, HH.out.2]; exact ⟨_, rfl, sl_zero _⟩
    · (repeat' (first | exact Below.refl _ _ | refine Below.drew ?_ | refine Below.setCell ?_ (by simp <;> omega) _ | refine Below.alloc ?_ (by simp <;> omega) _))
  · by_cases h2 : 1048576 < a
    · have HH := Lib.hid (rg_bad (a := a) (b := b) (by omega))
      go_enter Try.func25, Try.ntmps25
      go_wp2_with fail
      (try simp only [Exit.inBlock, Exit.then])
      refine bodyPost_ret (v := .tuple #[.agg #[.slice none 0 0], .int .i64 2]) ?_ rfl ⟨?_, ?_⟩
      · rw [results_cell_tmp1 rfl]; go_simp <;> rfl
      · rw [HV.out, HE.out, HH.out.1, HH.out.2]; exact ⟨_, rfl, sl_zero _⟩
      · (repeat' (first | exact Below.refl _ _ | refine Below.drew ?_ | refine Below.setCell ?_ (by simp <;> omega) _ | refine Below.alloc ?_ (by simp <;> omega) _))
    · by_cases h3 : b < 0
      · have HH := Lib.hid (rg_bad (a := a) (b := b) (by omega))
        go_enter Try.func25, Try.ntmps25
        go_wp2_with fail
        (try simp only [Exit.inBlock, Exit.then])
        refine bodyPost_ret (v := .tuple #[.agg #[.slice none 0 0], .int .i64 2]) ?_ rfl ⟨?_, ?_⟩
        · rw [results_cell_tmp1 rfl]; go_simp <;> rfl
        · rw [HV.out, HE.out, HH.out.1, HH.out.2]; exact ⟨_, rfl, sl_zero _⟩
        · (repeat' (first | exact Below.refl _ _ | refine Below.drew ?_ | refine Below.setCell ?_ (by simp <;> omega) _ | refine Below.alloc ?_ (by simp <;> omega) _))
      · by_cases h4 : 1048576 < b
        · have HH := Lib.hid (rg_bad (a := a) (b := b) (by omega))
          go_enter Try.func25, Try.ntmps25
          go_wp2_with fail
          (try simp only [Exit.inBlock, Exit.then])
          refine bodyPost_ret (v := .tuple #[.agg #[.slice none 0 0], .int .i64 2]) ?_ rfl ⟨?_, ?_⟩
          · rw [results_cell_tmp1 rfl]; go_simp <;> rfl
          · rw [HV.out, HE.out, HH.out.1, HH.out.2]; exact ⟨_, rfl, sl_zero _⟩
          · (repeat' (first | exact Below.refl _ _ | refine Below.drew ?_ | refine Below.setCell ?_ (by simp <;> omega) _ | refine Below.alloc ?_ (by simp <;> omega) _))
        · have hn : ¬ (a < 0 ∨ 1048576 < a ∨ b < 0 ∨ 1048576 < b) := by omega
          by_cases h5 : b ≤ a
          · have HH := Lib.hid (rg_none hn h5)
            go_enter Try.func25, Try.ntmps25
            go_wp2_with fail
            (try simp only [Exit.inBlock, Exit.then])
            refine bodyPost_ret (v := .tuple #[.agg #[.slice none 0 0], .int .i64 0]) ?_ rfl ⟨?_, ?_⟩
            · rw [results_cell_tmp1 rfl]; go_simp <;> rfl
            · rw [HV.out, HE.out, HH.out.1, HH.out.2]; exact ⟨_, rfl, sl_zero _⟩
            · (repeat' (first | exact Below.refl _ _ | refine Below.drew ?_ | refine Below.setCell ?_ (by simp <;> omega) _ | refine Below.alloc ?_ (by simp <;> omega) _))
          · have HH := Lib.hid (rg_one hn (by omega))
            have hw1 : IntKind.i64.wrap (b - 1) = b - 1 := by simp only [IntKind.wrap_i64]; omega
            clear hn
            go_enter Try.func25, Try.ntmps25
            go_wp2_with fail
            (try simp only [Exit.inBlock, Exit.then])
            refine bodyPost_ret (v := .tuple #[.agg #[.slice (some ⟨w.heap.size + 1, 0, none⟩) 1 1], .int .i64 0]) ?_ rfl ⟨?_, ?_⟩
            · rw [results_cell_tmp1 rfl]; go_simp <;> rfl
            · rw [HV.out, HE.out, HH.out.1, HH.out.2]
              exact ⟨_, rfl, sl_blk (L := [(a, b - 1)]) (by simp) (blk_over w _ _)⟩
            · (repeat' (first | exact Below.refl _ _ | refine Below.drew ?_ | refine Below.setCell ?_ (by simp <;> omega) _ | refine Below.alloc ?_ (by simp <;> omega) _))
set_option maxRecDepth 100000 in
set_option maxHeartbeats 2000000 in
/-- The law's runs: whether a set has these runs. -/
theorem law_runs {v : Value} {L : List Iv} (hl : L.length ≤ 90000) (A : Option Addr) (c : Nat) (M : List Iv) (hm : M.length ≤ 90000) (w : World) (hv : Sl w v L) (hM : Rs w w.heap.size A (ivCells M)) :
    Calls Try.prog 20 #[.agg #[v], .slice A M.length c] w fun e w' => e = .returned (.bool (decide (L = M))) ∧ Below w.heap.size w w' := by
  obtain ⟨F, hF⟩ : ∃ F, F = decide (L = M) := ⟨_, rfl⟩
  rw [← hF]
  have HF := Lib.hid hF
  clear hF
  have hA0 : Below w.heap.size w (w.alloc (.cells #[v] 26)) := (Below.refl _ _).alloc (Nat.le_refl _) _
  have H := Lib.hid (runs_any hl _ (hv.below hA0))
  have HB0 := Lib.hid hA0
  have HM := Lib.hid hM
  clear hv hM hA0
  go_enter Try.func20, Try.ntmps20
  go_wp2_with fail
  refine H.out.mono ?_
  rintro e w1 ⟨⟨r, rfl, hown⟩, hb⟩
  have HB1 := Lib.hid (HB0.out.trans (hb.mono HB0.out.size))
  obtain ⟨B, d, rfl, _, hRB, _⟩ := rs_own hown
  have HL := Lib.hid hRB
  have HM1 := Lib.hid ((HM.out.below HB1.out).more HB1.out.size)
  clear hown hb hRB
  by_cases hlen : L.length = M.length
  · have hlenI : (L.length : Int) = (M.length : Int) := by omega
    go_wp2_with fail
    go_loopw [6] (fun iv wr => ∃ j : Nat, j ≤ M.length ∧ iv = .int .i64 (j : Int) ∧ Hid (∀ q (h : q < L.length) (h' : q < M.length), q < j → L[q] = M[q]) ∧ Hid (Below w1.heap.size w1 wr)) (fun iv _ => M.length - (intOf iv).toNat)
    case atStart => exact ⟨0, Nat.zero_le _, rfl, Lib.hid (fun q _ _ hq => absurd hq (by omega)), Lib.hid (Below.refl _ _)⟩
    case round =>
      obtain ⟨j, hj, rfl, hall, HB⟩ := hrel
      by_cases hlt : j < M.length
      · have hlt2 : j < L.length := by omega
        obtain ⟨b, off, rfl, hb, h0, h1⟩ := iv_at (HL.out.below HB.out) j hlt2
        obtain ⟨b', off', rfl, hb', g0, g1⟩ := iv_at (HM1.out.below HB.out) j hlt
        have hjI : (j : Int) < (M.length : Int) := by omega
        have hj0 : (0 : Int) ≤ (j : Int) := by omega
        have hw1 : IntKind.i64.wrap ((j : Int) + 1) = (j : Int) + 1 := by simp only [IntKind.wrap_i64]; omega
        have hbr : b < wr.heap.size := by have := HB.out.size; omega
        have hbr' : b' < wr.heap.size := by have := HB.out.size; omega
        obtain ⟨x, hx⟩ : ∃ x, x = L[j] := ⟨_, rfl⟩
        obtain ⟨y, hy⟩ : ∃ y, y = M[j] := ⟨_, rfl⟩
        rw [← hx] at h0 h1
        rw [← hy] at g0 g1
        have HX := Lib.hid hx
        have HY := Lib.hid hy
        clear hx hy
        obtain ⟨x1, x2⟩ := x
        obtain ⟨y1, y2⟩ := y
        dsimp only at h0 h1 g0 g1
        by_cases he : x1 = y1 ∧ x2 = y2
        · obtain ⟨rfl, rfl⟩ := he
          go_wp2_with fail
          go_region
          all_goals
            go_wp2_with fail
            go_roundw
            case rel =>
              refine ⟨j + 1, by omega, by go_num, Lib.hid (fun q hq hq' hqj => ?_), Lib.hid (Below.drew HB.out)⟩
              by_cases e : q = j
              · subst e; rw [← HX.out, ← HY.out]
              · exact hall.out q hq hq' (by omega)
            case measure => simp [intOf] <;> omega
        · have HT : Hid (F = false) := Lib.hid (by
            rw [HF.out]
            refine decide_eq_false (fun h => he ?_)
            have e : L[j] = M[j] := by subst h; rfl
            rw [← HX.out, ← HY.out] at e
            exact ⟨congrArg Prod.fst e, congrArg Prod.snd e⟩)
          by_cases h1e : x1 = y1
          · have h2e : ¬ x2 = y2 := fun h => he ⟨h1e, h⟩
            go_wp2_with fail
            go_region
            all_goals
              go_wp2_with fail
              go_ret
              rw [HT.out]
              exact ⟨rfl, HB1.out.trans ((Below.drew HB.out).mono HB1.out.size)⟩
          · go_wp2_with fail
            go_region
            all_goals
              go_wp2_with fail
              go_ret
              rw [HT.out]
              exact ⟨rfl, HB1.out.trans ((Below.drew HB.out).mono HB1.out.size)⟩
      · have HT : Hid (F = true) := Lib.hid (by
          rw [HF.out]
          exact decide_eq_true (List.ext_getElem hlen (fun q h1 h2 => hall.out q h1 h2 (by omega))))
        obtain rfl : j = M.length := by omega
        go_wp2_with fail
        go_ret
        rw [HT.out]
        exact ⟨rfl, HB1.out.trans (HB.out.mono HB1.out.size)⟩
  · have HT : Hid (F = false) := Lib.hid (by rw [HF.out]; exact decide_eq_false (fun h => hlen (by rw [h])))
    have hnm : ¬ (L.length : Int) = (M.length : Int) := by omega
    go_wp2_with fail
    go_ret
    rw [HT.out]
    exact ⟨rfl, HB1.out⟩
end Go.Proofs.Ytacgomhegjilgaa
