/- The reference's Grow. -/
import Derived.Test.YtkjpficpkpfkdaaSh
namespace Go.Proofs.Ytkjpficpkpfkdaa
open Go.ChangeShapes Go.WideShapes Go.ChangeAt Go.RowKit Ts

def mk (f t : Int) (L : List Iv) (j : Nat) : List Iv := moved f t (L.take j)
theorem mk_succ (f t : Int) (L : List Iv) (j : Nat) (h : j < L.length) : mk f t L (j + 1) = mk f t L j ++ [(L[j].1 + f, L[j].2 + t)] := by
  unfold mk moved
  rw [take_snoc L j h, List.map_append]; rfl
theorem mk_all (f t : Int) (L : List Iv) : mk f t L L.length = moved f t L := by unfold mk; rw [List.take_length]
theorem mk_len (f t : Int) (L : List Iv) (j : Nat) (h : j ≤ L.length) : (mk f t L j).length = j := by
  unfold mk moved; rw [List.length_map, List.length_take]; omega
theorem moved_at (f t : Int) (L : List Iv) (j : Nat) (h : j < L.length) : (moved f t L)[j]'(by unfold moved; simpa using h) = (L[j].1 + f, L[j].2 + t) := by
  unfold moved; simp
set_option maxRecDepth 100000 in
set_option maxHeartbeats 2000000 in
theorem ref_grow {v : Value} {L : List Iv} (b a : Int) (hb1 : -5000000000000000 ≤ b ∧ b ≤ 5000000000000000) (ha1 : -5000000000000000 ≤ a ∧ a ≤ 5000000000000000) (hbd : Mod L) (hl : L.length ≤ 1000) (w : World) (hv : Sl w v L) :
    Calls Try.prog 44 #[v, .int .i64 b, .int .i64 a] w fun e w' => refN w' e (moved (-b) a L) ∧ Below w.heap.size w w' := by
  obtain ⟨i0, hi0, hz0, hz1, hz2⟩ := info_parts info_iv
  have Hi0 := Lib.hid hi0
  have Hz0 := Lib.hid hz0
  have Hz1 := Lib.hid hz1
  have Hz2 := Lib.hid hz2
  obtain ⟨A, c, rfl, _, _, _, hR⟩ := hv
  have HR := Lib.hid hR
  have HBd := Lib.hid hbd
  have HAll := Lib.hid (mk_all (-b) a L)
  clear hR hbd hi0 hz0 hz1 hz2
  go_enter Try.func44, Try.ntmps44
  go_wp2_with fail
  go_loopw [8, 9] (fun u iv wr => ∃ j : Nat, j ≤ L.length ∧ iv = .int .i64 (j : Int) ∧ Hid (∀ q (h : q < L.length), q < j → inR (L[q].1 + -b, L[q].2 + a) = true) ∧ Hid (wr.ownsRow w.heap.size 25 2 u j (ivCells (mk (-b) a L j))) ∧ Hid (Below w.heap.size w wr)) (fun _ iv _ => L.length - (intOf iv).toNat)
  case atStart => exact ⟨0, Nat.zero_le _, rfl, Lib.hid (fun q _ hq => absurd hq (by omega)), Lib.hid ⟨rfl, Or.inl ⟨rfl, rfl⟩⟩, Lib.hid (Below.refl _ _)⟩
  case round =>
    obtain ⟨j, hj, rfl, hall, HO, HB⟩ := hrel
    by_cases hlt : j < L.length
    · obtain ⟨g, off, rfl, hg, h0, h1⟩ := iv_at (HR.out.below HB.out) j hlt
      have hs := mk_succ (-b) a L j hlt
      have hbx := HBd.out _ (List.getElem_mem hlt)
      obtain ⟨x, hx⟩ : ∃ x, x = L[j] := ⟨_, rfl⟩
      rw [← hx] at h0 h1 hs hbx
      have HX := Lib.hid hx
      clear hx
      obtain ⟨x1, x2⟩ := x
      dsimp only at h0 h1 hs hbx
      have E := Lib.hid hs
      obtain ⟨y1, hy1⟩ : ∃ y, y = x1 + -b := ⟨_, rfl⟩
      obtain ⟨y2, hy2⟩ : ∃ y, x2 + a = y := ⟨_, rfl⟩
      have hsub : x1 - b = y1 := by omega
      have hjl : (j : Int) < (L.length : Int) := by omega
      have hj0 : (0 : Int) ≤ (j : Int) := by omega
      have hw1 : IntKind.i64.wrap ((j : Int) + 1) = (j : Int) + 1 := by simp only [IntKind.wrap_i64]; omega
      have hw2 : IntKind.i64.wrap y1 = y1 := by simp only [IntKind.wrap_i64]; omega
      have hw3 : IntKind.i64.wrap y2 = y2 := by simp only [IntKind.wrap_i64]; omega
      have hgr : g < wr.heap.size := by have := HB.out.size; omega
      have HY1 := Lib.hid hy1
      have HY2 := Lib.hid hy2
      have Hwi := Lib.hid (wi_in (y1, y2))
      obtain ⟨p, hp⟩ : ∃ p, p = wi y1 := ⟨_, rfl⟩
      obtain ⟨q, hq⟩ : ∃ q, q = wi y2 := ⟨_, rfl⟩
      have H1 : Hid (∀ W : World, Calls Try.prog 48 #[.int .i64 y1] W fun e w' => e = .returned (.bool p) ∧ w' = W) := Lib.hid (fun W => by rw [hp]; exact within_any y1 W)
      have H2 : Hid (∀ W : World, Calls Try.prog 48 #[.int .i64 y2] W fun e w' => e = .returned (.bool q) ∧ w' = W) := Lib.hid (fun W => by rw [hq]; exact within_any y2 W)
      dsimp only at Hwi
      rw [← hp, ← hq] at Hwi
      clear hp hq hs hbx hy1
      go_wp2_with fail
      go_region
      go_wp2_with fail
      refine (H1.out _).mono ?_
      rintro e w1 ⟨rfl, rfl⟩
      have HB1 := Lib.hid (Below.drew (HB.out.alloc HB.out.size (.cells #[.int .i64 y1, .int .i64 y2] 25)))
      cases p with
      | false =>
        have HF := Lib.hid (allIn_false (L := moved (-b) a L) (q := j) (by unfold moved; simpa using hlt) (by rw [moved_at (-b) a L j hlt, ← HX.out]; dsimp only; rw [← HY1.out, HY2.out, Hwi.out]; rfl))
        go_wp2_with fail
        go_ret2
        exact ⟨.inr ⟨HF.out, rfl⟩, HB1.out⟩
      | true =>
        go_wp2_with fail
        refine (H2.out _).mono ?_
        rintro e w1 ⟨rfl, rfl⟩
        cases q with
        | false =>
          have HF := Lib.hid (allIn_false (L := moved (-b) a L) (q := j) (by unfold moved; simpa using hlt) (by rw [moved_at (-b) a L j hlt, ← HX.out]; dsimp only; rw [← HY1.out, HY2.out, Hwi.out]; rfl))
          go_wp2_with fail
          go_ret2
          exact ⟨.inr ⟨HF.out, rfl⟩, HB1.out⟩
        | true =>
          go_wp2_with (at_builtin; refine wpList_append_agg rfl (.tmp 42) (.tmp 44) 22 rfl w.heap.size 25 i0 _ 2 16 Try.underlying22 Hi0.out Hz0.out Hz1.out Hz2.out rfl (by decide) _ j _ rfl (World.ownsRow.alloc (World.ownsRow.drew (World.ownsRow.alloc HO.out _)) _) (wr.heap.size + 1) 1 [.int .i64 y1, .int .i64 y2] 25 rfl (by simp [go_sem]) (blk_over wr _ _) (by simp [Value.oneCell']) (by omega) (by omega) (by have := HB.out.size; simp; omega) ?_; intro v4 w4 hown4 hg4; have HO4 := Lib.hid hown4; have HB4 := Lib.hid (below_grownk (B := w.heap.size) (a := w) (Below.alloc HB1.out (by have := HB.out.size; simp; omega) _) (World.ownsRow.alloc (World.ownsRow.drew (World.ownsRow.alloc HO.out _)) _) hg4 (Nat.le_refl _) (Nat.le_refl _)); clear hown4 hg4)
          go_roundw
          case rel =>
            refine ⟨j + 1, by omega, by go_num, Lib.hid (fun q hq hqj => ?_), Lib.hid (by rw [E.out, iv_snoc, ← HY1.out, HY2.out]; exact HO4.out), HB4⟩
            by_cases e : q = j
            · subst e; rw [← HX.out]; dsimp only; rw [← HY1.out, HY2.out, Hwi.out]; rfl
            · exact hall.out q hq (by omega)
          case measure => simp [intOf] <;> omega
    · obtain rfl : j = L.length := by omega
      rw [HAll.out] at HO
      have HT := Lib.hid (allIn_true (L := moved (-b) a L) (fun q hq => by
        have hq' : q < L.length := by unfold moved at hq; simpa using hq
        rw [moved_at (-b) a L q hq']; exact hall.out q hq' hq'))
      have hml : (moved (-b) a L).length = L.length := by unfold moved; simp
      obtain ⟨M, hM⟩ : ∃ M, M = moved (-b) a L := ⟨_, rfl⟩
      have HM := Lib.hid hM
      rw [← hM] at HO HT hml
      rw [← hml] at HO
      obtain ⟨B, d, rfl, _, _, _, hRB⟩ := sl_own HO.out
      have Hof := Lib.hid (ref_of B d M (by omega) wr hRB)
      clear hM hRB hml
      go_wp2_with fail
      refine Hof.out.mono ?_
      rintro e w2 ⟨⟨r, rfl, hown⟩, hb⟩
      have HO2 := Lib.hid hown
      have HB2 := Lib.hid (HB.out.trans (hb.mono HB.out.size))
      clear hown hb
      go_wp2_with fail
      go_ret2
      rw [← HM.out]
      exact ⟨.inl ⟨HT.out, _, rfl, sl_own HO2.out⟩, HB2.out⟩
end Go.Proofs.Ytkjpficpkpfkdaa
