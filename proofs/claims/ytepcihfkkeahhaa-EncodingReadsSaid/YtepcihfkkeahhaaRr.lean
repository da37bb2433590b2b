/- The reference's Reader: ReadNumber, ReadBool, sized, ReadText, ReadCount. -/
import Derived.Test.YtepcihfkkeahhaaNm
namespace Go.Proofs.Ytepcihfkkeahhaa
open Go.ChangeShapes Go.WideShapes Go.ChangeAt Go.RowKit En

/-- The reference's Reader in block b. -/
def RR (w : World) (b : Nat) (s : ByteArray) (st : St) : Prop :=
  w.heap[b]? = some (.cells #[.string s, .int .i64 (st.1 : Int), .int .i64 st.2] 37 (0, 0)) ∧ st.1 ≤ s.size
abbrev qb (b : Nat) : Option Addr := some ⟨b, 0, none⟩
theorem RR.lt {w : World} {b : Nat} {s : ByteArray} {st : St} (h : RR w b s st) : b < w.heap.size := (Array.getElem?_eq_some_iff.1 h.1).1
theorem RR.below {w w' : World} {b : Nat} {s : ByteArray} {st : St} (h : RR w b s st) (hb : Below w.heap.size w w') : RR w' b s st := ⟨(hb.block b h.lt).trans h.1, h.2⟩
theorem gq_put {w wg : World} (h : Below w.heap.size w wg) (b o : Nat) (v : Value) : Gq w (wg.setCell ⟨b, o, none⟩ v) (qb b) := put_below h b o v
theorem gq_more {w w' : World} {b : Nat} (h : Gq w w' (qb b)) (o : Nat) (v : Value) : Gq w (w'.setCell ⟨b, o, none⟩ v) (qb b) :=
  ⟨h.os, h.tape, h.output, by have := h.size; simp [World.setCell]; omega, fun i hi hne => by
    rw [Deep.blk_setCell_other _ _ _ _ (show i ≠ b from fun e => hne (by rw [e]; rfl))]; exact h.block i hi hne⟩
theorem rdG_zero {α : Type} (z : α) (f : List UInt8 → α × Int × Int) (s : ByteArray) (st : St) (h : (rdG z f s st).2.2 ≠ 0) : (rdG z f s st).1 = z := by
  unfold rdG at h ⊢
  by_cases h0 : st.2 = 0
  · rw [if_pos h0] at h ⊢
    by_cases h1 : (f (s.data.toList.drop st.1)).2.2 = 0
    · rw [if_pos h1] at h; exact absurd rfl h
    · rw [if_neg h1]
  · rw [if_neg h0]
theorem ref_num_any (s : ByteArray) (p : Nat) (er : Int) (hs : s.size ≤ 1000000) (hp : p ≤ s.size) (w : World) :
    Calls Try.prog 109 #[.agg #[.string s, .int .i64 (p : Int), .int .i64 er]] w fun e w' => e = .returned (.tuple #[.int .i64 (numAt s p).1, .int .i64 (numAt s p).2.1, .int .i64 (numAt s p).2.2]) ∧ Below w.heap.size w w' := by
  by_cases h0 : p < s.size
  · by_cases hn : s[p].toNat < 128
    · exact num_neg s p er hs h0 hn w
    · exact num_pos s p er hs h0 hn w
  · exact num_out s p er hs hp h0 w
set_option maxRecDepth 100000 in
theorem rr_number (b : Nat) (s : ByteArray) (st : St) (hs : s.size ≤ 1000000) (w : World) (h : RR w b s st) :
    Calls Try.prog 56 #[.pointer (qb b)] w fun e w' => e = .returned (.int .i64 (rdG 0 scan s st).1) ∧ RR w' b s (rdG 0 scan s st).2 ∧ Gq w w' (qb b) := by
  obtain ⟨p, er⟩ := st
  have hp : p ≤ s.size := h.2
  have hnum := ref_num_any s p er hs hp w
  have c0 := cell_of_row w b 0 _ _ _ h.1
  have c1 := cell_of_row w b 1 _ _ _ h.1
  have c2 := cell_of_row w b 2 _ _ _ h.1
  have H := Lib.hid h
  have hlt := h.lt
  have hsz := scan_sized (s.data.toList.drop p)
  clear h
  by_cases h0 : er = 0
  · subst h0
    obtain ⟨x, hx⟩ : ∃ x, x = scan (s.data.toList.drop p) := ⟨_, rfl⟩
    have e0 : rdG 0 scan s (p, 0) = if x.2.2 = 0 then (x.1, (p + x.2.1.toNat, 0)) else (0, (p, x.2.2)) := by rw [hx]; rfl
    have e1 : numAt s p = if x.2.2 = 0 then (x.1, (p : Int) + x.2.1, 0) else (0, 0, x.2.2) := by unfold numAt; rw [← hx]
    rw [← hx] at hsz
    rw [e0]
    rw [e1] at hnum
    clear hx e0 e1
    by_cases hx0 : x.2.2 = 0
    · obtain ⟨k, hk, hk2⟩ := hsz hx0
      rw [drop_len] at hk2
      rw [if_pos hx0] at hnum ⊢
      rw [hk] at hnum
      simp only [hk, Int.toNat_natCast]
      have hpk : (p : Int) + (k : Int) = ((p + k : Nat) : Int) := by omega
      dsimp only at hnum
      rw [hpk] at hnum
      have hpk2 : p + k ≤ s.size := by omega
      obtain ⟨m, hm⟩ : ∃ m, m = p + k := ⟨_, rfl⟩
      rw [← hm] at hnum hpk2 ⊢
      clear hm hpk hk hk2 hsz hx0
      go_enter Try.func56, Try.ntmps56
      go_wp2_with fail
      refine hnum.mono ?_
      rintro e w1 ⟨rfl, hb⟩
      have HB := Lib.hid hb
      have hblk := (hb.block b hlt).trans H.out.1
      have d2 := cell_of_row w1 b 2 _ _ _ hblk
      have f2 := frozen_of_row w1 b 2 _ _ hblk
      have f1 := frozen_of_row w1 b 1 _ _ hblk
      have d1 := cell_of_row w1 b 1 _ _ _ hblk
      have Hblk := Lib.hid hblk
      clear hb hblk c0 c1 c2 hnum
      go_wp2_with fail
      go_ret
      refine ⟨rfl, ⟨?_, hpk2⟩, gq_more (gq_put HB.out b 2 _) 1 _⟩
      rw [blk_set _ (blk_set _ Hblk.out)]
      rfl
    · rw [if_neg hx0] at hnum ⊢
      clear hsz
      go_enter Try.func56, Try.ntmps56
      go_wp2_with fail
      refine hnum.mono ?_
      rintro e w1 ⟨rfl, hb⟩
      have HB := Lib.hid hb
      have hblk := (hb.block b hlt).trans H.out.1
      have d2 := cell_of_row w1 b 2 _ _ _ hblk
      have f2 := frozen_of_row w1 b 2 _ _ hblk
      have Hblk := Lib.hid hblk
      clear hb hblk c0 c1 c2 hnum
      go_wp2_with fail
      go_ret
      refine ⟨rfl, ⟨?_, hp⟩, gq_put HB.out b 2 _⟩
      rw [blk_set _ Hblk.out]
      rfl
  · have e0 : rdG 0 scan s (p, er) = (0, (p, er)) := by unfold rdG; rw [if_neg h0]
    rw [e0]
    clear e0 hsz
    go_enter Try.func56, Try.ntmps56
    go_wp2_with fail
    refine hnum.mono ?_
    rintro e w1 ⟨rfl, hb⟩
    have HB := Lib.hid hb
    have hblk := (hb.block b hlt).trans H.out.1
    have d2 := cell_of_row w1 b 2 _ _ _ hblk
    clear hb hblk c0 c1 c2 hnum
    go_wp2_with fail
    go_ret
    exact ⟨rfl, H.out.below HB.out, Gq.of_below HB.out _⟩

theorem rdG_ok {α : Type} (z : α) (f : List UInt8 → α × Int × Int) (s : ByteArray) (st : St) (h : (rdG z f s st).2.2 = 0) : st.2 = 0 ∧ (f (s.data.toList.drop st.1)).2.2 = 0 := by
  unfold rdG at h
  by_cases h0 : st.2 = 0
  · rw [if_pos h0] at h
    by_cases h1 : (f (s.data.toList.drop st.1)).2.2 = 0
    · exact ⟨h0, h1⟩
    · rw [if_neg h1] at h; exact absurd h h1
  · rw [if_neg h0] at h; exact absurd h h0
/-- What a scanner that goes on from scan reads, in terms of what scan reads. -/
theorem rdG_bool (s : ByteArray) (st : St) : rdG false scanB s st =
    if (rdG 0 scan s st).2.2 = 0 then (if (rdG 0 scan s st).1 = 0 then (false, (rdG 0 scan s st).2) else if (rdG 0 scan s st).1 = 1 then (true, (rdG 0 scan s st).2) else (false, (st.1, 3))) else (false, (rdG 0 scan s st).2) := by
  unfold rdG scanB
  obtain ⟨x, hx⟩ : ∃ x, x = scan (s.data.toList.drop st.1) := ⟨_, rfl⟩
  rw [← hx]
  by_cases h0 : st.2 = 0
  · simp only [h0, if_true]
    by_cases h1 : x.2.2 = 0
    · simp only [h1, if_true]
      by_cases h2 : x.1 = 0
      · simp [h2]
      · by_cases h3 : x.1 = 1
        · simp [h3]
        · simp [h2, h3]
    · simp [h1]
  · simp only [h0, if_false]
theorem rdG_size (most too : Int) (s : ByteArray) (st : St) (ht : too ≠ 0) (hst : st.1 ≤ s.size) : rdG 0 (scanZ most too) s st =
    if (rdG 0 scan s st).2.2 = 0 then (if (rdG 0 scan s st).1 < 0 then (0, (st.1, 3)) else if most < (rdG 0 scan s st).1 then (0, (st.1, too)) else if ((s.size - (rdG 0 scan s st).2.1 : Nat) : Int) < (rdG 0 scan s st).1 then (0, (st.1, 4)) else rdG 0 scan s st) else (0, (rdG 0 scan s st).2) := by
  have hsz := scan_sized (s.data.toList.drop st.1)
  unfold rdG scanZ
  obtain ⟨x, hx⟩ : ∃ x, x = scan (s.data.toList.drop st.1) := ⟨_, rfl⟩
  rw [← hx] at hsz ⊢
  rw [drop_len] at hsz ⊢
  by_cases h0 : st.2 = 0
  · simp only [h0, if_true]
    by_cases h1 : x.2.2 = 0
    · obtain ⟨k, hk, hk2⟩ := hsz h1
      simp only [h1, if_true]
      by_cases h2 : x.1 < 0
      · simp [h2]
      · by_cases h3 : most < x.1
        · simp [h2, h3, ht]
        · have e : ((s.size - st.1 : Nat) : Int) - x.2.1 = ((s.size - (st.1 + x.2.1.toNat) : Nat) : Int) := by rw [hk]; omega
          rw [e]
          by_cases h4 : ((s.size - (st.1 + x.2.1.toNat) : Nat) : Int) < x.1
          · simp [h2, h3, h4]
          · simp [h2, h3, h4]
    · simp [h1]
  · simp only [h0, if_false]
set_option maxRecDepth 100000 in
theorem rr_bool (b : Nat) (s : ByteArray) (st : St) (hs : s.size ≤ 1000000) (w : World) (h : RR w b s st) :
    Calls Try.prog 57 #[.pointer (qb b)] w fun e w' => e = .returned (.bool (rdG false scanB s st).1) ∧ RR w' b s (rdG false scanB s st).2 ∧ Gq w w' (qb b) := by
  have hn := rr_number b s st hs w h
  have hz := rdG_zero 0 scan s st
  rw [rdG_bool]
  obtain ⟨p, er⟩ := st
  have hp : p ≤ s.size := h.2
  have c1 := cell_of_row w b 1 _ _ _ h.1
  obtain ⟨⟨n, p2, e2⟩, hx⟩ : ∃ x, x = rdG 0 scan s (p, er) := ⟨_, rfl⟩
  rw [← hx] at hn hz ⊢
  clear hx h
  dsimp only at hn hz ⊢
  by_cases h0 : e2 = 0
  · subst h0
    rw [if_pos rfl]
    by_cases h1 : n = 0
    · subst h1
      rw [if_pos rfl]
      go_enter Try.func57, Try.ntmps57
      go_wp2_with fail
      refine hn.mono ?_
      rintro e w1 ⟨rfl, hR, hG⟩
      have HR := Lib.hid hR
      have HG := Lib.hid hG
      have d2 := cell_of_row w1 b 2 _ _ _ hR.1
      clear hR hG hn
      go_wp2_with fail
      go_ret
      exact ⟨rfl, HR.out, HG.out⟩
    · rw [if_neg h1]
      have h1b : (n != (0 : Int)) = true := by simpa using h1
      by_cases h2 : n = 1
      · subst h2
        rw [if_pos rfl]
        clear h1 h1b
        go_enter Try.func57, Try.ntmps57
        go_wp2_with fail
        refine hn.mono ?_
        rintro e w1 ⟨rfl, hR, hG⟩
        have HR := Lib.hid hR
        have HG := Lib.hid hG
        have d2 := cell_of_row w1 b 2 _ _ _ hR.1
        clear hR hG hn
        go_wp2_with fail
        go_ret
        exact ⟨rfl, HR.out, HG.out⟩
      · rw [if_neg h2]
        have h2b : (n != (1 : Int)) = true := by simpa using h2
        go_enter Try.func57, Try.ntmps57
        go_wp2_with fail
        refine hn.mono ?_
        rintro e w1 ⟨rfl, hR, hG⟩
        have HR := Lib.hid hR
        have HG := Lib.hid hG
        have d2 := cell_of_row w1 b 2 _ _ _ hR.1
        have d1 := cell_of_row w1 b 1 _ _ _ hR.1
        have f2 := frozen_of_row w1 b 2 _ _ hR.1
        have f1 := frozen_of_row w1 b 1 _ _ hR.1
        clear hR hG hn
        go_wp2_with fail
        go_ret
        refine ⟨rfl, ⟨?_, hp⟩, gq_more (gq_more HG.out 2 _) 1 _⟩
        rw [blk_set _ (blk_set _ HR.out.1)]
        rfl
  · rw [if_neg h0]
    have h0b : (e2 == (0 : Int)) = false := by simpa using h0
    · have hn0 := hz h0
      subst hn0
      clear hz
      go_enter Try.func57, Try.ntmps57
      go_wp2_with fail
      refine hn.mono ?_
      rintro e w1 ⟨rfl, hR, hG⟩
      have HR := Lib.hid hR
      have HG := Lib.hid hG
      have d2 := cell_of_row w1 b 2 _ _ _ hR.1
      clear hR hG hn
      go_wp2_with fail
      go_ret
      exact ⟨rfl, HR.out, HG.out⟩
end Go.Proofs.Ytepcihfkkeahhaa
