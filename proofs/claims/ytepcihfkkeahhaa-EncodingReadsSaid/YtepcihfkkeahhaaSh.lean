/- EncodingSpans: the call. -/
import Derived.Test.YtepcihfkkeahhaaSg
namespace Go.Proofs.Ytepcihfkkeahhaa
open Go.ChangeShapes Go.WideShapes Go.ChangeAt Go.RowKit En

def Sp.Ints (s : Sp) : Prop := (∀ n ∈ [s.t, s.i, s.p, s.r, s.c, s.k], In64 n) ∧ (∀ n ∈ [s.st, s.en], In64 n) ∧ (∀ a ∈ s.al, In64 a.kind ∧ In64 a.int) ∧ (∀ a ∈ s.ls, RfOk a)
theorem atForms_len (L : List At) (h : ∀ a ∈ L, a.Ok) : (atForms L).length ≤ 21000 * L.length := by
  induction L with
  | nil => exact Nat.zero_le _
  | cons a L ih =>
    have h1 := At.form_len (h a (List.mem_cons_self ..))
    have h2 := ih (fun b hb => h b (List.mem_cons_of_mem _ hb))
    unfold atForms at h2 ⊢
    rw [List.flatMap_cons, List.length_append, List.length_cons]; omega
theorem rfForms_len (L : List (Int × Int)) (h : ∀ a ∈ L, RfOk a) : (rfForms L).length ≤ 18 * L.length := by
  induction L with
  | nil => exact Nat.zero_le _
  | cons a L ih =>
    have h1 := nums_len [a.1, a.2] (by intro n hn; have := h a (List.mem_cons_self ..); simp at hn; rcases hn with rfl | rfl; exact this.1; exact this.2)
    have h2 := ih (fun b hb => h b (List.mem_cons_of_mem _ hb))
    unfold rfForms at h2 ⊢
    rw [List.flatMap_cons, List.length_append, List.length_cons]
    have e : (rfForm a).length = (nums [a.1, a.2]).length := rfl
    simp only [List.length_cons, List.length_nil] at h1
    rw [e]
    omega
theorem Sp.fit (s : Sp) (hi : s.Ints) (hs : s.Short) : s.Fit ∧ s.form.length ≤ 300000 := by
  obtain ⟨i1, i2, i3, i4⟩ := hi
  obtain ⟨h1, h2, h3, h4, h5, h6⟩ := hs
  have ha : ∀ a ∈ s.al, a.Ok := fun a ha => ⟨by have := (h6 a ha).1; omega, by have := (h6 a ha).2; omega, (i3 a ha).1, (i3 a ha).2⟩
  have b1 := atForms_len s.al ha
  have b2 := rfForms_len s.ls i4
  refine ⟨⟨⟨i1, by omega, by omega, by omega, i2, ha, i4, by omega, by omega, by omega, by omega⟩, by omega, by omega, by omega, fun a ha => ⟨by have := (h6 a ha).1; omega, by have := (h6 a ha).2; omega⟩⟩, ?_⟩
  have c1 := nums_len _ i1
  have c2 := nums_len _ i2
  have c3 := text_bound s.sv (by omega)
  have c4 := text_bound s.ve (by omega)
  have c5 := text_bound s.op (by omega)
  have c6 := boolF_bound s.er
  have c7 := num_bounds (s.al.length : Int) (by omega) (by omega)
  have c8 := num_bounds (s.ls.length : Int) (by omega) (by omega)
  unfold Sp.form
  simp only [List.length_append, List.length_cons, List.length_nil] at c1 c2 ⊢
  omega
theorem hs_full (F : List UInt8) : Hs (bytesOf F) 0 F := ⟨[], by show (bytesOf F).data.toList.drop 0 = _; simp [bytesOf]⟩
set_option maxRecDepth 100000 in
set_option maxHeartbeats 4000000 in
theorem spans_any (s : Sp) (hs : s.Lim) (hi : s.Ints) (va vl : Value) (w : World) (hR : s.Has w w.heap.size va vl) :
    Calls Try.prog 7 #[.agg (s.cells va vl)] w fun e w' => e = .returned (.bool true) ∧ Below w.heap.size w w' := by
  have hsh := fun W h => short_any s hs va vl W h
  have hen := fun (h : s.Short) W hh => encode_span s (s.fit hi h).1.1 (s.fit hi h).2 va vl W hh
  have href := fun (h : s.Short) va vl W hh => ref_span s (s.fit hi h).1.1 va vl W hh
  have hdec := fun (h : s.Short) W => decodeSpan_any (bytesOf s.form) (by rw [bytesOf_size]; have := (s.fit hi h).2; omega) s (by
    have h1 := at_span (s.fit hi h).1 (hs_full s.form)
    rw [Nat.zero_add] at h1
    rw [bytesOf_size]; exact h1) W
  obtain ⟨F, hF⟩ : ∃ F, F = bytesOf s.form := ⟨_, rfl⟩
  simp only [← hF] at hen href hdec
  have Hsh := Lib.hid hsh
  have Hen := Lib.hid hen
  have Href := Lib.hid href
  have Hdec := Lib.hid hdec
  clear hsh hen href hdec hF hs hi
  have HB0 : Hid (Below w.heap.size w (w.alloc (.cells (s.cells va vl) 54))) := Lib.hid ((Below.refl _ _).alloc (Nat.le_refl _) _)
  have HS0 := Lib.hid (hR.below HB0.out)
  obtain ⟨A, ca, A2, cl, rfl, rfl, hA, hL⟩ := hR
  have Hb0 : Hid ((w.alloc (.cells (s.cells (.slice A s.al.length ca) (.slice A2 s.ls.length cl)) 54)).heap[w.heap.size]? = some (.cells (s.cells (.slice A s.al.length ca) (.slice A2 s.ls.length cl)) 54 (0, 0))) := Lib.hid (Deep.blk_alloc_new w _)
  clear hA hL
  obtain ⟨t, i, p, r, c, k, sv, ve, op, st, en, er, al, ls⟩ := s
  have E0 : Sp.cells ⟨t, i, p, r, c, k, sv, ve, op, st, en, er, al, ls⟩ (.slice A al.length ca) (.slice A2 ls.length cl) = #[.int .i64 t, .int .i64 i, .int .i64 p, .int .i64 r, .int .i64 c, .int .i64 k, .string sv, .string ve, .string op, .int .i64 st, .int .i64 en, .bool er, .slice A al.length ca, .slice A2 ls.length cl] := rfl
  dsimp only at Hb0 HB0 HS0 Hsh Hen Href Hdec ⊢
  unfold Sp.cells at Hb0 HB0 Hsh Hen ⊢
  dsimp only at Hb0 HB0 Hsh Hen HS0 ⊢
  unfold Sp.cells at HS0
  dsimp only at HS0
  clear E0
  go_enter Try.func7, Try.ntmps7
  go_wp2_with fail
  refine (known_any _).mono ?_
  rintro e w1 ⟨rfl, hb⟩
  have hs1 : w.heap.size < w1.heap.size := by have := hb.size; simp at this; omega
  have HB1 := Lib.hid (HB0.out.trans (hb.mono (by simp)))
  have HS1 := Lib.hid (HS0.out.below (hb.mono (by simp)))
  have hb1 := (hb.block w.heap.size (by simp)).trans Hb0.out
  have Hb1 := Lib.hid hb1
  have c0 := cell_of_row w1 w.heap.size 0 _ _ _ hb1
  have c1 := cell_of_row w1 w.heap.size 1 _ _ _ hb1
  have c2 := cell_of_row w1 w.heap.size 2 _ _ _ hb1
  have c3 := cell_of_row w1 w.heap.size 3 _ _ _ hb1
  have c4 := cell_of_row w1 w.heap.size 4 _ _ _ hb1
  have c5 := cell_of_row w1 w.heap.size 5 _ _ _ hb1
  have c6 := cell_of_row w1 w.heap.size 6 _ _ _ hb1
  have c7 := cell_of_row w1 w.heap.size 7 _ _ _ hb1
  have c8 := cell_of_row w1 w.heap.size 8 _ _ _ hb1
  have c9 := cell_of_row w1 w.heap.size 9 _ _ _ hb1
  have c10 := cell_of_row w1 w.heap.size 10 _ _ _ hb1
  have c11 := cell_of_row w1 w.heap.size 11 _ _ _ hb1
  have c12 := cell_of_row w1 w.heap.size 12 _ _ _ hb1
  have c13 := cell_of_row w1 w.heap.size 13 _ _ _ hb1
  clear hb hb1
  go_wp2_with fail
  refine (Hsh.out w1 (HS1.out.more (by omega))).mono ?_
  rintro e w2 ⟨⟨bl, rfl, hbl⟩, hb⟩
  have hs2 := hb.size
  have HB2 := Lib.hid (HB1.out.trans (hb.mono (by omega)))
  have HS2 := Lib.hid (HS1.out.below (hb.mono (by omega)))
  have hb2 := (hb.block w.heap.size hs1).trans Hb1.out
  have Hb2 := Lib.hid hb2
  clear c0 c1 c2 c3 c4 c5 c6 c7 c8 c9 c10 c11 c12 c13
  have d0 := cell_of_row w2 w.heap.size 0 _ _ _ hb2
  have d1 := cell_of_row w2 w.heap.size 1 _ _ _ hb2
  have d2 := cell_of_row w2 w.heap.size 2 _ _ _ hb2
  have d3 := cell_of_row w2 w.heap.size 3 _ _ _ hb2
  have d4 := cell_of_row w2 w.heap.size 4 _ _ _ hb2
  have d5 := cell_of_row w2 w.heap.size 5 _ _ _ hb2
  have d6 := cell_of_row w2 w.heap.size 6 _ _ _ hb2
  have d7 := cell_of_row w2 w.heap.size 7 _ _ _ hb2
  have d8 := cell_of_row w2 w.heap.size 8 _ _ _ hb2
  have d9 := cell_of_row w2 w.heap.size 9 _ _ _ hb2
  have d10 := cell_of_row w2 w.heap.size 10 _ _ _ hb2
  have d11 := cell_of_row w2 w.heap.size 11 _ _ _ hb2
  have d12 := cell_of_row w2 w.heap.size 12 _ _ _ hb2
  have d13 := cell_of_row w2 w.heap.size 13 _ _ _ hb2
  clear hb hb2
  cases bl with
  | false =>
    clear hbl
    go_wp2_with fail
    refine (known_any w2).mono ?_
    rintro e w3 ⟨rfl, hb⟩
    have HB3 := Lib.hid (HB2.out.trans (hb.mono (by omega)))
    clear hb
    go_wp2_with fail
    go_ret
    exact ⟨rfl, HB3.out⟩
  | true =>
    have Hq := Lib.hid (hbl rfl)
    clear hbl
    go_wp2_with fail
    refine (Hen.out Hq.out w2 (HS2.out.more (by omega))).mono ?_
    rintro e w3 ⟨rfl, hb⟩
    have hs3 := hb.size
    have HB3 := Lib.hid (HB2.out.trans (hb.mono (by omega)))
    have HS3 := Lib.hid (HS2.out.below (hb.mono (by omega)))
    have Hb3 := Lib.hid ((hb.block w.heap.size (by omega)).trans Hb2.out)
    clear hb d0 d1 d2 d3 d4 d5 d6 d7 d8 d9 d10 d11 d12 d13
    go_wp2_with fail
    refine (Hdec.out Hq.out w3).mono ?_
    rintro e w4 ⟨⟨vb, vm, rfl, hq⟩, hb⟩
    obtain ⟨A3, c3, A4, c4, rfl, rfl, q1, q2⟩ := hq
    have hs4 := hb.size
    have HB4 := Lib.hid (HB3.out.trans (hb.mono (by omega)))
    have HS4 := Lib.hid (HS3.out.below (hb.mono (by omega)))
    have Hb4 := Lib.hid ((hb.block w.heap.size (by omega)).trans Hb3.out)
    have HQ1 := Lib.hid q1
    have HQ2 := Lib.hid q2
    clear hb q1 q2
    unfold Sp.cells
    dsimp only at HQ1 HQ2 ⊢
    have hlt4 : w.heap.size < w4.heap.size := by omega
    have e0 := cell_of_row w4 w.heap.size 0 _ _ _ Hb4.out
    have e1 := cell_of_row w4 w.heap.size 1 _ _ _ Hb4.out
    have e2 := cell_of_row w4 w.heap.size 2 _ _ _ Hb4.out
    have e3 := cell_of_row w4 w.heap.size 3 _ _ _ Hb4.out
    have e4 := cell_of_row w4 w.heap.size 4 _ _ _ Hb4.out
    have e5 := cell_of_row w4 w.heap.size 5 _ _ _ Hb4.out
    have e6 := cell_of_row w4 w.heap.size 6 _ _ _ Hb4.out
    have e7 := cell_of_row w4 w.heap.size 7 _ _ _ Hb4.out
    have e8 := cell_of_row w4 w.heap.size 8 _ _ _ Hb4.out
    have e9 := cell_of_row w4 w.heap.size 9 _ _ _ Hb4.out
    have e10 := cell_of_row w4 w.heap.size 10 _ _ _ Hb4.out
    have e11 := cell_of_row w4 w.heap.size 11 _ _ _ Hb4.out
    have e12 := cell_of_row w4 w.heap.size 12 _ _ _ Hb4.out
    have e13 := cell_of_row w4 w.heap.size 13 _ _ _ Hb4.out
    go_wp2_with fail
    have HBx : Hid (Below w4.heap.size w4 (w4.alloc (.cells #[.int .i64 t, .int .i64 i, .int .i64 p, .int .i64 r, .int .i64 c, .int .i64 k, .string sv, .string ve, .string op, .int .i64 st, .int .i64 en, .bool er, .slice A3 al.length c3, .slice A4 ls.length c4] 54))) := Lib.hid ((Below.refl _ _).alloc (Nat.le_refl _) _)
    refine (Href.out Hq.out (.slice A al.length ca) (.slice A2 ls.length cl) _ ((HS4.out.below (HBx.out.mono (by omega))).more (by simp; omega))).mono ?_
    rintro e w5 ⟨rfl, hb⟩
    have hs5 : w4.heap.size < w5.heap.size := by have := hb.size; simp at this; omega
    have HB45 := Lib.hid (HBx.out.trans (hb.mono (by simp)))
    have HB5 := Lib.hid (HB4.out.trans (HB45.out.mono (by omega)))
    have hb6 := (hb.block w4.heap.size (by simp)).trans (Deep.blk_alloc_new w4 _)
    have g0 := cell_of_row w5 w4.heap.size 0 _ _ _ hb6
    have g1 := cell_of_row w5 w4.heap.size 1 _ _ _ hb6
    have g2 := cell_of_row w5 w4.heap.size 2 _ _ _ hb6
    have g3 := cell_of_row w5 w4.heap.size 3 _ _ _ hb6
    have g4 := cell_of_row w5 w4.heap.size 4 _ _ _ hb6
    have g5 := cell_of_row w5 w4.heap.size 5 _ _ _ hb6
    have g6 := cell_of_row w5 w4.heap.size 6 _ _ _ hb6
    have g7 := cell_of_row w5 w4.heap.size 7 _ _ _ hb6
    have g8 := cell_of_row w5 w4.heap.size 8 _ _ _ hb6
    have g9 := cell_of_row w5 w4.heap.size 9 _ _ _ hb6
    have g10 := cell_of_row w5 w4.heap.size 10 _ _ _ hb6
    have g11 := cell_of_row w5 w4.heap.size 11 _ _ _ hb6
    have g12 := cell_of_row w5 w4.heap.size 12 _ _ _ hb6
    have g13 := cell_of_row w5 w4.heap.size 13 _ _ _ hb6
    have HH : Hid (Sp.Has w5 w5.heap.size ⟨t, i, p, r, c, k, sv, ve, op, st, en, er, al, ls⟩ (.slice A3 al.length c3) (.slice A4 ls.length c4)) := Lib.hid ⟨A3, c3, A4, c4, rfl, rfl, ((HQ1.out.gq (Gq.of_below HB45.out none)).rs), ((HQ2.out.gq (Gq.of_below HB45.out none)).rs)⟩
    clear hb hb6 e0 e1 e2 e3 e4 e5 e6 e7 e8 e9 e10 e11 e12 e13
    go_wp2_with fail
    refine (Href.out Hq.out (.slice A3 al.length c3) (.slice A4 ls.length c4) w5 HH.out).mono ?_
    rintro e w6 ⟨rfl, hb⟩
    have HB6 := Lib.hid (HB5.out.trans (hb.mono (by omega)))
    clear hb
    go_wp2_with fail
    go_ret
    exact ⟨rfl, HB6.out⟩
end Go.Proofs.Ytepcihfkkeahhaa
