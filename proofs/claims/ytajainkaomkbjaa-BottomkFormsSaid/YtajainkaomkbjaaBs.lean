/- The law's made: a sketch of some keys, and its state. -/
import Derived.Test.YtajainkaomkbjaaBr
import Derived.Deep.RegionHeld3
namespace Go.Proofs.Ytajainkaomkbjaa
open Go.ChangeShapes Go.WideShapes Go.ChangeAt Go.RowKit Go.Joins Bt

theorem results_tmp_cell1 {fn : Func} {p u : Tmp} {ty : TypeId} (h : fn.results = #[.tmp u, .cell p ty]) (tmps : Array Value) (P : Program) (w : World) :
    (results fn tmps).run P w =
      ((asAddr (tmps.getD p undef)).run P w).andThen fun a w₁ => ((loadVar ty a).run P w₁).andThen fun v w₂ => .ok (.tuple #[tmps.getD u undef, v]) w₂ := by
  simp only [results, h]
  simp [Sem.run_bind, Result.andThen]
theorem txts_ok {L : List Nat} (hs : ∀ x ∈ L, x ≤ 255) : ∀ t ∈ txts L, t.size ≤ 1000000 ∧ chkK t = 0 := fun t ht => by
  unfold txts at ht
  obtain ⟨x, hx, rfl⟩ := List.mem_map.1 ht
  have := txtN_ok x (hs x (List.mem_of_mem_take hx))
  exact ⟨this.2, this.1⟩
theorem Sk.grown {w w' : World} {g b : Nat} {n sd : Int} {x : List Ky × Bool} {cs : Array Value} {T : TypeId} {fz : Nat × Nat} (h : Sk w g n sd x) (k : Gs b w w') (hb : w.heap[b]? = some (.cells cs T fz)) (hT : T ≠ 50) (hne : g ≠ b) : Sk w' g n sd x := by
  obtain ⟨v, h1, h2⟩ := h
  exact ⟨v, h1.grown k hb hT, (k.block g (Array.getElem?_eq_some_iff.1 h2).1 (fun e => hne (by injection e))).trans h2⟩
theorem txts_len (L : List Nat) : (txts L).length ≤ 40 := by unfold txts; rw [List.length_map, List.length_take]; omega
set_option maxRecDepth 100000 in
set_option maxHeartbeats 4000000 in
theorem made_any (a b : Nat) (ha : a ≤ 255) (hb : b ≤ 255) (A : Option Addr) (c : Nat) (L : List Nat) (hl : L.length ≤ 9223372036854775807) (hs : ∀ x ∈ L, x ≤ 255) (w : World) (hR : Rd u8N w A L) :
    Calls Try.prog 12 #[.agg #[.int .u8 (a : Int), .int .u8 (b : Int)], .slice A L.length c] w fun e w' => (∃ g u, e = .returned (.tuple #[.pointer (some ⟨g, 0, none⟩), u]) ∧ w.heap.size ≤ g ∧ Sk w' g ((1 + a % 12 : Nat) : Int) (b : Int) (skt (1 + a % 12) (bld (kys (b : Int) (txts L)))) ∧ StV w' ((1 + a % 12 : Nat) : Int) (b : Int) (bld (kys (b : Int) (txts L))) u) ∧ Below w.heap.size w w' := by
  have HKs := Lib.hid (fun W h => keys_law A c L hl hs W h)
  have hok := txts_ok hs
  have hlen := txts_len L
  have HR := Lib.hid hR
  obtain ⟨K, hK⟩ : ∃ K, K = txts L := ⟨_, rfl⟩
  rw [← hK] at HKs hok hlen ⊢
  obtain ⟨n, hn⟩ : ∃ n, n = 1 + a % 12 := ⟨_, rfl⟩
  have hn1 : 1 ≤ n ∧ n ≤ 12 := by omega
  rw [← hn]
  have HOf := Lib.hid (fun W A c h => of_ok n hn1.1 (by omega) (b : Int) (by omega) (by omega) A c K (by omega) hok W h)
  have HRf := Lib.hid (fun W A c h => rof_any (n : Int) (b : Int) A c K (by omega) (fun t ht => (hok t ht).1) W h)
  obtain ⟨S, hS⟩ : ∃ S, S = bld (kys (b : Int) K) := ⟨_, rfl⟩
  rw [← hS] at HOf HRf ⊢
  obtain ⟨k, hk⟩ : ∃ k, k = K.length := ⟨_, rfl⟩
  rw [← hk] at HKs HOf HRf
  have HKl := Lib.hid hk
  obtain ⟨m, hm⟩ : ∃ m, m = a % 12 := ⟨_, rfl⟩
  have hm0 : (0 : Int) ≤ (m : Int) := by omega
  have hm1 : (m : Int) ≤ 11 := by omega
  have q1 : (a : Int) % 12 = (m : Int) := by omega
  have q2 : 1 + (m : Int) = (n : Int) := by omega
  have q3 : IntKind.i64.wrap (b : Int) = (b : Int) := by simp only [IntKind.wrap_i64]; omega
  have ha0 : (0 : Int) ≤ (a : Int) := by omega
  have haI : (a : Int) ≤ 255 := by omega
  have hb0 : (0 : Int) ≤ (b : Int) := by omega
  have hbI : (b : Int) ≤ 255 := by omega
  have HB0 : Hid (Below w.heap.size w ((w.alloc (.cells #[.int .u8 (a : Int), .int .u8 (b : Int)] 23)).alloc (.cells #[.int .i64 0, .int .i64 0, .slice none 0 0] 28))) := Lib.hid (((Below.refl _ _).alloc (Nat.le_refl _) _).alloc (by simp) _)
  have HG0 := Lib.hid (blk_under w (.cells #[.int .u8 (a : Int), .int .u8 (b : Int)] 23) (.cells #[.int .i64 0, .int .i64 0, .slice none 0 0] 28))
  have HG1 := Lib.hid (blk_over w (.cells #[.int .u8 (a : Int), .int .u8 (b : Int)] 23) (.cells #[.int .i64 0, .int .i64 0, .slice none 0 0] 28))
  obtain ⟨ll, hll⟩ : ∃ ll, ll = L.length := ⟨_, rfl⟩
  rw [← hll] at HKs ⊢
  clear hR hok hlen hK hS hk hll hl hs hn hm ha hb hn1
  go_enter Try.func12, Try.ntmps12
  go_wp2_with fail
  obtain ⟨w0, hw0⟩ : ∃ w0, w0 = ((w.alloc (.cells #[.int .u8 (a : Int), .int .u8 (b : Int)] 23)).alloc (.cells #[.int .i64 0, .int .i64 0, .slice none 0 0] 28)) := ⟨_, rfl⟩
  rw [← hw0] at HB0 HG0 HG1 ⊢
  clear hw0
  have hl0 : w.heap.size < w0.heap.size := (Array.getElem?_eq_some_iff.1 HG0.out).1
  have hl1 : w.heap.size + 1 < w0.heap.size := (Array.getElem?_eq_some_iff.1 HG1.out).1
  have HBK := Lib.hid (fun (W : World) (h : Below w0.heap.size w0 W) => HB0.out.trans (h.mono HB0.out.size))
  have HP : Hid (∀ W, Below w0.heap.size w0 W → W.cell? ⟨w.heap.size, 1, none⟩ = some (.int .u8 (b : Int))) := Lib.hid (fun W h => cell_of_row W w.heap.size 1 _ _ _ ((h.block _ hl0).trans HG0.out))
  have HD0 : Hid (Below w0.heap.size w0 w0.drew) := Lib.hid (Below.refl _ _).drew
  go_region_held3 (fun W => W.cell? ⟨w.heap.size, 1, none⟩ = some (.int .u8 (b : Int)))
    (first | exact HP.out _ HD2.out | exact HP.out _ HD1.out | exact HP.out _ HD0.out)
    ((first
      | (go_at_call 16; (with_reducible refine (HKs.out _ (HR.out.below (HBK.out _ HD0.out))).mono ?_); rintro e w1 ⟨⟨x1, rfl, ho⟩, hb1⟩; have HD1 : Hid (Below w0.heap.size w0 w1) := Lib.hid (HD0.out.trans (hb1.mono HD0.out.size)); obtain ⟨A1, c1, rfl, _, hr⟩ := out_own ho; have HR1 := Lib.hid hr; rw [← HKl.out]; clear hb1 ho hr)
      | (go_at_call 19; (with_reducible refine (HOf.out _ _ _ HR1.out).mono ?_); rintro e w2 ⟨rfl, hsk, hb1⟩; have HD2 : Hid (Below w0.heap.size w0 w2) := Lib.hid (HD1.out.trans (hb1.mono HD1.out.size)); have HSk := Lib.hid hsk; clear hb1 hsk)
      | fail))
  have HE0 : Hid (Below w0.heap.size w0 w2.drew) := Lib.hid HD2.out.drew
  obtain ⟨g, hg⟩ : ∃ g, g = w1.heap.size := ⟨_, rfl⟩
  rw [← hg] at HSk ⊢
  have hgw : w.heap.size ≤ g := by rw [hg]; exact (HBK.out _ HD1.out).size
  have hgx : w0.heap.size ≤ g := by rw [hg]; exact HD1.out.size
  have HSe : Hid (Below w2.heap.size w2 w2.drew) := Lib.hid (Below.refl _ _).drew
  clear hg
  go_wp2_with fail
  go_region_held3 (fun W => W.cell? ⟨w.heap.size, 1, none⟩ = some (.int .u8 (b : Int)))
    (first | exact cell_of_row _ w.heap.size 1 _ _ _ (((((Gs.refl (w.heap.size + 1) w4).set _).set _).set _).block _ (Nat.lt_of_lt_of_le hl0 HE2.out.size) (fun e => by injection e with e; omega) |>.trans ((HE2.out.block _ hl0).trans HG0.out)) | exact HP.out _ HE2.out | exact HP.out _ HE1.out | exact HP.out _ HE0.out)
    ((first
      | (go_at_call 16; (with_reducible refine (HKs.out _ (HR.out.below (HBK.out _ HE0.out))).mono ?_); rintro e w3 ⟨⟨x2, rfl, ho⟩, hb1⟩; have HF1 : Hid (Below w2.heap.size w2 w3) := Lib.hid (HSe.out.trans (hb1.mono HSe.out.size)); have HE1 : Hid (Below w0.heap.size w0 w3) := Lib.hid (HE0.out.trans (hb1.mono HE0.out.size)); obtain ⟨A2, c2, rfl, _, hr⟩ := out_own ho; have HR2 := Lib.hid hr; rw [← HKl.out]; clear hb1 ho hr)
      | (go_at_call 18; (with_reducible refine (HRf.out _ _ _ HR2.out).mono ?_); rintro e w4 ⟨⟨u, rfl, hst⟩, hb1⟩; have HF2 : Hid (Below w2.heap.size w2 w4) := Lib.hid (HF1.out.trans (hb1.mono HF1.out.size)); have HE2 : Hid (Below w0.heap.size w0 w4) := Lib.hid (HE1.out.trans (hb1.mono HE1.out.size)); obtain ⟨v5, rfl, ⟨A5, c5, rfl, hs5⟩⟩ := hst; have HS5 := Lib.hid hs5; obtain ⟨l5, hl5⟩ : ∃ l5, l5 = S.length := ⟨_, rfl⟩; rw [← hl5]; have HL5 := Lib.hid hl5; clear hb1 hs5 hl5; have f0 := frozen_of_row w4 (w.heap.size + 1) 0 _ _ ((HE2.out.block _ hl1).trans HG1.out); have f1 := frozen_of_row w4 (w.heap.size + 1) 1 _ _ ((HE2.out.block _ hl1).trans HG1.out); have f2 := frozen_of_row w4 (w.heap.size + 1) 2 _ _ ((HE2.out.block _ hl1).trans HG1.out); have r0 := cell_of_row w4 (w.heap.size + 1) 0 _ _ _ ((HE2.out.block _ hl1).trans HG1.out); have r1 := cell_of_row w4 (w.heap.size + 1) 1 _ _ _ ((HE2.out.block _ hl1).trans HG1.out); have r2 := cell_of_row w4 (w.heap.size + 1) 2 _ _ _ ((HE2.out.block _ hl1).trans HG1.out); simp at r0 r1 r2; have hz1 : w.heap.size + 1 < w4.heap.size := Nat.lt_of_lt_of_le hl1 HE2.out.size)
      | fail))
  have HY1 := Lib.hid ((HE2.out.block _ hl1).trans HG1.out)
  have HGs := Lib.hid (fun (a b c : Value) => ((((Gs.refl (w.heap.size + 1) w4).set (i := 0) a).set (i := 1) b).set (i := 2) c))
  go_wp2_with fail
  refine bodyPost_ret (v := .tuple #[.pointer (some ⟨g, 0, none⟩), .agg #[.int .i64 (n : Int), .int .i64 (b : Int), .slice A5 l5 c5]]) ?_ rfl ⟨⟨g, _, rfl, hgw, ?_, ?_⟩, ?_⟩
  · rw [results_tmp_cell1 rfl]; go_simp <;> rfl
  · exact Sk.grown (HSk.out.below HF2.out) (HGs.out _ _ _) HY1.out (by decide) (by omega)
  · exact ⟨_, rfl, SlV.grown ⟨A5, c5, by rw [HL5.out], HS5.out.1, HS5.out.2.1, HS5.out.2.2⟩ (HGs.out _ _ _) HY1.out (by decide)⟩
  · exact below_gs (HBK.out _ HE2.out) (HGs.out _ _ _) (by omega) (Nat.le_refl _)
end Go.Proofs.Ytajainkaomkbjaa
