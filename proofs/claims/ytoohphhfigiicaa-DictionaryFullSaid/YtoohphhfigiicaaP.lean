/- Encode. -/
import Derived.Test.YtoohphhfigiicaaO
namespace Go.Proofs.Ytoohphhfigiicaa
open Go.ChangeShapes Go.WideShapes Go.ChangeAt Go.RowKit Dp

def u8v (b : UInt8) : Value := .int .u8 (b.toNat : Int)
theorem u8_info : (Try.prog.info? 5).map (fun i => (i.zero, i.size, i.bytes)) = some (some (Value.int .u8 0), 1, 1) := by kernel_rfl
theorem make_bytes (n : Nat) (hn : n ≤ 100000000) (w : World) :
    (Instr.makeSlice 30 (.int .i64 (n : Int)) (.int .i64 (n : Int))).run Try.prog w = .ok (.slice (some ⟨w.heap.size, 0, none⟩) n n) (w.alloc (.cells (List.replicate n (Value.int .u8 0)).toArray 5)) := by
  obtain ⟨i0, hi0, hz0, hz1, hz2⟩ := info_parts u8_info
  have h := run_make w 30 5 i0 _ Try.underlying30 hi0 hz0 .i64 .i64 n n (by omega) (Int.le_refl _) (by rw [hz2]; omega) (by omega)
  rw [Int.toNat_natCast, hz1, Nat.mul_one] at h
  rw [h]
  have e : madeCells (Value.cells (Value.int .u8 0)) n = (List.replicate n (Value.int .u8 0)).toArray := by
    have := toList_madeCells_one (Value.int .u8 0) n
    rw [← this]; rfl
  rw [e]
/-- Block g, made for n bytes, holds l and then zeros. -/
def By (w : World) (g n : Nat) (l : List UInt8) : Prop :=
  l.length ≤ n ∧ w.heap[g]? = some (.cells (l.map u8v ++ List.replicate (n - l.length) (Value.int .u8 0)).toArray 5 (0, 0))
theorem By.lt {w : World} {g n : Nat} {l : List UInt8} (h : By w g n l) : g < w.heap.size := (Array.getElem?_eq_some_iff.1 h.2).1
theorem By.drewN {w : World} {g n : Nat} {l : List UInt8} (h : By w g n l) (q : Nat) : By (w.drewN q) g n l := h
theorem By.cell {w : World} {g n : Nat} {l : List UInt8} (h : By w g n l) (k : Nat) (hk : k < n) : (∃ u, w.cell? ⟨g, k, none⟩ = some u) ∧ w.frozen? ⟨g, k, none⟩ = false := by
  refine ⟨⟨(l.map u8v ++ List.replicate (n - l.length) (Value.int .u8 0)).toArray[k]'(by have := h.1; simp; omega), ?_⟩, frozen_of_row w g k _ _ h.2⟩
  rw [cell_of_row w g k _ _ _ h.2, Array.getElem?_eq_getElem]
theorem By.put {w : World} {g n : Nat} {l : List UInt8} (h : By w g n l) (k : Nat) (hk : k = l.length) (hn : k < n) (b : UInt8) : By (w.setCell ⟨g, k, none⟩ (u8v b)) g n (l ++ [b]) := by
  refine ⟨by rw [List.length_append, List.length_singleton]; omega, ?_⟩
  have e : (w.setCell ⟨g, k, none⟩ (u8v b)).heap[g]? = some (.cells ((l.map u8v ++ List.replicate (n - l.length) (Value.int .u8 0)).toArray.setIfInBounds k (u8v b)) 5 (0, 0)) := by
    simp only [World.setCell, Array.getElem?_modify, h.2]; simp
  rw [e]
  congr 2
  have hr : n - l.length = (n - (l ++ [b]).length) + 1 := by rw [List.length_append, List.length_singleton]; omega
  rw [hr, List.replicate_succ, List.setIfInBounds_toArray]
  congr 1
  subst hk
  have : (l.map u8v).length = l.length := List.length_map _
  rw [List.set_append, if_neg (by omega), this, Nat.sub_self, List.set_cons_zero, List.map_append, List.append_assoc]
  rfl
theorem u8_cast (n : Nat) (h : n < 256) : u8v (UInt8.ofNat n) = .int .u8 (n : Int) := by
  unfold u8v
  congr 1
  rw [UInt8.toNat_ofNat']
  omega
theorem u8_size : (Try.prog.info? 5).map (·.size) = some 1 := by kernel_rfl
set_option maxRecDepth 100000 in
theorem copy_by {W : World} {g N a : Nat} {l : List UInt8} (h : By W g N l) (ha : a = l.length) (R : ByteArray) (hf : a + R.size ≤ N) (dLen dCap : Nat) (hle : R.size ≤ dLen) (o : Nat) (ho : o = a ∨ (R.size = 0 ∧ o = 0)) :
    ∃ C, (Builtin.copy_ #[30, 9] 3 #[.slice (some ⟨g, o, none⟩) dLen dCap, .string R]).run Try.prog W = .ok (goInt R.size) (W.setRow g C) ∧ By (W.setRow g C) g N (l ++ R.data.toList) := by
  have hl := h.1
  have hR : R.data.toList.length = R.size := by simp
  have hcs : (l.map u8v ++ List.replicate (N - l.length) (Value.int .u8 0)).toArray.size = N := by simp; omega
  have hrun := Lib.run_copy_row_string (P := Try.prog) W 30 9 3 5 g o dLen dCap R (l.map u8v ++ List.replicate (N - l.length) (Value.int .u8 0)).toArray 5 Try.underlying30 u8_size h.2 hle (by rw [hcs]; rcases ho with rfl | ⟨h0, rfl⟩ <;> omega)
  refine ⟨_, hrun, by rw [List.length_append]; omega, ?_⟩
  rw [setRow_heap W g _ _ _ _ h.2]
  congr 2
  congr 1
  have hbc : Lib.byteCells R.data.toList = R.data.toList.map u8v := rfl
  rw [hbc, List.map_append, List.length_append, hR]
  rcases ho with rfl | ⟨h0, rfl⟩
  · have e1 : List.take o (l.map u8v ++ List.replicate (N - l.length) (Value.int .u8 0)) = l.map u8v := List.take_left' (by rw [List.length_map]; omega)
    have e2 : List.drop (o + R.size) (l.map u8v ++ List.replicate (N - l.length) (Value.int .u8 0)) = List.replicate (N - (l.length + R.size)) (Value.int .u8 0) := by
      rw [List.drop_append, List.drop_eq_nil_of_le (by rw [List.length_map]; omega), List.nil_append, List.length_map, List.drop_replicate]
      congr 1; omega
    rw [e1, e2, List.append_assoc]
  · have hn : R.data.toList = [] := List.eq_nil_of_length_eq_zero (by omega)
    rw [hn, h0]
    simp
theorem ext_bytes (x : ByteArray) (s : Nat) : (x.extract s x.size).data.toList = x.data.toList.drop s := by
  rw [Lib.extract_data]; exact List.take_of_length_le (by simp)
theorem ext_size (x : ByteArray) (s : Nat) : (x.extract s x.size).size = x.size - s := by simp
theorem below_row {B : Nat} {a w : World} {g : Nat} (h : Below B a w) (hB : B ≤ g) (C : Array Value) : Below B a (w.setRow g C) :=
  ⟨h.os, h.tape, h.output, by rw [show (w.setRow g C).heap.size = w.heap.size by simp [World.setRow]]; exact h.size, fun i hi => (setRow_other w g i C (by omega)).trans (h.block i hi)⟩
set_option maxRecDepth 100000 in
set_option maxHeartbeats 1000000 in
theorem encode_any (A : Option Addr) (c : Nat) (L : List ByteArray) (hL : L.length ≤ 9223372036854775807) (hsz : ∀ x ∈ L, x.size ≤ 9223372036854775807) (w : World) (hR : Rd Value.string w A L) (hok : chk L = 0) :
    Calls Try.prog 39 #[.slice A L.length c] w fun e w' => e = .returned (.tuple #[.string ⟨(frm L L.length).toArray⟩, .int .i64 0]) ∧ Below w.heap.size w w' := by
  have HR := Lib.hid hR
  obtain ⟨hs1, hs2, hs3⟩ := chk_zero hok
  have hck := check_any A c L hL hsz w hR
  rw [hok] at hck
  have hfb := frm_bound L L.length (fun x hx => by have := hs1 x hx; omega)
  have hf2 := frm_mono L (Nat.zero_le L.length)
  rw [frm_two] at hf2
  obtain ⟨N, hN⟩ : ∃ N, N = (frm L L.length).length := ⟨_, rfl⟩
  have hsize := fun W h => size_any A c L (by omega) (fun x hx => by have := hs1 x hx; omega) W h
  rw [← hN] at hsize hfb hf2
  have HN := Lib.hid hN
  have HSZ := Lib.hid hsize
  have HS1 := Lib.hid hs1
  have km := fun W => make_bytes N (by omega) W
  clear hR hs2 hsz hok hsize hs1 hN
  go_enter Try.func39, Try.ntmps39
  go_wp2_with fail
  refine hck.mono ?_
  rintro e w1 ⟨rfl, hB1⟩
  have HB1 := Lib.hid hB1
  clear hck
  go_wp2_with fail
  refine (HSZ.out w1 (HR.out.below hB1)).mono ?_
  rintro e w2 ⟨rfl, q2, rfl⟩
  have hmk : (Instr.makeSlice 30 (.int .i64 (N : Int)) (.int .i64 (N : Int))).run Try.prog (w1.drewN q2) = _ := km (w1.drewN q2)
  obtain ⟨W0, hW0⟩ : ∃ W0, W0 = (w1.drewN q2).alloc (.cells (List.replicate N (Value.int .u8 0)).toArray 5) := ⟨_, rfl⟩
  have hBy0 : By W0 w1.heap.size N [] := ⟨Nat.zero_le _, by rw [hW0]; exact Deep.blk_alloc_new (w1.drewN q2) _⟩
  have hBW : Below w.heap.size w W0 := by rw [hW0]; exact (below_drewN hB1 q2).alloc hB1.size _
  rw [← hW0] at hmk
  obtain ⟨⟨u0, hu0⟩, hz0⟩ := hBy0.cell 0 (by omega)
  obtain ⟨⟨u1, hu1⟩, hz1⟩ := hBy0.cell 1 (by omega)
  have HBy0 := Lib.hid hBy0
  have HBW := Lib.hid hBW
  clear km hBy0 hBW hB1 hW0
  go_wp2_with fail
  have e0 : ((L.length : Int) / 256) = ((L.length / 256 : Nat) : Int) := by omega
  have e1 : ((L.length : Int) % 256) = ((L.length % 256 : Nat) : Int) := by omega
  have hv0 : Value.int .u8 ((L.length : Int) / 256) = u8v (UInt8.ofNat (L.length / 256)) := by rw [u8_cast _ (by omega), e0]
  have hv1 : Value.int .u8 ((L.length : Int) % 256) = u8v (UInt8.ofNat L.length) := by
    unfold u8v
    rw [UInt8.toNat_ofNat', e1]
  rw [hv0, hv1]
  have hBy2 : Hid (By ((W0.setCell ⟨w1.heap.size, 0, none⟩ (u8v (UInt8.ofNat (L.length / 256)))).setCell ⟨w1.heap.size, 1, none⟩ (u8v (UInt8.ofNat L.length))) w1.heap.size N (frm L 0)) := Lib.hid ((HBy0.out.put 0 rfl (by omega) _).put 1 rfl (by omega) _)
  have hBW2 : Hid (Below w.heap.size w ((W0.setCell ⟨w1.heap.size, 0, none⟩ (u8v (UInt8.ofNat (L.length / 256)))).setCell ⟨w1.heap.size, 1, none⟩ (u8v (UInt8.ofNat L.length)))) := Lib.hid ((HBW.out.setCell HB1.out.size _).setCell HB1.out.size _)
  have hg1 := HB1.out.size
  obtain ⟨g, hg⟩ : ∃ g, g = w1.heap.size := ⟨_, rfl⟩
  rw [← hg] at hBy2 hBW2 hg1 ⊢
  clear hmk hu0 hu1 hz0 hz1 HBy0 HBW e0 e1 hv0 hv1 hg
  go_loopw [6, 31] (fun n i wr => ∃ k : Nat, k ≤ L.length ∧ i = .int .i64 k ∧ n = .int .i64 ((frm L k).length : Nat) ∧ Hid (By wr g N (frm L k)) ∧ Hid (Below w.heap.size w wr)) (fun _ i _ => L.length - (intOf i).toNat)
  case atStart => exact ⟨0, Nat.zero_le _, rfl, rfl, hBy2, hBW2⟩
  case round =>
    obtain ⟨k, hk, rfl, rfl, hBy, hB⟩ := hrel
    by_cases hlt : k < L.length
    · obtain ⟨b, off, rfl, hb, hc⟩ := (HR.out.below hB.out) k hlt
      have hx := HS1.out _ (List.getElem_mem hlt)
      have hfl := frm_len L k
      have hfs := frm_succ L k
      have hil := item_len L k
      have hsw := sw_le L k
      have hmono := frm_mono L (show k + 1 ≤ L.length by omega)
      rw [← HN.out] at hmono
      rw [getD_at L k hlt] at hil hsw
      have hitem : item L k = (if k % 16 = 0 then [] else [UInt8.ofNat (sw L k)]) ++ (UInt8.ofNat (L[k].size - sw L k) :: L[k].data.toList.drop (sw L k)) := by unfold item; rw [getD_at L k hlt]
      have hsh := shared_any (some ⟨b, off, none⟩) c L k hlt (by omega) (fun x hx => by have := HS1.out x hx; omega) wr (HR.out.below hB.out)
      have hbg := begins_any k (by omega)
      obtain ⟨x, hxe⟩ : ∃ x, x = L[k] := ⟨_, rfl⟩
      rw [← hxe] at hc hx hil hsw hitem
      obtain ⟨Fl, hFl⟩ : ∃ F, F = frm L k := ⟨_, rfl⟩
      obtain ⟨Gl, hGl⟩ : ∃ F, F = frm L (k + 1) := ⟨_, rfl⟩
      obtain ⟨F, hF⟩ : ∃ F, F = Fl.length := ⟨_, rfl⟩
      obtain ⟨s, hs⟩ : ∃ s, s = sw L k := ⟨_, rfl⟩
      rw [← hFl] at hfl hfs hBy ⊢
      rw [← hF] at hfl ⊢
      rw [← hGl] at hfl hfs hmono
      rw [← hs] at hsh hil hsw hitem
      have HF := Lib.hid hF
      have HG := Lib.hid hGl
      have HSH := Lib.hid hsh
      have HBG := Lib.hid hbg
      by_cases h16 : k % 16 = 0
      · rw [if_pos h16] at hil hitem
        have hGe : Hid (Gl = Fl ++ [UInt8.ofNat (x.size - s)] ++ x.data.toList.drop s) := Lib.hid (by rw [hfs, hitem]; simp)
        rw [decide_eq_true h16] at HBG
        have hsum : F + 1 + (x.size - s) ≤ N := by omega
        have hsum2 : Hid (Gl.length = F + 1 + (x.size - s)) := Lib.hid (by omega)
        clear hxe hFl hGl hF hs hsh hbg hfl hfs hmono hil hitem h16
        go_wp2_with fail
        refine HSH.out.mono ?_
        rintro e w3 ⟨rfl, q3, rfl⟩
        go_wp2_with fail
        refine (HBG.out _).mono ?_
        rintro e w4 ⟨rfl, rfl⟩
        obtain ⟨⟨u, hu⟩, hz⟩ := (hBy.out.drewN q3).cell F (by omega)
        go_wp2_with fail
        obtain ⟨W, hW⟩ : ∃ W, W = (wr.drewN q3).setCell ⟨g, F, none⟩ (.int .u8 ((x.size : Int) - (s : Int))) := ⟨_, rfl⟩
        rw [← hW]
        have hByW : By W g N (Fl ++ [UInt8.ofNat (x.size - s)]) := by rw [hW]; rw [show Value.int .u8 ((x.size : Int) - (s : Int)) = u8v (UInt8.ofNat (x.size - s)) by rw [u8_cast _ (by omega)]; congr 1; omega]; exact (hBy.out.drewN q3).put F HF.out (by omega) _
        have hBW : Below w.heap.size w W := by rw [hW]; exact (below_drewN hB.out q3).setCell hg1 _
        have hLen : Hid (F + 1 = ((Fl ++ [UInt8.ofNat (x.size - s)])).length) := Lib.hid (by rw [HF.out]; simp)
        have hxs := ext_size x s
        have hNs : x.size - s ≤ N - (F + 1) := by omega
        have hatN : F + 1 ≤ N := by omega
        by_cases hNe : N = F + 1
        · subst hNe
          obtain ⟨C, hrun, hBy3⟩ := copy_by (W := W.drew) hByW hLen.out (x.extract s x.size) (by rw [hxs]; exact hsum) 0 0 (by rw [hxs]; omega) 0 (.inr ⟨by rw [hxs]; omega, rfl⟩)
          rw [hxs] at hrun
          have HBy3 := Lib.hid hBy3
          have HBW := Lib.hid hBW
          clear hByW hBW hBy3 hW hu hz hxs
          go_region
          go_wp2_with fail
          go_roundw
          case rel =>
            refine ⟨k + 1, by omega, by go_num, ?_, ?_, Lib.hid (below_row HBW.out.drew hg1 _)⟩
            · rw [← HG.out, hsum2.out]; first | (congr 1; done) | (congr 1; omega)
            · rw [← HG.out, hGe.out]
              have h := HBy3.out
              rw [ext_bytes] at h
              exact Lib.hid h
          case measure => simp [intOf]; omega
        · obtain ⟨C, hrun, hBy3⟩ := copy_by (W := W.drew) hByW hLen.out (x.extract s x.size) (by rw [hxs]; exact hsum) (N - (F + 1)) (N - (F + 1)) (by rw [hxs]; exact hNs) (F + 1) (.inl rfl)
          rw [hxs] at hrun
          have HBy3 := Lib.hid hBy3
          have HBW := Lib.hid hBW
          clear hByW hBW hBy3 hW hu hz hxs
          go_region
          go_wp2_with fail
          go_roundw
          case rel =>
            refine ⟨k + 1, by omega, by go_num, ?_, ?_, Lib.hid (below_row HBW.out.drew hg1 _)⟩
            · rw [← HG.out, hsum2.out]; first | (congr 1; done) | (congr 1; omega)
            · rw [← HG.out, hGe.out]
              have h := HBy3.out
              rw [ext_bytes] at h
              exact Lib.hid h
          case measure => simp [intOf]; omega
      · rw [if_neg h16] at hil hitem
        have hGe : Hid (Gl = Fl ++ [UInt8.ofNat s] ++ [UInt8.ofNat (x.size - s)] ++ x.data.toList.drop s) := Lib.hid (by rw [hfs, hitem]; simp)
        rw [decide_eq_false h16] at HBG
        have hsum : F + 1 + 1 + (x.size - s) ≤ N := by omega
        have hsum2 : Hid (Gl.length = F + 1 + 1 + (x.size - s)) := Lib.hid (by omega)
        clear hxe hFl hGl hF hs hsh hbg hfl hfs hmono hil hitem h16
        go_wp2_with fail
        refine HSH.out.mono ?_
        rintro e w3 ⟨rfl, q3, rfl⟩
        go_wp2_with fail
        refine (HBG.out _).mono ?_
        rintro e w4 ⟨rfl, rfl⟩
        obtain ⟨⟨u, hu⟩, hz⟩ := (hBy.out.drewN q3).cell F (by omega)
        obtain ⟨⟨u', hu'⟩, hz'⟩ := (hBy.out.drewN q3).cell (F + 1) (by omega)
        go_wp2_with fail
        obtain ⟨W, hW⟩ : ∃ W, W = ((wr.drewN q3).setCell ⟨g, F, none⟩ (.int .u8 (s : Int))).setCell ⟨g, F + 1, none⟩ (.int .u8 ((x.size : Int) - (s : Int))) := ⟨_, rfl⟩
        rw [← hW]
        have hByW : By W g N (Fl ++ [UInt8.ofNat s] ++ [UInt8.ofNat (x.size - s)]) := by rw [hW]; rw [show Value.int .u8 ((x.size : Int) - (s : Int)) = u8v (UInt8.ofNat (x.size - s)) by rw [u8_cast _ (by omega)]; congr 1; omega, ← u8_cast s (by omega)]; exact ((hBy.out.drewN q3).put F HF.out (by omega) _).put (F + 1) (by rw [HF.out]; simp) (by omega) _
        have hBW : Below w.heap.size w W := by rw [hW]; exact ((below_drewN hB.out q3).setCell hg1 _).setCell hg1 _
        have hLen : Hid (F + 1 + 1 = ((Fl ++ [UInt8.ofNat s] ++ [UInt8.ofNat (x.size - s)])).length) := Lib.hid (by rw [HF.out]; simp)
        have hxs := ext_size x s
        have hNs : x.size - s ≤ N - (F + 1 + 1) := by omega
        have hatN : F + 1 + 1 ≤ N := by omega
        by_cases hNe : N = F + 1 + 1
        · subst hNe
          obtain ⟨C, hrun, hBy3⟩ := copy_by (W := W.drew) hByW hLen.out (x.extract s x.size) (by rw [hxs]; exact hsum) 0 0 (by rw [hxs]; omega) 0 (.inr ⟨by rw [hxs]; omega, rfl⟩)
          rw [hxs] at hrun
          have HBy3 := Lib.hid hBy3
          have HBW := Lib.hid hBW
          clear hByW hBW hBy3 hW hu hz hxs hu' hz'
          go_region
          go_wp2_with fail
          go_roundw
          case rel =>
            refine ⟨k + 1, by omega, by go_num, ?_, ?_, Lib.hid (below_row HBW.out.drew hg1 _)⟩
            · rw [← HG.out, hsum2.out]; first | (congr 1; done) | (congr 1; omega)
            · rw [← HG.out, hGe.out]
              have h := HBy3.out
              rw [ext_bytes] at h
              exact Lib.hid h
          case measure => simp [intOf]; omega
        · obtain ⟨C, hrun, hBy3⟩ := copy_by (W := W.drew) hByW hLen.out (x.extract s x.size) (by rw [hxs]; exact hsum) (N - (F + 1 + 1)) (N - (F + 1 + 1)) (by rw [hxs]; exact hNs) (F + 1 + 1) (.inl rfl)
          rw [hxs] at hrun
          have HBy3 := Lib.hid hBy3
          have HBW := Lib.hid hBW
          clear hByW hBW hBy3 hW hu hz hxs hu' hz'
          go_region
          go_wp2_with fail
          go_roundw
          case rel =>
            refine ⟨k + 1, by omega, by go_num, ?_, ?_, Lib.hid (below_row HBW.out.drew hg1 _)⟩
            · rw [← HG.out, hsum2.out]; first | (congr 1; done) | (congr 1; omega)
            · rw [← HG.out, hGe.out]
              have h := HBy3.out
              rw [ext_bytes] at h
              exact Lib.hid h
          case measure => simp [intOf]; omega
    · obtain rfl : k = L.length := by omega
      have hBy2' := hBy.out
      have hcv : (convert 30 9 (.slice (some ⟨g, 0, none⟩) N N)).run Try.prog wr = .ok (.string ⟨(frm L L.length).toArray⟩) wr := by
        have hn : N = (frm L L.length).length := HN.out
        have := run_convert_bytes_back wr 30 9 5 ⟨g, 0, none⟩ N (frm L L.length) Try.underlying30 Try.underlying5 Try.underlying9 (fun j hj => by
          have e1 : (⟨g, 0, none⟩ : Addr).add j = ⟨g, j, none⟩ := by unfold Addr.add; split <;> simp_all
          rw [e1, cell_of_row wr g j _ _ _ hBy2'.2, List.getElem?_toArray, List.getElem?_append_left (by rw [List.length_map]; exact hj), List.getElem?_map, List.getElem?_eq_getElem hj]
          rfl)
        rw [← hn] at this
        exact this
      clear hBy2'
      go_wp2_with fail
      go_ret2
      exact ⟨rfl, hB.out⟩
set_option maxHeartbeats 1000000 in
theorem encode_bad (A : Option Addr) (c : Nat) (L : List ByteArray) (hL : L.length ≤ 9223372036854775807) (hsz : ∀ x ∈ L, x.size ≤ 9223372036854775807) (w : World) (hR : Rd Value.string w A L) (hok : chk L ≠ 0) :
    Calls Try.prog 39 #[.slice A L.length c] w fun e w' => e = .returned (.tuple #[.string ByteArray.empty, .int .i64 (chk L)]) ∧ Below w.heap.size w w' := by
  have hck := check_any A c L hL hsz w hR
  obtain ⟨E, hE⟩ : ∃ E, E = chk L := ⟨_, rfl⟩
  rw [← hE] at hok hck ⊢
  have hne : (E != 0) = true := by simpa using hok
  have hne2 : (E == 0) = false := by simpa using hok
  clear hR hsz hok hE
  go_enter Try.func39, Try.ntmps39
  go_wp2_with fail
  refine hck.mono ?_
  rintro e w1 ⟨rfl, hB1⟩
  have HB1 := Lib.hid hB1
  clear hck hB1
  go_wp2_with fail
  go_ret2
  exact ⟨rfl, HB1.out⟩
end Go.Proofs.Ytoohphhfigiicaa
