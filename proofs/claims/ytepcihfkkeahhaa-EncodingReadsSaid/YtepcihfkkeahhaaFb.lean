/- EncodeFragment, EncodeTrace (written by wip/bin/gen_fb.py). -/
import Derived.Test.YtepcihfkkeahhaaFa
namespace Go.Proofs.Ytepcihfkkeahhaa
open Go.ChangeShapes Go.WideShapes Go.ChangeAt Go.RowKit En

def fragF (a q : Int) (L : List Sv) (M : List Ex) : List UInt8 := num a ++ (num q ++ ((num L.length ++ spForms L) ++ (num M.length ++ exForms M)))
def traceF (a q : Int) (L : List Sv) : List UInt8 := num a ++ (num q ++ (num L.length ++ spForms L))

set_option maxRecDepth 100000 in
set_option maxHeartbeats 2000000 in
theorem encode_frag (a q : Int) (ha : In64 a) (hq : In64 q) (L : List Sv) (hL : L.length ≤ 4096) (hF : (spForms L).length ≤ 40000) (A : Option Addr) (c : Nat) (M : List Ex) (hM : M.length ≤ 4096) (hG : (exForms M).length ≤ 200000) (hex : ∀ x ∈ M, ExOk x) (A2 : Option Addr) (c2 : Nat) (w : World) (hok : ∀ x ∈ L, x.1.Ok ∧ x.1.Has w w.heap.size x.2.1 x.2.2) (hR : Rs w w.heap.size A (spCells L)) (hR2 : Rs w w.heap.size A2 (exCells M)) :
    Calls Try.prog 30 #[.agg #[.int .i64 a, .int .i64 q, .slice A L.length c, .slice A2 M.length c2]] w fun e w' => e = .returned (.string (bytesOf (fragF a q L M))) ∧ Below w.heap.size w w' := by
  have b1 := num_bounds a ha.1 ha.2
  have b2 := num_bounds q hq.1 hq.2
  have b3 := num_bounds (L.length : Int) (by omega) (by omega)
  unfold fragF
  obtain ⟨F1, hF1⟩ : ∃ F, F = num a := ⟨_, rfl⟩
  obtain ⟨F2, hF2⟩ : ∃ F, F = num q := ⟨_, rfl⟩
  obtain ⟨F3, hF3⟩ : ∃ F, F = num (L.length : Int) ++ spForms L := ⟨_, rfl⟩
  obtain ⟨F4, hF4⟩ : ∃ F, F = num (M.length : Int) ++ exForms M := ⟨_, rfl⟩
  rw [← hF1, ← hF2, ← hF3, ← hF4]
  rw [← hF1] at b1
  rw [← hF2] at b2
  have b3' : F3.length ≤ 50000 := by rw [hF3, List.length_append]; omega
  have EF1 := Lib.hid hF1
  have EF2 := Lib.hid hF2
  have EF3 := Lib.hid hF3
  have EF4 := Lib.hid hF4
  obtain ⟨FF, hFF⟩ : ∃ F, F = F1 ++ (F2 ++ (F3 ++ F4)) := ⟨_, rfl⟩
  rw [← hFF]
  have EFF := Lib.hid hFF
  have hpos : 0 < FF.length := by rw [hFF, List.length_append]; omega
  have Hpos := Lib.hid hpos
  have HA : Hid (Bk w.heap.size w (w.alloc (.cells #[.int .i64 a, .int .i64 q, .slice A L.length c, .slice A2 M.length c2] 62))) := Lib.hid ((Bk.refl _ w).alloc (Nat.le_refl _) _)
  have Hblk0 : Hid ((w.alloc (.cells #[.int .i64 a, .int .i64 q, .slice A L.length c, .slice A2 M.length c2] 62)).heap[w.heap.size]? = some (.cells #[.int .i64 a, .int .i64 q, .slice A L.length c, .slice A2 M.length c2] 62 (0, 0))) := Lib.hid (Deep.blk_alloc_new w _)
  have Hok : Hid (∀ w', Below w.heap.size w w' → ∀ x ∈ L, x.1.Ok ∧ x.1.Has w' w.heap.size x.2.1 x.2.2) := Lib.hid (fun w' hb x hx => ⟨(hok x hx).1, (hok x hx).2.below hb⟩)
  have HR := Lib.hid hR
  have HR2 := Lib.hid hR2
  have Hex := Lib.hid hex
  clear hok hR hFF hpos hR2 hex hF1 hF2 hF3 hF4
  have hbase : w.heap.size < (w.alloc (.cells #[.int .i64 a, .int .i64 q, .slice A L.length c, .slice A2 M.length c2] 62)).heap.size := by simp
  go_enter Try.func30, Try.ntmps30
  go_wp2_with fail
  refine (append_number w.heap.size (.slice none 0 0) 0 [] (by omega) a ha.1 ha.2 _ (by simp) ⟨rfl, Or.inl ⟨rfl, rfl⟩⟩).mono ?_
  rw [← EF1.out]
  rintro e w1 ⟨⟨v1, hown1, rfl⟩, hB1⟩
  have Hblk1 := Lib.hid (hB1.2 _ _ _ (by decide) Hblk0.out)
  have HO1 := Lib.hid hown1
  have HB1 := Lib.hid (HA.out.trans hB1)
  have hs1 : w.heap.size < w1.heap.size := (Array.getElem?_eq_some_iff.1 Hblk1.out).1
  have c1' : w1.cell? ⟨w.heap.size, 1, none⟩ = some (.int .i64 q) := cell_of_row w1 w.heap.size 1 _ _ _ Hblk1.out
  clear hown1 hB1
  go_wp2_with fail
  refine (append_number w.heap.size v1 _ _ (by simp; omega) q hq.1 hq.2 w1 (by omega) HO1.out).mono ?_
  rw [← EF2.out]
  rintro e w2 ⟨⟨v2, hown2, rfl⟩, hB2⟩
  have Hblk2 := Lib.hid (hB2.2 _ _ _ (by decide) Hblk1.out)
  have HO2 := Lib.hid hown2
  have HB2 := Lib.hid (HB1.out.trans hB2)
  have hs2 : w.heap.size < w2.heap.size := (Array.getElem?_eq_some_iff.1 Hblk2.out).1
  have c2' : w2.cell? ⟨w.heap.size, 2, none⟩ = some (.slice A L.length c) := cell_of_row w2 w.heap.size 2 _ _ _ Hblk2.out
  clear hown2 hB2 c1' Hblk1 HO1
  go_wp2_with fail
  refine (append_spans w.heap.size v2 _ _ (by simp; omega) L hL (by omega) A c w2 (Hok.out w2 HB2.out.1) (by omega) HO2.out (HR.out.below HB2.out.1)).mono ?_
  rw [← EF3.out]
  rintro e w3 ⟨⟨v3, hown3, rfl⟩, hB3⟩
  have Hblk3 := Lib.hid (hB3.2 _ _ _ (by decide) Hblk2.out)
  have HO3 := Lib.hid hown3
  have HB3 := Lib.hid (HB2.out.trans hB3)
  have hs3 : w.heap.size < w3.heap.size := (Array.getElem?_eq_some_iff.1 Hblk3.out).1
  have c3' : w3.cell? ⟨w.heap.size, 3, none⟩ = some (.slice A2 M.length c2) := cell_of_row w3 w.heap.size 3 _ _ _ Hblk3.out
  clear hown3 hB3 c2' Hblk2 HO2
  go_wp2_with fail
  refine (append_exchs w.heap.size v3 _ _ (by simp; omega) M hM (by omega) A2 c2 w3 Hex.out (by omega) HO3.out (HR2.out.below HB3.out.1)).mono ?_
  rw [← EF4.out]
  rintro e w4 ⟨⟨v4, hown4, rfl⟩, hB4⟩
  have HO4 := Lib.hid hown4
  have HB4 := Lib.hid (HB3.out.trans hB4)
  clear hown4 hB4 c3' Hblk3 HO3
  have hown : w4.ownsRow w.heap.size 5 1 v4 FF.length (FF.map u8v) := by
    have h := HO4.out
    have e1 : FF.length = 0 + F1.length + F2.length + F3.length + F4.length := by rw [EFF.out]; simp only [List.length_append]; omega
    have e2 : FF = [] ++ F1 ++ F2 ++ F3 ++ F4 := by rw [EFF.out]; simp only [List.append_assoc, List.nil_append]
    rw [e1, e2]
    exact h
  have hcv := conv_own hown Hpos.out
  clear hown
  go_wp2_with fail
  go_ret
  exact ⟨rfl, HB4.out.1⟩

set_option maxRecDepth 100000 in
set_option maxHeartbeats 2000000 in
theorem encode_trace (a q : Int) (ha : In64 a) (hq : In64 q) (L : List Sv) (hL : L.length ≤ 4096) (hF : (spForms L).length ≤ 40000) (A : Option Addr) (c : Nat) (w : World) (hok : ∀ x ∈ L, x.1.Ok ∧ x.1.Has w w.heap.size x.2.1 x.2.2) (hR : Rs w w.heap.size A (spCells L)) :
    Calls Try.prog 31 #[.agg #[.int .i64 a, .int .i64 q, .slice A L.length c]] w fun e w' => e = .returned (.string (bytesOf (traceF a q L))) ∧ Below w.heap.size w w' := by
  have b1 := num_bounds a ha.1 ha.2
  have b2 := num_bounds q hq.1 hq.2
  have b3 := num_bounds (L.length : Int) (by omega) (by omega)
  unfold traceF
  obtain ⟨F1, hF1⟩ : ∃ F, F = num a := ⟨_, rfl⟩
  obtain ⟨F2, hF2⟩ : ∃ F, F = num q := ⟨_, rfl⟩
  obtain ⟨F3, hF3⟩ : ∃ F, F = num (L.length : Int) ++ spForms L := ⟨_, rfl⟩
  rw [← hF1, ← hF2, ← hF3]
  rw [← hF1] at b1
  rw [← hF2] at b2
  have b3' : F3.length ≤ 50000 := by rw [hF3, List.length_append]; omega
  have EF1 := Lib.hid hF1
  have EF2 := Lib.hid hF2
  have EF3 := Lib.hid hF3
  obtain ⟨FF, hFF⟩ : ∃ F, F = F1 ++ (F2 ++ F3) := ⟨_, rfl⟩
  rw [← hFF]
  have EFF := Lib.hid hFF
  have hpos : 0 < FF.length := by rw [hFF, List.length_append]; omega
  have Hpos := Lib.hid hpos
  have HA : Hid (Bk w.heap.size w (w.alloc (.cells #[.int .i64 a, .int .i64 q, .slice A L.length c] 65))) := Lib.hid ((Bk.refl _ w).alloc (Nat.le_refl _) _)
  have Hblk0 : Hid ((w.alloc (.cells #[.int .i64 a, .int .i64 q, .slice A L.length c] 65)).heap[w.heap.size]? = some (.cells #[.int .i64 a, .int .i64 q, .slice A L.length c] 65 (0, 0))) := Lib.hid (Deep.blk_alloc_new w _)
  have Hok : Hid (∀ w', Below w.heap.size w w' → ∀ x ∈ L, x.1.Ok ∧ x.1.Has w' w.heap.size x.2.1 x.2.2) := Lib.hid (fun w' hb x hx => ⟨(hok x hx).1, (hok x hx).2.below hb⟩)
  have HR := Lib.hid hR
  clear hok hR hFF hpos hF1 hF2 hF3
  have hbase : w.heap.size < (w.alloc (.cells #[.int .i64 a, .int .i64 q, .slice A L.length c] 65)).heap.size := by simp
  go_enter Try.func31, Try.ntmps31
  go_wp2_with fail
  refine (append_number w.heap.size (.slice none 0 0) 0 [] (by omega) a ha.1 ha.2 _ (by simp) ⟨rfl, Or.inl ⟨rfl, rfl⟩⟩).mono ?_
  rw [← EF1.out]
  rintro e w1 ⟨⟨v1, hown1, rfl⟩, hB1⟩
  have Hblk1 := Lib.hid (hB1.2 _ _ _ (by decide) Hblk0.out)
  have HO1 := Lib.hid hown1
  have HB1 := Lib.hid (HA.out.trans hB1)
  have hs1 : w.heap.size < w1.heap.size := (Array.getElem?_eq_some_iff.1 Hblk1.out).1
  have c1' : w1.cell? ⟨w.heap.size, 1, none⟩ = some (.int .i64 q) := cell_of_row w1 w.heap.size 1 _ _ _ Hblk1.out
  clear hown1 hB1
  go_wp2_with fail
  refine (append_number w.heap.size v1 _ _ (by simp; omega) q hq.1 hq.2 w1 (by omega) HO1.out).mono ?_
  rw [← EF2.out]
  rintro e w2 ⟨⟨v2, hown2, rfl⟩, hB2⟩
  have Hblk2 := Lib.hid (hB2.2 _ _ _ (by decide) Hblk1.out)
  have HO2 := Lib.hid hown2
  have HB2 := Lib.hid (HB1.out.trans hB2)
  have hs2 : w.heap.size < w2.heap.size := (Array.getElem?_eq_some_iff.1 Hblk2.out).1
  have c2' : w2.cell? ⟨w.heap.size, 2, none⟩ = some (.slice A L.length c) := cell_of_row w2 w.heap.size 2 _ _ _ Hblk2.out
  clear hown2 hB2 c1' Hblk1 HO1
  go_wp2_with fail
  refine (append_spans w.heap.size v2 _ _ (by simp; omega) L hL (by omega) A c w2 (Hok.out w2 HB2.out.1) (by omega) HO2.out (HR.out.below HB2.out.1)).mono ?_
  rw [← EF3.out]
  rintro e w3 ⟨⟨v3, hown3, rfl⟩, hB3⟩
  have Hblk3 := Lib.hid (hB3.2 _ _ _ (by decide) Hblk2.out)
  have HO3 := Lib.hid hown3
  have HB3 := Lib.hid (HB2.out.trans hB3)
  have hs3 : w.heap.size < w3.heap.size := (Array.getElem?_eq_some_iff.1 Hblk3.out).1
  clear hown3 hB3 c2' Hblk2 HO2
  have hown : w3.ownsRow w.heap.size 5 1 v3 FF.length (FF.map u8v) := by
    have h := HO3.out
    have e1 : FF.length = 0 + F1.length + F2.length + F3.length := by rw [EFF.out]; simp only [List.length_append]; omega
    have e2 : FF = [] ++ F1 ++ F2 ++ F3 := by rw [EFF.out]; simp only [List.append_assoc, List.nil_append]
    rw [e1, e2]
    exact h
  have hcv := conv_own hown Hpos.out
  clear hown
  go_wp2_with fail
  go_ret
  exact ⟨rfl, HB3.out.1⟩

end Go.Proofs.Ytepcihfkkeahhaa
