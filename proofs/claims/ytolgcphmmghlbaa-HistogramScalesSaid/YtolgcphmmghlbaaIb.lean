/- Scale (written by wip/bin/gen_hia.py). -/
import Derived.Test.YtolgcphmmghlbaaHz
namespace Go.Proofs.Ytolgcphmmghlbaa
open Go.ChangeShapes Go.WideShapes Go.ChangeAt Go.RowKit Go.Joins

set_option maxRecDepth 100000 in
set_option maxHeartbeats 4000000 in
theorem scale_bad (A : Option Addr) (c : Nat) (cv : List Int) (hC : Cv cv) (m : Int) (k : Int) (hk : (m < 0 ∧ k = 2) ∨ (0 ≤ m ∧ 0 < sN cv 305 ∧ (1048576 : Int).tdiv (sN cv 305) < m ∧ k = 20)) (w : World) (hR : Rs w w.heap.size A (ivCells (bk cv))) :
    Calls Try.prog 32 #[.agg #[.slice A (bk cv).length c], .int .i64 m] w fun e w' => e = .returned (.tuple #[.agg #[.slice none 0 0], .int .i64 k]) ∧ Below w.heap.size w w' := by
  have HT := Lib.hid (fun W h => total_any A c (bk cv) (Cv.bklen cv) hC.vb W h)
  rw [Cv.tt] at HT
  have HR := Lib.hid (fun W (hb : Below w.heap.size w W) => (fun j hj => by
    obtain ⟨b, off, e, h1, h2⟩ := Rs.below hR hb j hj
    exact ⟨b, off, e, Nat.lt_of_lt_of_le h1 hb.size, h2⟩ : Rs W W.heap.size A (ivCells (bk cv))))
  have ht0 : 0 ≤ sN cv 305 ∧ sN cv 305 ≤ 1048576 := ⟨(le_sN cv hC.pos 305 0 (by omega)).1, hC.tot⟩
  obtain ⟨t, ht⟩ : ∃ t, t = sN cv 305 := ⟨_, rfl⟩
  rw [← ht] at HT hk ht0
  obtain ⟨ln, hln⟩ : ∃ ln, ln = (bk cv).length := ⟨_, rfl⟩
  rw [← hln] at HT ⊢
  clear hln ht hR hC
  rcases hk with ⟨h1, rfl⟩ | ⟨h1, h2, h3, rfl⟩
  · have d1 : decide (m < 0) = true := by simpa using h1
    have HB0 : Hid (Below w.heap.size w ((w.alloc (.cells #[.slice A ln c] 33)).alloc (.cells #[.slice none 0 0] 33))) := Lib.hid (((Below.refl _ _).alloc (Nat.le_refl _) _).alloc (by simp) _)
    have hz0 : ((w.alloc (.cells #[.slice A ln c] 33)).alloc (.cells #[.slice none 0 0] 33)).heap.size = w.heap.size + 1 + 1 := by simp
    have HG0 := Lib.hid (blk_under w (.cells #[.slice A ln c] 33) (.cells #[.slice none 0 0] 33))
    have HG1 := Lib.hid (blk_over w (.cells #[.slice A ln c] 33) (.cells #[.slice none 0 0] 33))
    go_enter Try.func32, Try.ntmps32
    go_wp2_with fail
    refine bodyPost_ret (v := .tuple #[.agg #[.slice none 0 0], .int .i64 2]) ?_ rfl ⟨rfl, ?_⟩
    · rw [results_cell_tmp1 rfl]; go_simp <;> rfl
    · simpa using HB0.out
  · have d1 : decide (m < 0) = false := by simpa using h1
    have d2 : decide (0 < t) = true := by simpa using h2
    obtain ⟨q, hq⟩ : ∃ q, q = (1048576 : Int).tdiv t := ⟨_, rfl⟩
    rw [← hq] at h3
    have hqb : 0 ≤ q ∧ q ≤ 1048576 := by
      rw [hq, Int.tdiv_eq_ediv_of_nonneg (by omega)]
      exact ⟨Int.ediv_nonneg (by omega) (by omega), Int.ediv_le_self _ (by omega)⟩
    have hq2 := hq.symm
    have hwq : IntKind.i64.wrap q = q := by simp only [IntKind.wrap_i64]; omega
    have d3 : decide (q < m) = true := by simpa using h3
    have hd0 : t ≠ 0 := by omega
    clear hq
    have HB0 : Hid (Below w.heap.size w ((w.alloc (.cells #[.slice A ln c] 33)).alloc (.cells #[.slice none 0 0] 33))) := Lib.hid (((Below.refl _ _).alloc (Nat.le_refl _) _).alloc (by simp) _)
    have hz0 : ((w.alloc (.cells #[.slice A ln c] 33)).alloc (.cells #[.slice none 0 0] 33)).heap.size = w.heap.size + 1 + 1 := by simp
    have HG0 := Lib.hid (blk_under w (.cells #[.slice A ln c] 33) (.cells #[.slice none 0 0] 33))
    have HG1 := Lib.hid (blk_over w (.cells #[.slice A ln c] 33) (.cells #[.slice none 0 0] 33))
    go_enter Try.func32, Try.ntmps32
    go_wp2_with fail
    refine (HT.out _ (HR.out _ HB0.out)).mono ?_
    rintro e w1 ⟨rfl, hb⟩
    have HB1 := Lib.hid (HB0.out.trans (hb.mono HB0.out.size))
    have HK1 := Lib.hid ((hb.block w.heap.size (by rw [hz0]; omega)).trans HG0.out)
    have HJ1 := Lib.hid ((hb.block (w.heap.size + 1) (by rw [hz0]; omega)).trans HG1.out)
    have hl1 : w.heap.size + 1 < w1.heap.size := (Array.getElem?_eq_some_iff.1 HJ1.out).1
    clear hb
    have k0 := cell_of_row w1 w.heap.size 0 _ _ _ HK1.out
    simp at k0
    have c3' := cell_of_row w1 (w.heap.size + 1) 0 _ _ _ HJ1.out
    have hf3 := frz HJ1.out 0
    go_wp2_with fail
    refine bodyPost_ret (v := .tuple #[.agg #[.slice none 0 0], .int .i64 20]) ?_ rfl ⟨rfl, ?_⟩
    · rw [results_cell_tmp1 rfl]; go_simp <;> rfl
    · exact HB1.out.setCell (p := ⟨w.heap.size + 1, 0, none⟩) (by show w.heap.size ≤ w.heap.size + 1; omega) _
set_option maxRecDepth 100000 in
set_option maxHeartbeats 4000000 in
theorem scale_ok (A : Option Addr) (c : Nat) (cv : List Int) (hC : Cv cv) (m : Int) (hm0 : 0 ≤ m) (hms : sN cv 305 * m ≤ 1048576) (w : World) (hR : Rs w w.heap.size A (ivCells (bk cv))) :
    Calls Try.prog 32 #[.agg #[.slice A (bk cv).length c], .int .i64 m] w fun e w' => (∃ x, e = .returned (.tuple #[.agg #[x], .int .i64 0]) ∧ w'.ownsRow w.heap.size 66 2 x (bk (scC cv m)).length (ivCells (bk (scC cv m)))) ∧ Below w.heap.size w w' := by
  have HT := Lib.hid (fun W h => total_any A c (bk cv) (Cv.bklen cv) hC.vb W h)
  rw [Cv.tt] at HT
  have HR := Lib.hid (fun W (hb : Below w.heap.size w W) => (fun j hj => by
    obtain ⟨b, off, e, h1, h2⟩ := Rs.below hR hb j hj
    exact ⟨b, off, e, Nat.lt_of_lt_of_le h1 hb.size, h2⟩ : Rs W W.heap.size A (ivCells (bk cv))))
  have ht0 : 0 ≤ sN cv 305 ∧ sN cv 305 ≤ 1048576 := ⟨(le_sN cv hC.pos 305 0 (by omega)).1, hC.tot⟩
  have HCo := Lib.hid (fun W h => countsOf_any A c (bk cv) (Cv.bklen cv) hC.vb W h)
  rw [show coL (bk cv) (bk cv).length = cv from coL_bk cv hC.len] at HCo
  have hsb := counts_size cv hC.len
  have hall := counts_all cv
  have HSt := Lib.hid (fun k hk => opL_step (fun x _ => x * m) cv cv hC.len k hk)
  have HBd := Lib.hid (fun k => (by
    have h1 := hC.bd k
    refine ⟨h1, Int.mul_nonneg h1.1 hm0, ?_⟩
    by_cases hk : k < 305
    · exact Int.le_trans (Int.mul_le_mul_of_nonneg_right (le_sN cv hC.pos 305 k hk).2 hm0) hms
    · rw [getD_out hC.len k hk]; omega : (0 ≤ cv.getD k 0 ∧ cv.getD k 0 ≤ 1048576) ∧ 0 ≤ cv.getD k 0 * m ∧ cv.getD k 0 * m ≤ 1048576))
  have hZs : ((List.replicate 305 (Value.int .i64 0)).toArray).size = ((cv.map (Value.int .i64)).toArray).size := by simp [hC.len]
  have hCa := hC.scale m hm0 hms
  have HH := Lib.hid (fun W => hist_any (scC cv m) hCa.len (fun i => by have := hCa.bd i; omega) W)
  rw [show bkN (scC cv m) 305 = bk (scC cv m) from rfl] at HH
  have hsa := counts_size (scC cv m) hCa.len
  obtain ⟨cb, hcb⟩ : ∃ cb : Array Value, cb = ((scC cv m).map (Value.int .i64)).toArray := ⟨_, rfl⟩
  rw [← hcb] at HH hsa
  have Hcb := Lib.hid hcb
  have Hsa := Lib.hid hsa
  obtain ⟨B, hB⟩ : ∃ B, B = bk (scC cv m) := ⟨_, rfl⟩
  rw [← hB] at HH ⊢
  clear hB hcb hsa hCa
  obtain ⟨ca, hca⟩ : ∃ ca : Array Value, ca = (cv.map (Value.int .i64)).toArray := ⟨_, rfl⟩
  rw [← hca] at HCo hsb hall hZs
  have Hca := Lib.hid hca
  have hz := counts_zero
  obtain ⟨Z, hZ⟩ : ∃ Z : Array Value, Z = (List.replicate 305 (.int .i64 0)).toArray := ⟨_, rfl⟩
  rw [← hZ] at hz hZs
  have HZs := Lib.hid hZs
  have Hall := Lib.hid hall
  have Hsb := Lib.hid hsb
  clear hca hZ hZs hall hsb
  have hdv : 0 < sN cv 305 → m ≤ (1048576 : Int).tdiv (sN cv 305) := fun h => by
    rw [Int.tdiv_eq_ediv_of_nonneg (by omega)]
    exact (Int.le_ediv_iff_mul_le h).2 (by rw [Int.mul_comm]; exact hms)
  obtain ⟨t, ht⟩ : ∃ t, t = sN cv 305 := ⟨_, rfl⟩
  rw [← ht] at HT hdv ht0
  have d1 : decide (m < 0) = false := by simpa using hm0
  obtain ⟨ln, hln⟩ : ∃ ln, ln = (bk cv).length := ⟨_, rfl⟩
  rw [← hln] at HT HCo ⊢
  clear hln ht hR hC hms
  have HB0 : Hid (Below w.heap.size w ((w.alloc (.cells #[.slice A ln c] 33)).alloc (.cells #[.slice none 0 0] 33))) := Lib.hid (((Below.refl _ _).alloc (Nat.le_refl _) _).alloc (by simp) _)
  have hz0 : ((w.alloc (.cells #[.slice A ln c] 33)).alloc (.cells #[.slice none 0 0] 33)).heap.size = w.heap.size + 1 + 1 := by simp
  have HG0 := Lib.hid (blk_under w (.cells #[.slice A ln c] 33) (.cells #[.slice none 0 0] 33))
  have HG1 := Lib.hid (blk_over w (.cells #[.slice A ln c] 33) (.cells #[.slice none 0 0] 33))
  go_enter Try.func32, Try.ntmps32
  go_wp2_with fail
  refine (HT.out _ (HR.out _ HB0.out)).mono ?_
  rintro e w1 ⟨rfl, hb⟩
  have HB1 := Lib.hid (HB0.out.trans (hb.mono HB0.out.size))
  have HK1 := Lib.hid ((hb.block w.heap.size (by rw [hz0]; omega)).trans HG0.out)
  have HJ1 := Lib.hid ((hb.block (w.heap.size + 1) (by rw [hz0]; omega)).trans HG1.out)
  have hl1 : w.heap.size + 1 < w1.heap.size := (Array.getElem?_eq_some_iff.1 HJ1.out).1
  clear hb
  have k0 := cell_of_row w1 w.heap.size 0 _ _ _ HK1.out
  simp at k0
  have HRest : ∀ R : World → Prop, (R w1) → R w1 := fun _ h => h
  clear HRest
  obtain ⟨q, hq⟩ : ∃ q, q = (1048576 : Int).tdiv t := ⟨_, rfl⟩
  rw [← hq] at hdv
  have hq2 := hq.symm
  have hqb : 0 < t → 0 ≤ q ∧ q ≤ 1048576 := fun h => by
    rw [hq, Int.tdiv_eq_ediv_of_nonneg (by omega)]
    exact ⟨Int.ediv_nonneg (by omega) (by omega), Int.ediv_le_self _ (by omega)⟩
  clear hq
  have hqq : (decide (0 < t) = false) ∨ (decide (0 < t) = true ∧ IntKind.i64.wrap q = q ∧ decide (q < m) = false ∧ t ≠ 0) := by
    by_cases h : 0 < t
    · have h1 := hdv h
      have h2 := hqb h
      refine .inr ⟨by simpa using h, by simp only [IntKind.wrap_i64]; omega, by simpa using h1, by omega⟩
    · exact .inl (by simpa using h)
  clear hdv hqb
  rcases hqq with d2 | ⟨d2, hwq, d3, hd0⟩
  · go_wp2_with fail
    refine (HCo.out _ (HR.out _ HB1.out)).mono ?_
    rintro e w3 ⟨rfl, hb⟩
    have HB3 := Lib.hid (HB1.out.trans (hb.mono HB1.out.size))
    have HJ3 := Lib.hid ((hb.block (w.heap.size + 1) hl1).trans HJ1.out)
    have hl3 : w.heap.size + 1 < w3.heap.size := (Array.getElem?_eq_some_iff.1 HJ3.out).1
    clear hb k0
    have HB4 := Lib.hid (HB3.out.alloc HB3.out.size (.cells ca 68))
    have HJ4 := Lib.hid ((Below.heap_alloc w3 (.cells ca 68) _ hl3).trans HJ3.out)
    have HC4 := Lib.hid (Deep.blk_alloc_new w3 (.cells ca 68))
    go_wp2_with (first
      | ((with_reducible refine wpList_store_row rfl _ _ _ rfl w3.heap.size ca rfl rfl 68 Z (Deep.blk_alloc_new w3 _) Hsb.out HZs.out Hall.out ?_); rw [World.setRow_alloc_new]))
    clear hz
    go_loopw [25] (fun iv wr => ∃ k : Nat, k ≤ 305 ∧ iv = .int .i64 (k : Int) ∧ Hid (wr.heap[w3.heap.size]? = some (.cells ((opL (fun x _ => x * m) cv cv k).map (Value.int .i64)).toArray 68 (0, 0))) ∧ Hid (wr.heap[w.heap.size + 1]? = some (.cells #[.slice none 0 0] 33 (0, 0))) ∧ Hid (Below w.heap.size w wr)) (fun iv _ => 305 - (intOf iv).toNat)
    case atStart => exact ⟨0, Nat.zero_le _, rfl, Lib.hid (by rw [show opL (fun x _ => x * m) cv cv 0 = cv from rfl, ← Hca.out]; exact HC4.out), HJ4, HB4⟩
    case round =>
      obtain ⟨k, hk, rfl, HC, HG, HB⟩ := hrel
      have hsz := HB.out.size
      have hlg : w3.heap.size < wr.heap.size := (Array.getElem?_eq_some_iff.1 HC.out).1
      have hk0 : (0 : Int) ≤ (k : Int) := by omega
      by_cases hlt : k < 305
      · obtain ⟨hs1, hs2⟩ := HSt.out k hlt
        have HNx := Lib.hid hs2
        have hb1 := HBd.out k
        have hcell : wr.cell? ⟨w3.heap.size, k, none⟩ = some (.int .i64 (cv.getD k 0)) := by rw [cell_of_row _ w3.heap.size k _ _ _ HC.out, hs1]
        have hfr := frz HC.out k
        obtain ⟨y, hy⟩ : ∃ y, y = cv.getD k 0 := ⟨_, rfl⟩
        rw [← hy] at hcell hb1 HNx
        have hkI : (k : Int) < 305 := by omega
        have hw1 : IntKind.i64.wrap ((k : Int) + 1) = (k : Int) + 1 := by simp only [IntKind.wrap_i64]; omega
        have hwy : IntKind.i64.wrap (y * m) = y * m := by simp only [IntKind.wrap_i64]; omega
        clear hs1 hs2 hy hb1
        go_wp2_with fail
        go_roundw
        case rel =>
          refine ⟨k + 1, by omega, by go_num, Lib.hid ?_, Lib.hid ?_, Lib.hid (HB.out.setCell (p := ⟨w3.heap.size, k, none⟩) (by show w.heap.size ≤ w3.heap.size; omega) _)⟩
          · rw [blk_set _ HC.out, ← HNx.out]
          · exact (Below.heap_setCell wr _ _ _ (by show w.heap.size + 1 ≠ w3.heap.size; omega)).trans HG.out
        case measure => simp [intOf] <;> omega
      · obtain rfl : k = 305 := by omega
        have hcc : ((opL (fun x _ => x * m) cv cv 305).map (Value.int .i64)).toArray = cb := Hcb.out.symm
        rw [hcc] at HC
        clear hcc
        go_wp2_with (with_reducible refine wpList_load_row rfl _ _ rfl w3.heap.size rfl 68 cb (0, 0) _ HC.out Try.underlying68 rfl Hsa.out ?_)
        refine (HH.out _).mono ?_
        rintro e w6 ⟨⟨v, rfl, ho⟩, hb⟩
        obtain ⟨A3, c3, rfl, _, _, _⟩ := rs_own ho
        have hl5 : w.heap.size + 1 < wr.heap.size := (Array.getElem?_eq_some_iff.1 HG.out).1
        have HB6 := Lib.hid (HB.out.trans (hb.mono hsz))
        have HG6 := Lib.hid ((hb.block (w.heap.size + 1) hl5).trans HG.out)
        have HO6 : Hid (w6.ownsRow (w.heap.size + 1 + 1) 66 2 (.slice A3 B.length c3) B.length (ivCells B)) := Lib.hid (by
          refine ⟨ho.1, ?_⟩
          rcases ho.2 with h | ⟨g, cap, cur, hv, hb, h⟩
          · exact .inl h
          · exact .inr ⟨g, cap, cur, hv, by omega, h⟩)
        have c3' := cell_of_row w6 (w.heap.size + 1) 0 _ _ _ HG6.out
        have hf3 := frz HG6.out 0
        have hl6 : w.heap.size + 1 < w6.heap.size := (Array.getElem?_eq_some_iff.1 HG6.out).1
        clear ho hb
        go_wp2_with fail
        refine bodyPost_ret (v := .tuple #[.agg #[.slice A3 B.length c3], .int .i64 0]) ?_ rfl ⟨⟨_, rfl, ?_⟩, ?_⟩
        · rw [results_cell_tmp1 rfl]; go_simp <;> rfl
        · have h := ownsRow_setCell_below HO6.out (a := ⟨w.heap.size + 1, 0, none⟩) (by show w.heap.size + 1 < _; omega) (.slice A3 B.length c3)
          refine ⟨h.1, ?_⟩
          rcases h.2 with h | ⟨g, cap, cur, hv, hb, h⟩
          · exact .inl h
          · exact .inr ⟨g, cap, cur, hv, by omega, h⟩
        · exact HB6.out.setCell (p := ⟨w.heap.size + 1, 0, none⟩) (by show w.heap.size ≤ w.heap.size + 1; omega) _
  · go_wp2_with fail
    refine (HCo.out _ (HR.out _ HB1.out)).mono ?_
    rintro e w3 ⟨rfl, hb⟩
    have HB3 := Lib.hid (HB1.out.trans (hb.mono HB1.out.size))
    have HJ3 := Lib.hid ((hb.block (w.heap.size + 1) hl1).trans HJ1.out)
    have hl3 : w.heap.size + 1 < w3.heap.size := (Array.getElem?_eq_some_iff.1 HJ3.out).1
    clear hb k0
    have HB4 := Lib.hid (HB3.out.alloc HB3.out.size (.cells ca 68))
    have HJ4 := Lib.hid ((Below.heap_alloc w3 (.cells ca 68) _ hl3).trans HJ3.out)
    have HC4 := Lib.hid (Deep.blk_alloc_new w3 (.cells ca 68))
    go_wp2_with (first
      | ((with_reducible refine wpList_store_row rfl _ _ _ rfl w3.heap.size ca rfl rfl 68 Z (Deep.blk_alloc_new w3 _) Hsb.out HZs.out Hall.out ?_); rw [World.setRow_alloc_new]))
    clear hz
    go_loopw [25] (fun iv wr => ∃ k : Nat, k ≤ 305 ∧ iv = .int .i64 (k : Int) ∧ Hid (wr.heap[w3.heap.size]? = some (.cells ((opL (fun x _ => x * m) cv cv k).map (Value.int .i64)).toArray 68 (0, 0))) ∧ Hid (wr.heap[w.heap.size + 1]? = some (.cells #[.slice none 0 0] 33 (0, 0))) ∧ Hid (Below w.heap.size w wr)) (fun iv _ => 305 - (intOf iv).toNat)
    case atStart => exact ⟨0, Nat.zero_le _, rfl, Lib.hid (by rw [show opL (fun x _ => x * m) cv cv 0 = cv from rfl, ← Hca.out]; exact HC4.out), HJ4, HB4⟩
    case round =>
      obtain ⟨k, hk, rfl, HC, HG, HB⟩ := hrel
      have hsz := HB.out.size
      have hlg : w3.heap.size < wr.heap.size := (Array.getElem?_eq_some_iff.1 HC.out).1
      have hk0 : (0 : Int) ≤ (k : Int) := by omega
      by_cases hlt : k < 305
      · obtain ⟨hs1, hs2⟩ := HSt.out k hlt
        have HNx := Lib.hid hs2
        have hb1 := HBd.out k
        have hcell : wr.cell? ⟨w3.heap.size, k, none⟩ = some (.int .i64 (cv.getD k 0)) := by rw [cell_of_row _ w3.heap.size k _ _ _ HC.out, hs1]
        have hfr := frz HC.out k
        obtain ⟨y, hy⟩ : ∃ y, y = cv.getD k 0 := ⟨_, rfl⟩
        rw [← hy] at hcell hb1 HNx
        have hkI : (k : Int) < 305 := by omega
        have hw1 : IntKind.i64.wrap ((k : Int) + 1) = (k : Int) + 1 := by simp only [IntKind.wrap_i64]; omega
        have hwy : IntKind.i64.wrap (y * m) = y * m := by simp only [IntKind.wrap_i64]; omega
        clear hs1 hs2 hy hb1
        go_wp2_with fail
        go_roundw
        case rel =>
          refine ⟨k + 1, by omega, by go_num, Lib.hid ?_, Lib.hid ?_, Lib.hid (HB.out.setCell (p := ⟨w3.heap.size, k, none⟩) (by show w.heap.size ≤ w3.heap.size; omega) _)⟩
          · rw [blk_set _ HC.out, ← HNx.out]
          · exact (Below.heap_setCell wr _ _ _ (by show w.heap.size + 1 ≠ w3.heap.size; omega)).trans HG.out
        case measure => simp [intOf] <;> omega
      · obtain rfl : k = 305 := by omega
        have hcc : ((opL (fun x _ => x * m) cv cv 305).map (Value.int .i64)).toArray = cb := Hcb.out.symm
        rw [hcc] at HC
        clear hcc
        go_wp2_with (with_reducible refine wpList_load_row rfl _ _ rfl w3.heap.size rfl 68 cb (0, 0) _ HC.out Try.underlying68 rfl Hsa.out ?_)
        refine (HH.out _).mono ?_
        rintro e w6 ⟨⟨v, rfl, ho⟩, hb⟩
        obtain ⟨A3, c3, rfl, _, _, _⟩ := rs_own ho
        have hl5 : w.heap.size + 1 < wr.heap.size := (Array.getElem?_eq_some_iff.1 HG.out).1
        have HB6 := Lib.hid (HB.out.trans (hb.mono hsz))
        have HG6 := Lib.hid ((hb.block (w.heap.size + 1) hl5).trans HG.out)
        have HO6 : Hid (w6.ownsRow (w.heap.size + 1 + 1) 66 2 (.slice A3 B.length c3) B.length (ivCells B)) := Lib.hid (by
          refine ⟨ho.1, ?_⟩
          rcases ho.2 with h | ⟨g, cap, cur, hv, hb, h⟩
          · exact .inl h
          · exact .inr ⟨g, cap, cur, hv, by omega, h⟩)
        have c3' := cell_of_row w6 (w.heap.size + 1) 0 _ _ _ HG6.out
        have hf3 := frz HG6.out 0
        have hl6 : w.heap.size + 1 < w6.heap.size := (Array.getElem?_eq_some_iff.1 HG6.out).1
        clear ho hb
        go_wp2_with fail
        refine bodyPost_ret (v := .tuple #[.agg #[.slice A3 B.length c3], .int .i64 0]) ?_ rfl ⟨⟨_, rfl, ?_⟩, ?_⟩
        · rw [results_cell_tmp1 rfl]; go_simp <;> rfl
        · have h := ownsRow_setCell_below HO6.out (a := ⟨w.heap.size + 1, 0, none⟩) (by show w.heap.size + 1 < _; omega) (.slice A3 B.length c3)
          refine ⟨h.1, ?_⟩
          rcases h.2 with h | ⟨g, cap, cur, hv, hb, h⟩
          · exact .inl h
          · exact .inr ⟨g, cap, cur, hv, by omega, h⟩
        · exact HB6.out.setCell (p := ⟨w.heap.size + 1, 0, none⟩) (by show w.heap.size ≤ w.heap.size + 1; omega) _
end Go.Proofs.Ytolgcphmmghlbaa
