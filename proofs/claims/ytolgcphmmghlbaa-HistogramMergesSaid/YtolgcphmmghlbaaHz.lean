/- Add where it errs; Merge, Subtract, Scale at the buckets of counts (written by wip/bin/gen_hops.py). -/
import Derived.Test.YtolgcphmmghlbaaHy
import Derived.Deep.RegionHeld3
namespace Go.Proofs.Ytolgcphmmghlbaa
open Go.ChangeShapes Go.WideShapes Go.ChangeAt Go.RowKit Go.Joins

/-- Counts with the first k changed. -/
def opL (f : Int → Int → Int) (cv dv : List Int) : Nat → List Int
  | 0 => cv
  | k + 1 => (opL f cv dv k).set k (f ((opL f cv dv k).getD k 0) (dv.getD k 0))
theorem opL_len (f : Int → Int → Int) (cv dv : List Int) (k : Nat) : (opL f cv dv k).length = cv.length := by
  induction k with
  | zero => rfl
  | succ k ih => show (List.set _ _ _).length = _; rw [List.length_set, ih]
theorem opL_get (f : Int → Int → Int) (cv dv : List Int) (hl : cv.length = 305) (k : Nat) (hk : k ≤ 305) (i : Nat) : (opL f cv dv k).getD i 0 = if i < k then f (cv.getD i 0) (dv.getD i 0) else cv.getD i 0 := by
  induction k generalizing i with
  | zero => rw [if_neg (by omega)]; rfl
  | succ k ih =>
    show (List.set _ _ _).getD i 0 = _
    rw [getD_set_int, opL_len, ih (by omega) k, ih (by omega) i, if_neg (show ¬ k < k by omega)]
    by_cases h : k = i
    · subst h; rw [if_pos ⟨rfl, by omega⟩, if_pos (by omega)]
    · rw [if_neg (fun y => h y.1)]
      by_cases h2 : i < k
      · rw [if_pos h2, if_pos (by omega)]
      · rw [if_neg h2, if_neg (by omega)]
theorem sN_add (a b c : List Int) (n : Nat) (h : ∀ i, i < n → a.getD i 0 = b.getD i 0 + c.getD i 0) : sN a n = sN b n + sN c n := by
  induction n with
  | zero => rfl
  | succ n ih =>
    show sN a n + a.getD n 0 = (sN b n + b.getD n 0) + (sN c n + c.getD n 0)
    rw [ih (fun i hi => h i (by omega)), h n (by omega)]; omega
theorem sN_mul (a b : List Int) (m : Int) (n : Nat) (h : ∀ i, i < n → a.getD i 0 = b.getD i 0 * m) : sN a n = sN b n * m := by
  induction n with
  | zero => show (0 : Int) = 0 * m; omega
  | succ n ih =>
    show sN a n + a.getD n 0 = (sN b n + b.getD n 0) * m
    rw [ih (fun i hi => h i (by omega)), h n (by omega), Int.add_mul]
def mgC (cv dv : List Int) : List Int := opL (fun x y => x + y) cv dv 305
def sbC (cv dv : List Int) : List Int := opL (fun x y => x - y) cv dv 305
def scC (cv : List Int) (m : Int) : List Int := opL (fun x _ => x * m) cv cv 305
theorem getD_out {cv : List Int} (h : cv.length = 305) (i : Nat) (hi : ¬ i < 305) : cv.getD i 0 = 0 := by
  simp [List.getD, List.getElem?_eq_none (show cv.length ≤ i by omega)]
theorem mgC_get (cv dv : List Int) (hc : cv.length = 305) (hd : dv.length = 305) (i : Nat) : (mgC cv dv).getD i 0 = cv.getD i 0 + dv.getD i 0 := by
  unfold mgC
  rw [opL_get _ _ _ hc 305 (Nat.le_refl _)]
  by_cases h : i < 305
  · rw [if_pos h]
  · rw [if_neg h, getD_out hc i h, getD_out hd i h]; omega
theorem sbC_get (cv dv : List Int) (hc : cv.length = 305) (hd : dv.length = 305) (i : Nat) : (sbC cv dv).getD i 0 = cv.getD i 0 - dv.getD i 0 := by
  unfold sbC
  rw [opL_get _ _ _ hc 305 (Nat.le_refl _)]
  by_cases h : i < 305
  · rw [if_pos h]
  · rw [if_neg h, getD_out hc i h, getD_out hd i h]; omega
theorem scC_get (cv : List Int) (m : Int) (hc : cv.length = 305) (i : Nat) : (scC cv m).getD i 0 = cv.getD i 0 * m := by
  unfold scC
  rw [opL_get _ _ _ hc 305 (Nat.le_refl _)]
  by_cases h : i < 305
  · rw [if_pos h]
  · rw [if_neg h, getD_out hc i h]; omega
theorem Cv.merge {cv dv : List Int} (hc : Cv cv) (hd : Cv dv) (h : sN cv 305 + sN dv 305 ≤ 1048576) : Cv (mgC cv dv) := by
  refine ⟨(opL_len _ _ _ _).trans hc.len, fun i => ?_, ?_⟩
  · rw [mgC_get _ _ hc.len hd.len]; have := hc.pos i; have := hd.pos i; omega
  · rw [sN_add (mgC cv dv) cv dv 305 (fun i _ => mgC_get _ _ hc.len hd.len i)]; exact h
theorem Cv.sub {cv dv : List Int} (hc : Cv cv) (hd : Cv dv) (h : ∀ i, i < 305 → dv.getD i 0 ≤ cv.getD i 0) : Cv (sbC cv dv) := by
  have e := sN_add cv (sbC cv dv) dv 305 (fun i _ => by rw [sbC_get _ _ hc.len hd.len]; omega)
  have h1 := (le_sN dv hd.pos 305 0 (by omega)).1
  have h2 := hc.tot
  refine ⟨(opL_len _ _ _ _).trans hc.len, fun i => ?_, by omega⟩
  rw [sbC_get _ _ hc.len hd.len]
  by_cases hi : i < 305
  · have := h i hi; omega
  · rw [getD_out hc.len i hi, getD_out hd.len i hi]; omega
theorem Cv.scale {cv : List Int} (hc : Cv cv) (m : Int) (hm : 0 ≤ m) (h : sN cv 305 * m ≤ 1048576) : Cv (scC cv m) := by
  refine ⟨(opL_len _ _ _ _).trans hc.len, fun i => ?_, ?_⟩
  · rw [scC_get _ _ hc.len]; exact Int.mul_nonneg (hc.pos i) hm
  · rw [sN_mul (scC cv m) cv m 305 (fun i _ => scC_get _ _ hc.len i)]; exact h
/-- An element of an array by value. -/
theorem opL_step (f : Int → Int → Int) (cv dv : List Int) (hc : cv.length = 305) (k : Nat) (hk : k < 305) :
    ((opL f cv dv k).map (Value.int .i64)).toArray[k]? = some (.int .i64 (cv.getD k 0)) ∧
    ((opL f cv dv k).map (Value.int .i64)).toArray.setIfInBounds k (.int .i64 (f (cv.getD k 0) (dv.getD k 0))) = ((opL f cv dv (k + 1)).map (Value.int .i64)).toArray := by
  have hg : (opL f cv dv k).getD k 0 = cv.getD k 0 := by rw [opL_get f cv dv hc k (by omega), if_neg (by omega)]
  have hl : k < (opL f cv dv k).length := by rw [opL_len]; omega
  constructor
  · have h2 : (opL f cv dv k).getD k 0 = (opL f cv dv k)[k] := by simp [List.getD, List.getElem?_eq_getElem hl]
    rw [← hg, h2]
    simp [List.getElem?_eq_getElem hl]
  · show _ = (((opL f cv dv k).set k _).map _).toArray
    rw [hg]
    simp [List.map_set]

set_option maxRecDepth 100000 in
set_option maxHeartbeats 4000000 in
theorem add_bad (A : Option Addr) (c : Nat) (cv : List Int) (hC : Cv cv) (v n k : Int)
    (hk : ((v < 0 ∨ 1099511627776 < v) ∧ k = 2) ∨ (0 ≤ v ∧ v ≤ 1099511627776 ∧ n < 0 ∧ k = 2) ∨ (0 ≤ v ∧ v ≤ 1099511627776 ∧ 0 ≤ n ∧ 1048576 < n ∧ k = 2) ∨ (0 ≤ v ∧ v ≤ 1099511627776 ∧ 0 ≤ n ∧ n ≤ 1048576 ∧ 1048576 - sN cv 305 < n ∧ k = 20)) (w : World) (hR : Rs w w.heap.size A (ivCells (bk cv))) :
    Calls Try.prog 26 #[.agg #[.slice A (bk cv).length c], .int .i64 v, .int .i64 n] w fun e w' => e = .returned (.tuple #[.agg #[.slice none 0 0], .int .i64 k]) ∧ Below w.heap.size w w' := by
  have HT := Lib.hid (fun W h => total_any A c (bk cv) (Cv.bklen cv) hC.vb W h)
  rw [Cv.tt] at HT
  have HR := Lib.hid (fun W (hb : Below w.heap.size w W) => (fun j hj => by
    obtain ⟨b, off, e, h1, h2⟩ := Rs.below hR hb j hj
    exact ⟨b, off, e, Nat.lt_of_lt_of_le h1 hb.size, h2⟩ : Rs W W.heap.size A (ivCells (bk cv))))
  obtain ⟨t, ht⟩ : ∃ t, t = sN cv 305 := ⟨_, rfl⟩
  rw [← ht] at HT hk
  have ht0 : 0 ≤ t ∧ t ≤ 1048576 := ⟨by rw [ht]; exact (le_sN cv hC.pos 305 0 (by omega)).1, by rw [ht]; exact hC.tot⟩
  obtain ⟨ln, hln⟩ : ∃ ln, ln = (bk cv).length := ⟨_, rfl⟩
  rw [← hln] at HT ⊢
  clear hln ht hR hC
  have hwt : IntKind.i64.wrap (1048576 - t) = 1048576 - t := by simp only [IntKind.wrap_i64]; omega
  have HB0 : Hid (Below w.heap.size w ((w.alloc (.cells #[.slice A ln c] 33)).alloc (.cells #[.slice none 0 0] 33))) := Lib.hid (((Below.refl _ _).alloc (Nat.le_refl _) _).alloc (by simp) _)
  have hz0 : ((w.alloc (.cells #[.slice A ln c] 33)).alloc (.cells #[.slice none 0 0] 33)).heap.size = w.heap.size + 1 + 1 := by simp
  have HG1 := Lib.hid (blk_over w (.cells #[.slice A ln c] 33) (.cells #[.slice none 0 0] 33))
  rcases hk with ⟨h1, rfl⟩ | ⟨h1, h2, h3, rfl⟩ | ⟨h1, h2, h3, h4, rfl⟩ | ⟨h1, h2, h3, h4, h5, rfl⟩
  · have HI := Lib.hid (fun W => index_bad v h1 W)
    clear h1 ht0
    go_enter Try.func26, Try.ntmps26
    go_wp2_with fail
    refine (HI.out _).mono ?_
    rintro e w' ⟨rfl, rfl⟩
    go_wp2_with fail
    refine bodyPost_ret (v := .tuple #[.agg #[.slice none 0 0], .int .i64 2]) ?_ rfl ⟨rfl, ?_⟩
    · rw [results_cell_tmp1 rfl]; go_simp <;> rfl
    · simpa using HB0.out
  · obtain ⟨u, rfl⟩ : ∃ u : Nat, v = (u : Int) := ⟨v.toNat, by omega⟩
    have HI := Lib.hid (fun W => index_ok u (by omega) W)
    have d1 : decide (n < 0) = true := by simpa using h3
    clear h1 h2 ht0
    go_enter Try.func26, Try.ntmps26
    go_wp2_with fail
    refine (HI.out _).mono ?_
    rintro e w' ⟨rfl, rfl⟩
    go_wp2_with fail
    refine bodyPost_ret (v := .tuple #[.agg #[.slice none 0 0], .int .i64 2]) ?_ rfl ⟨rfl, ?_⟩
    · rw [results_cell_tmp1 rfl]; go_simp <;> rfl
    · simpa using HB0.out
  · obtain ⟨u, rfl⟩ : ∃ u : Nat, v = (u : Int) := ⟨v.toNat, by omega⟩
    have HI := Lib.hid (fun W => index_ok u (by omega) W)
    have d1 : decide (n < 0) = false := by simpa using h3
    have d2 : decide (1048576 < n) = true := by simpa using h4
    clear h1 h2 ht0
    go_enter Try.func26, Try.ntmps26
    go_wp2_with fail
    refine (HI.out _).mono ?_
    rintro e w' ⟨rfl, rfl⟩
    go_wp2_with fail
    refine bodyPost_ret (v := .tuple #[.agg #[.slice none 0 0], .int .i64 2]) ?_ rfl ⟨rfl, ?_⟩
    · rw [results_cell_tmp1 rfl]; go_simp <;> rfl
    · simpa using HB0.out
  · obtain ⟨u, rfl⟩ : ∃ u : Nat, v = (u : Int) := ⟨v.toNat, by omega⟩
    have HI := Lib.hid (fun W => index_ok u (by omega) W)
    have d1 : decide (n < 0) = false := by simpa using h3
    have d2 : decide (1048576 < n) = false := by simpa using h4
    have d3 : decide (1048576 - t < n) = true := by simpa using h5
    clear h1 h2 ht0
    go_enter Try.func26, Try.ntmps26
    go_wp2_with fail
    refine (HI.out _).mono ?_
    rintro e w' ⟨rfl, rfl⟩
    go_wp2_with fail
    refine (HT.out _ (HR.out _ HB0.out)).mono ?_
    rintro e w1 ⟨rfl, hb⟩
    have HB1 := Lib.hid (HB0.out.trans (hb.mono HB0.out.size))
    have HJ1 := Lib.hid ((hb.block (w.heap.size + 1) (by rw [hz0]; omega)).trans HG1.out)
    clear hb
    have c3' := cell_of_row w1 (w.heap.size + 1) 0 _ _ _ HJ1.out
    have hf3 := frz HJ1.out 0
    have hl3 : w.heap.size + 1 < w1.heap.size := (Array.getElem?_eq_some_iff.1 HJ1.out).1
    go_wp2_with fail
    refine bodyPost_ret (v := .tuple #[.agg #[.slice none 0 0], .int .i64 20]) ?_ rfl ⟨rfl, ?_⟩
    · rw [results_cell_tmp1 rfl]; go_simp <;> rfl
    · exact HB1.out.setCell (p := ⟨w.heap.size + 1, 0, none⟩) (by show w.heap.size ≤ w.heap.size + 1; omega) _
set_option maxRecDepth 100000 in
set_option maxHeartbeats 4000000 in
theorem merge_ok (A : Option Addr) (c : Nat) (D : Option Addr) (d : Nat) (cv dv : List Int) (hC : Cv cv) (hD : Cv dv) (hts : sN cv 305 + sN dv 305 ≤ 1048576) (w : World) (hR : Rs w w.heap.size A (ivCells (bk cv))) (hR2 : Rs w w.heap.size D (ivCells (bk dv))) :
    Calls Try.prog 29 #[.agg #[.slice A (bk cv).length c], .agg #[.slice D (bk dv).length d]] w fun e w' => (∃ x, e = .returned (.tuple #[.agg #[x], .int .i64 0]) ∧ w'.ownsRow w.heap.size 66 2 x (bk (mgC cv dv)).length (ivCells (bk (mgC cv dv)))) ∧ Below w.heap.size w w' := by
  have HT := Lib.hid (fun W h => total_any A c (bk cv) (Cv.bklen cv) hC.vb W h)
  rw [Cv.tt] at HT
  have HT2 := Lib.hid (fun W h => total_any D d (bk dv) (Cv.bklen dv) hD.vb W h)
  rw [Cv.tt] at HT2
  have HCo := Lib.hid (fun W h => countsOf_any A c (bk cv) (Cv.bklen cv) hC.vb W h)
  rw [show coL (bk cv) (bk cv).length = cv from coL_bk cv hC.len] at HCo
  have HCp := Lib.hid (fun W h => countsOf_any D d (bk dv) (Cv.bklen dv) hD.vb W h)
  rw [show coL (bk dv) (bk dv).length = dv from coL_bk dv hD.len] at HCp
  have hsb := counts_size cv hC.len
  have hall := counts_all cv
  have HXi := Lib.hid (fun k hk W => index_arr dv hD.len k hk W)
  have HSt := Lib.hid (fun k hk => opL_step (fun x y => x + y) cv dv hC.len k hk)
  have HBd := Lib.hid (fun k => hC.bd k)
  have HBe := Lib.hid (fun k => hD.bd k)
  have hZs : ((List.replicate 305 (Value.int .i64 0)).toArray).size = ((cv.map (Value.int .i64)).toArray).size := by simp [hC.len]
  have hCa := hC.merge hD hts
  have HH := Lib.hid (fun W => hist_any (mgC cv dv) hCa.len (fun i => by have := hCa.bd i; omega) W)
  rw [show bkN (mgC cv dv) 305 = bk (mgC cv dv) from rfl] at HH
  have hsa := counts_size (mgC cv dv) hCa.len
  have HR := Lib.hid (fun W (hb : Below w.heap.size w W) => (fun j hj => by
    obtain ⟨b, off, e, h1, h2⟩ := Rs.below hR hb j hj
    exact ⟨b, off, e, Nat.lt_of_lt_of_le h1 hb.size, h2⟩ : Rs W W.heap.size A (ivCells (bk cv))))
  have HR2 := Lib.hid (fun W (hb : Below w.heap.size w W) => (fun j hj => by
    obtain ⟨b, off, e, h1, h2⟩ := Rs.below hR2 hb j hj
    exact ⟨b, off, e, Nat.lt_of_lt_of_le h1 hb.size, h2⟩ : Rs W W.heap.size D (ivCells (bk dv))))
  obtain ⟨cb, hcb⟩ : ∃ cb : Array Value, cb = ((mgC cv dv).map (Value.int .i64)).toArray := ⟨_, rfl⟩
  rw [← hcb] at HH hsa
  have Hcb := Lib.hid hcb
  have Hsa := Lib.hid hsa
  obtain ⟨B, hB⟩ : ∃ B, B = bk (mgC cv dv) := ⟨_, rfl⟩
  rw [← hB] at HH ⊢
  clear hB hcb hsa hCa
  obtain ⟨ca, hca⟩ : ∃ ca : Array Value, ca = (cv.map (Value.int .i64)).toArray := ⟨_, rfl⟩
  rw [← hca] at HCo hsb hall hZs
  obtain ⟨da, hda⟩ : ∃ da : Array Value, da = (dv.map (Value.int .i64)).toArray := ⟨_, rfl⟩
  rw [← hda] at HCp HXi
  have Hca := Lib.hid hca
  have hz := counts_zero
  obtain ⟨Z, hZ⟩ : ∃ Z : Array Value, Z = (List.replicate 305 (.int .i64 0)).toArray := ⟨_, rfl⟩
  rw [← hZ] at hz hZs
  have HZs := Lib.hid hZs
  have Hall := Lib.hid hall
  have Hsb := Lib.hid hsb
  clear hca hda hZ hZs hall hsb
  obtain ⟨t, ht⟩ : ∃ t, t = sN cv 305 := ⟨_, rfl⟩
  obtain ⟨s, hs⟩ : ∃ s, s = sN dv 305 := ⟨_, rfl⟩
  have ht0 : 0 ≤ t ∧ t ≤ 1048576 := ⟨by rw [ht]; exact (le_sN cv hC.pos 305 0 (by omega)).1, by rw [ht]; exact hC.tot⟩
  have hs0 : 0 ≤ s ∧ s ≤ 1048576 := ⟨by rw [hs]; exact (le_sN dv hD.pos 305 0 (by omega)).1, by rw [hs]; exact hD.tot⟩
  rw [← ht] at HT hts
  rw [← hs] at HT2 hts
  have hwt : IntKind.i64.wrap (t + s) = t + s := by simp only [IntKind.wrap_i64]; omega
  clear ht hs ht0 hs0
  have d1 : decide (1048576 < t + s) = false := by simp; omega
  clear hts
  obtain ⟨la, hla⟩ : ∃ la, la = (bk cv).length := ⟨_, rfl⟩
  obtain ⟨ld, hld⟩ : ∃ ld, ld = (bk dv).length := ⟨_, rfl⟩
  rw [← hla, ← hld]
  rw [← hla] at HT
  rw [← hla] at HCo
  rw [← hld] at HT2
  rw [← hld] at HCp
  clear hla hld hR hR2 hC hD
  obtain ⟨w0, hw0⟩ : ∃ w0 : World, w0 = (((w.alloc (.cells #[.slice A la c] 33)).alloc (.cells #[.slice D ld d] 33)).alloc (.cells #[.slice none 0 0] 33)) := ⟨_, rfl⟩
  have hz0 : w0.heap.size = w.heap.size + 1 + 1 + 1 := by rw [hw0]; simp
  have HB0 : Hid (Below w.heap.size w w0) := Lib.hid (by rw [hw0]; exact (((Below.refl _ _).alloc (Nat.le_refl _) _).alloc (by simp) _).alloc (by simp <;> omega) _)
  have HG0 : Hid (w0.heap[w.heap.size]? = some (.cells #[.slice A la c] 33 (0, 0))) := Lib.hid (by
    rw [hw0, Below.heap_alloc _ _ _ (by simp <;> omega), Below.heap_alloc _ _ _ (by simp)]
    exact Deep.blk_alloc_new w _)
  have HG1 : Hid (w0.heap[w.heap.size + 1]? = some (.cells #[.slice D ld d] 33 (0, 0))) := Lib.hid (by
    rw [hw0, Below.heap_alloc _ _ _ (by simp)]
    have := Deep.blk_alloc_new (w.alloc (.cells #[.slice A la c] 33)) (.cells #[.slice D ld d] 33)
    rwa [World.size_alloc] at this)
  have HG2 : Hid (w0.heap[w.heap.size + 1 + 1]? = some (.cells #[.slice none 0 0] 33 (0, 0))) := Lib.hid (by
    rw [hw0]
    have := Deep.blk_alloc_new ((w.alloc (.cells #[.slice A la c] 33)).alloc (.cells #[.slice D ld d] 33)) (.cells #[.slice none 0 0] 33)
    rwa [World.size_alloc, World.size_alloc] at this)
  have hg0 := cell_of_row w0 w.heap.size 0 _ _ _ HG0.out
  have hg1 := cell_of_row w0 (w.heap.size + 1) 0 _ _ _ HG1.out
  simp at hg0 hg1
  go_enter Try.func29, Try.ntmps29
  go_wp2_with fail
  rw [← hw0]
  clear hw0
  have HBx0 := HB0
  have HG0x0 := HG0
  have HG1x0 := HG1
  have HG2x0 := HG2
  have HDw : Hid (∀ n, Below w.heap.size w (w0.drewN n)) := Lib.hid (fun n => below_drewN HB0.out n)
  have Hd0 : Hid (∀ n, (w0.drewN n).heap[w.heap.size]? = some (.cells #[.slice A la c] 33 (0, 0))) := Lib.hid (fun n => HG0.out)
  have Hd1 : Hid (∀ n, (w0.drewN n).heap[w.heap.size + 1]? = some (.cells #[.slice D ld d] 33 (0, 0))) := Lib.hid (fun n => HG1.out)
  have Hd2 : Hid (∀ n, (w0.drewN n).heap[w.heap.size + 1 + 1]? = some (.cells #[.slice none 0 0] 33 (0, 0))) := Lib.hid (fun n => HG2.out)
  go_region_held3 (fun W => W.cell? ⟨w.heap.size, 0, none⟩ = some (.slice A la c) ∧ W.cell? ⟨w.heap.size + 1, 0, none⟩ = some (.slice D ld d))
    (first | exact ⟨cell_of_row _ w.heap.size 0 _ _ _ HG0x2.out, cell_of_row _ (w.heap.size + 1) 0 _ _ _ HG1x2.out⟩ | exact ⟨cell_of_row _ w.heap.size 0 _ _ _ HG0x1.out, cell_of_row _ (w.heap.size + 1) 0 _ _ _ HG1x1.out⟩ | exact ⟨cell_of_row _ w.heap.size 0 _ _ _ (Hd0.out _), cell_of_row _ (w.heap.size + 1) 0 _ _ _ (Hd1.out _)⟩ | exact ⟨hg0, hg1⟩)
    ((first
      | (go_at_call 24; have hx1 := HBx1; clear hx1; refine (HT2.out _ (HR2.out _ HBx1.out)).mono ?_; rintro e w2 ⟨rfl, hb⟩; have HBx2 := Lib.hid (HBx1.out.trans (hb.mono HBx1.out.size)); have HG0x2 := Lib.hid ((hb.block w.heap.size ((Array.getElem?_eq_some_iff.1 HG0x1.out).1)).trans HG0x1.out); have HG1x2 := Lib.hid ((hb.block (w.heap.size + 1) ((Array.getElem?_eq_some_iff.1 HG1x1.out).1)).trans HG1x1.out); have HG2x2 := Lib.hid ((hb.block (w.heap.size + 1 + 1) ((Array.getElem?_eq_some_iff.1 HG2x1.out).1)).trans HG2x1.out); clear hb)
      | (go_at_call 24; refine (HT.out _ (HR.out _ (HDw.out _))).mono ?_; rintro e w1 ⟨rfl, hb⟩; have HBx1 := Lib.hid ((HDw.out _).trans (hb.mono (HDw.out _).size)); have HG0x1 := Lib.hid ((hb.block w.heap.size ((Array.getElem?_eq_some_iff.1 (Hd0.out _)).1)).trans (Hd0.out _)); have HG1x1 := Lib.hid ((hb.block (w.heap.size + 1) ((Array.getElem?_eq_some_iff.1 (Hd1.out _)).1)).trans (Hd1.out _)); have HG2x1 := Lib.hid ((hb.block (w.heap.size + 1 + 1) ((Array.getElem?_eq_some_iff.1 (Hd2.out _)).1)).trans (Hd2.out _)); clear hb)
      | fail))
  clear hg0 hg1
  have hg0 := cell_of_row w2 w.heap.size 0 _ _ _ HG0x2.out
  have hg1 := cell_of_row w2 (w.heap.size + 1) 0 _ _ _ HG1x2.out
  have hg2 := cell_of_row w2 (w.heap.size + 1 + 1) 0 _ _ _ HG2x2.out
  have hf2 := frz HG2x2.out 0
  simp at hg0 hg1 hg2
  go_wp2_with fail
  refine (HCo.out _ (HR.out _ HBx2.out)).mono ?_
  rintro e w3 ⟨rfl, hb⟩
  have HBx3 := Lib.hid (HBx2.out.trans (hb.mono HBx2.out.size))
  have HG0x3 := Lib.hid ((hb.block w.heap.size ((Array.getElem?_eq_some_iff.1 HG0x2.out).1)).trans HG0x2.out)
  have HG1x3 := Lib.hid ((hb.block (w.heap.size + 1) ((Array.getElem?_eq_some_iff.1 HG1x2.out).1)).trans HG1x2.out)
  have HG2x3 := Lib.hid ((hb.block (w.heap.size + 1 + 1) ((Array.getElem?_eq_some_iff.1 HG2x2.out).1)).trans HG2x2.out)
  clear hb
  clear hg0 hg1 hg2 hf2
  have hl3 : w.heap.size + 1 + 1 < w3.heap.size := (Array.getElem?_eq_some_iff.1 HG2x3.out).1
  have HBx4 := Lib.hid (HBx3.out.alloc HBx3.out.size (.cells ca 68))
  have HG0x4 := Lib.hid ((Below.heap_alloc w3 (.cells ca 68) _ (by omega)).trans HG0x3.out)
  have HG1x4 := Lib.hid ((Below.heap_alloc w3 (.cells ca 68) _ (by omega)).trans HG1x3.out)
  have HG2x4 := Lib.hid ((Below.heap_alloc w3 (.cells ca 68) _ hl3).trans HG2x3.out)
  have HCx4 := Lib.hid (Deep.blk_alloc_new w3 (.cells ca 68))
  have hg1 := cell_of_row _ (w.heap.size + 1) 0 _ _ _ HG1x4.out
  simp at hg1
  go_wp2_with (first
    | ((with_reducible refine wpList_store_row rfl _ _ _ rfl w3.heap.size ca rfl rfl 68 Z (Deep.blk_alloc_new w3 _) Hsb.out HZs.out Hall.out ?_); rw [World.setRow_alloc_new]))
  clear hz
  refine (HCp.out _ (HR2.out _ HBx4.out)).mono ?_
  rintro e w5 ⟨rfl, hb⟩
  have HBx5 := Lib.hid (HBx4.out.trans (hb.mono HBx4.out.size))
  have HG2x5 := Lib.hid ((hb.block (w.heap.size + 1 + 1) ((Array.getElem?_eq_some_iff.1 HG2x4.out).1)).trans HG2x4.out)
  have HCx5 := Lib.hid ((hb.block w3.heap.size ((Array.getElem?_eq_some_iff.1 HCx4.out).1)).trans HCx4.out)
  clear hb hg1 HG0x4 HG1x4 HG0x3 HG1x3
  obtain ⟨g, hg⟩ : ∃ g, g = w3.heap.size := ⟨_, rfl⟩
  rw [← hg] at hl3 HCx5
  go_wp2_with fail
  rw [← hg]
  clear hg
  go_loopw [20] (fun iv wr => ∃ k : Nat, k ≤ 305 ∧ iv = .int .i64 (k : Int) ∧ Hid (wr.heap[g]? = some (.cells ((opL (fun x y => x + y) cv dv k).map (Value.int .i64)).toArray 68 (0, 0))) ∧ Hid (wr.heap[w.heap.size + 1 + 1]? = some (.cells #[.slice none 0 0] 33 (0, 0))) ∧ Hid (Below w.heap.size w wr)) (fun iv _ => 305 - (intOf iv).toNat)
  case atStart => exact ⟨0, Nat.zero_le _, rfl, Lib.hid (by rw [show opL (fun x y => x + y) cv dv 0 = cv from rfl, ← Hca.out]; exact HCx5.out), HG2x5, HBx5⟩
  case round =>
    obtain ⟨k, hk, rfl, HC, HG, HB⟩ := hrel
    have hsz := HB.out.size
    have hlg : g < wr.heap.size := (Array.getElem?_eq_some_iff.1 HC.out).1
    have hk0 : (0 : Int) ≤ (k : Int) := by omega
    by_cases hlt : k < 305
    · have hix := HXi.out k hlt
      obtain ⟨hs1, hs2⟩ := HSt.out k hlt
      have HNx := Lib.hid hs2
      have hb1 := HBd.out k
      have hb2 := HBe.out k
      have hcell : wr.cell? ⟨g, k, none⟩ = some (.int .i64 (cv.getD k 0)) := by rw [cell_of_row _ g k _ _ _ HC.out, hs1]
      have hfr := frz HC.out k
      obtain ⟨y, hy⟩ : ∃ y, y = cv.getD k 0 := ⟨_, rfl⟩
      obtain ⟨x, hx⟩ : ∃ x, x = dv.getD k 0 := ⟨_, rfl⟩
      have HY := Lib.hid hy
      have HX := Lib.hid hx
      rw [← hx] at hix hb2 HNx
      rw [← hy] at hcell hb1 HNx
      have hkI : (k : Int) < 305 := by omega
      have hw1 : IntKind.i64.wrap ((k : Int) + 1) = (k : Int) + 1 := by simp only [IntKind.wrap_i64]; omega
      have hwy : IntKind.i64.wrap (y + x) = y + x := by simp only [IntKind.wrap_i64]; omega
      clear hs1 hs2 hy hx hb1 hb2
      go_wp2_with fail
      clear hix
      go_roundw
      case rel =>
        refine ⟨k + 1, by omega, by go_num, Lib.hid ?_, Lib.hid ?_, Lib.hid (HB.out.setCell (p := ⟨g, k, none⟩) (by show w.heap.size ≤ g; omega) _)⟩
        · rw [blk_set _ HC.out, ← HNx.out]
        · exact (Below.heap_setCell wr _ _ _ (by show w.heap.size + 1 + 1 ≠ g; omega)).trans HG.out
      case measure => simp [intOf] <;> omega
    · obtain rfl : k = 305 := by omega
      have hcc : ((opL (fun x y => x + y) cv dv 305).map (Value.int .i64)).toArray = cb := Hcb.out.symm
      rw [hcc] at HC
      clear hcc
      go_wp2_with (with_reducible refine wpList_load_row rfl _ _ rfl g rfl 68 cb (0, 0) _ HC.out Try.underlying68 rfl Hsa.out ?_)
      refine (HH.out _).mono ?_
      rintro e w6 ⟨⟨v, rfl, ho⟩, hb⟩
      obtain ⟨A3, c3, rfl, _, _, _⟩ := rs_own ho
      have hl5 : w.heap.size + 1 + 1 < wr.heap.size := (Array.getElem?_eq_some_iff.1 HG.out).1
      have HB6 := Lib.hid (HB.out.trans (hb.mono hsz))
      have HG6 := Lib.hid ((hb.block (w.heap.size + 1 + 1) hl5).trans HG.out)
      have HO6 : Hid (w6.ownsRow (w.heap.size + 1 + 1 + 1) 66 2 (.slice A3 B.length c3) B.length (ivCells B)) := Lib.hid (by
        refine ⟨ho.1, ?_⟩
        rcases ho.2 with h | ⟨g, cap, cur, hv, hb, h⟩
        · exact .inl h
        · exact .inr ⟨g, cap, cur, hv, by omega, h⟩)
      have c3' := cell_of_row w6 (w.heap.size + 1 + 1) 0 _ _ _ HG6.out
      have hf3 := frz HG6.out 0
      have hl6 : w.heap.size + 1 + 1 < w6.heap.size := (Array.getElem?_eq_some_iff.1 HG6.out).1
      clear ho hb
      go_wp2_with fail
      refine bodyPost_ret (v := .tuple #[.agg #[.slice A3 B.length c3], .int .i64 0]) ?_ rfl ⟨⟨_, rfl, ?_⟩, ?_⟩
      · rw [results_cell_tmp1 rfl]; go_simp <;> rfl
      · have h := ownsRow_setCell_below HO6.out (a := ⟨w.heap.size + 1 + 1, 0, none⟩) (by show w.heap.size + 1 + 1 < _; omega) (.slice A3 B.length c3)
        refine ⟨h.1, ?_⟩
        rcases h.2 with h | ⟨g, cap, cur, hv, hb, h⟩
        · exact .inl h
        · exact .inr ⟨g, cap, cur, hv, by omega, h⟩
      · exact HB6.out.setCell (p := ⟨w.heap.size + 1 + 1, 0, none⟩) (by show w.heap.size ≤ w.heap.size + 1 + 1; omega) _
set_option maxRecDepth 100000 in
set_option maxHeartbeats 4000000 in
theorem merge_bad (A : Option Addr) (c : Nat) (D : Option Addr) (d : Nat) (cv dv : List Int) (hC : Cv cv) (hD : Cv dv) (hts : 1048576 < sN cv 305 + sN dv 305) (w : World) (hR : Rs w w.heap.size A (ivCells (bk cv))) (hR2 : Rs w w.heap.size D (ivCells (bk dv))) :
    Calls Try.prog 29 #[.agg #[.slice A (bk cv).length c], .agg #[.slice D (bk dv).length d]] w fun e w' => e = .returned (.tuple #[.agg #[.slice none 0 0], .int .i64 20]) ∧ Below w.heap.size w w' := by
  have HT := Lib.hid (fun W h => total_any A c (bk cv) (Cv.bklen cv) hC.vb W h)
  rw [Cv.tt] at HT
  have HT2 := Lib.hid (fun W h => total_any D d (bk dv) (Cv.bklen dv) hD.vb W h)
  rw [Cv.tt] at HT2
  have HR := Lib.hid (fun W (hb : Below w.heap.size w W) => (fun j hj => by
    obtain ⟨b, off, e, h1, h2⟩ := Rs.below hR hb j hj
    exact ⟨b, off, e, Nat.lt_of_lt_of_le h1 hb.size, h2⟩ : Rs W W.heap.size A (ivCells (bk cv))))
  have HR2 := Lib.hid (fun W (hb : Below w.heap.size w W) => (fun j hj => by
    obtain ⟨b, off, e, h1, h2⟩ := Rs.below hR2 hb j hj
    exact ⟨b, off, e, Nat.lt_of_lt_of_le h1 hb.size, h2⟩ : Rs W W.heap.size D (ivCells (bk dv))))
  obtain ⟨t, ht⟩ : ∃ t, t = sN cv 305 := ⟨_, rfl⟩
  obtain ⟨s, hs⟩ : ∃ s, s = sN dv 305 := ⟨_, rfl⟩
  have ht0 : 0 ≤ t ∧ t ≤ 1048576 := ⟨by rw [ht]; exact (le_sN cv hC.pos 305 0 (by omega)).1, by rw [ht]; exact hC.tot⟩
  have hs0 : 0 ≤ s ∧ s ≤ 1048576 := ⟨by rw [hs]; exact (le_sN dv hD.pos 305 0 (by omega)).1, by rw [hs]; exact hD.tot⟩
  rw [← ht] at HT hts
  rw [← hs] at HT2 hts
  have hwt : IntKind.i64.wrap (t + s) = t + s := by simp only [IntKind.wrap_i64]; omega
  clear ht hs ht0 hs0
  have d1 : decide (1048576 < t + s) = true := by simp; omega
  clear hts
  obtain ⟨la, hla⟩ : ∃ la, la = (bk cv).length := ⟨_, rfl⟩
  obtain ⟨ld, hld⟩ : ∃ ld, ld = (bk dv).length := ⟨_, rfl⟩
  rw [← hla, ← hld]
  rw [← hla] at HT
  rw [← hld] at HT2
  clear hla hld hR hR2 hC hD
  obtain ⟨w0, hw0⟩ : ∃ w0 : World, w0 = (((w.alloc (.cells #[.slice A la c] 33)).alloc (.cells #[.slice D ld d] 33)).alloc (.cells #[.slice none 0 0] 33)) := ⟨_, rfl⟩
  have hz0 : w0.heap.size = w.heap.size + 1 + 1 + 1 := by rw [hw0]; simp
  have HB0 : Hid (Below w.heap.size w w0) := Lib.hid (by rw [hw0]; exact (((Below.refl _ _).alloc (Nat.le_refl _) _).alloc (by simp) _).alloc (by simp <;> omega) _)
  have HG0 : Hid (w0.heap[w.heap.size]? = some (.cells #[.slice A la c] 33 (0, 0))) := Lib.hid (by
    rw [hw0, Below.heap_alloc _ _ _ (by simp <;> omega), Below.heap_alloc _ _ _ (by simp)]
    exact Deep.blk_alloc_new w _)
  have HG1 : Hid (w0.heap[w.heap.size + 1]? = some (.cells #[.slice D ld d] 33 (0, 0))) := Lib.hid (by
    rw [hw0, Below.heap_alloc _ _ _ (by simp)]
    have := Deep.blk_alloc_new (w.alloc (.cells #[.slice A la c] 33)) (.cells #[.slice D ld d] 33)
    rwa [World.size_alloc] at this)
  have HG2 : Hid (w0.heap[w.heap.size + 1 + 1]? = some (.cells #[.slice none 0 0] 33 (0, 0))) := Lib.hid (by
    rw [hw0]
    have := Deep.blk_alloc_new ((w.alloc (.cells #[.slice A la c] 33)).alloc (.cells #[.slice D ld d] 33)) (.cells #[.slice none 0 0] 33)
    rwa [World.size_alloc, World.size_alloc] at this)
  have hg0 := cell_of_row w0 w.heap.size 0 _ _ _ HG0.out
  have hg1 := cell_of_row w0 (w.heap.size + 1) 0 _ _ _ HG1.out
  simp at hg0 hg1
  go_enter Try.func29, Try.ntmps29
  go_wp2_with fail
  rw [← hw0]
  clear hw0
  have HBx0 := HB0
  have HG0x0 := HG0
  have HG1x0 := HG1
  have HG2x0 := HG2
  have HDw : Hid (∀ n, Below w.heap.size w (w0.drewN n)) := Lib.hid (fun n => below_drewN HB0.out n)
  have Hd0 : Hid (∀ n, (w0.drewN n).heap[w.heap.size]? = some (.cells #[.slice A la c] 33 (0, 0))) := Lib.hid (fun n => HG0.out)
  have Hd1 : Hid (∀ n, (w0.drewN n).heap[w.heap.size + 1]? = some (.cells #[.slice D ld d] 33 (0, 0))) := Lib.hid (fun n => HG1.out)
  have Hd2 : Hid (∀ n, (w0.drewN n).heap[w.heap.size + 1 + 1]? = some (.cells #[.slice none 0 0] 33 (0, 0))) := Lib.hid (fun n => HG2.out)
  go_region_held3 (fun W => W.cell? ⟨w.heap.size, 0, none⟩ = some (.slice A la c) ∧ W.cell? ⟨w.heap.size + 1, 0, none⟩ = some (.slice D ld d))
    (first | exact ⟨cell_of_row _ w.heap.size 0 _ _ _ HG0x2.out, cell_of_row _ (w.heap.size + 1) 0 _ _ _ HG1x2.out⟩ | exact ⟨cell_of_row _ w.heap.size 0 _ _ _ HG0x1.out, cell_of_row _ (w.heap.size + 1) 0 _ _ _ HG1x1.out⟩ | exact ⟨cell_of_row _ w.heap.size 0 _ _ _ (Hd0.out _), cell_of_row _ (w.heap.size + 1) 0 _ _ _ (Hd1.out _)⟩ | exact ⟨hg0, hg1⟩)
    ((first
      | (go_at_call 24; have hx1 := HBx1; clear hx1; refine (HT2.out _ (HR2.out _ HBx1.out)).mono ?_; rintro e w2 ⟨rfl, hb⟩; have HBx2 := Lib.hid (HBx1.out.trans (hb.mono HBx1.out.size)); have HG0x2 := Lib.hid ((hb.block w.heap.size ((Array.getElem?_eq_some_iff.1 HG0x1.out).1)).trans HG0x1.out); have HG1x2 := Lib.hid ((hb.block (w.heap.size + 1) ((Array.getElem?_eq_some_iff.1 HG1x1.out).1)).trans HG1x1.out); have HG2x2 := Lib.hid ((hb.block (w.heap.size + 1 + 1) ((Array.getElem?_eq_some_iff.1 HG2x1.out).1)).trans HG2x1.out); clear hb)
      | (go_at_call 24; refine (HT.out _ (HR.out _ (HDw.out _))).mono ?_; rintro e w1 ⟨rfl, hb⟩; have HBx1 := Lib.hid ((HDw.out _).trans (hb.mono (HDw.out _).size)); have HG0x1 := Lib.hid ((hb.block w.heap.size ((Array.getElem?_eq_some_iff.1 (Hd0.out _)).1)).trans (Hd0.out _)); have HG1x1 := Lib.hid ((hb.block (w.heap.size + 1) ((Array.getElem?_eq_some_iff.1 (Hd1.out _)).1)).trans (Hd1.out _)); have HG2x1 := Lib.hid ((hb.block (w.heap.size + 1 + 1) ((Array.getElem?_eq_some_iff.1 (Hd2.out _)).1)).trans (Hd2.out _)); clear hb)
      | fail))
  clear hg0 hg1
  have hg0 := cell_of_row w2 w.heap.size 0 _ _ _ HG0x2.out
  have hg1 := cell_of_row w2 (w.heap.size + 1) 0 _ _ _ HG1x2.out
  have hg2 := cell_of_row w2 (w.heap.size + 1 + 1) 0 _ _ _ HG2x2.out
  have hf2 := frz HG2x2.out 0
  simp at hg0 hg1 hg2
  go_wp2_with fail
  refine bodyPost_ret (v := .tuple #[.agg #[.slice none 0 0], .int .i64 20]) ?_ rfl ⟨rfl, ?_⟩
  · rw [results_cell_tmp1 rfl]; go_simp <;> rfl
  · exact HBx2.out.setCell (p := ⟨w.heap.size + 1 + 1, 0, none⟩) (by show w.heap.size ≤ w.heap.size + 1 + 1; omega) _
set_option maxRecDepth 100000 in
set_option maxHeartbeats 4000000 in
theorem subtract_ok (A : Option Addr) (c : Nat) (D : Option Addr) (d : Nat) (cv dv : List Int) (hC : Cv cv) (hD : Cv dv) (hle : ∀ i, i < 305 → dv.getD i 0 ≤ cv.getD i 0) (w : World) (hR : Rs w w.heap.size A (ivCells (bk cv))) (hR2 : Rs w w.heap.size D (ivCells (bk dv))) :
    Calls Try.prog 30 #[.agg #[.slice A (bk cv).length c], .agg #[.slice D (bk dv).length d]] w fun e w' => (∃ x, e = .returned (.tuple #[.agg #[x], .int .i64 0]) ∧ w'.ownsRow w.heap.size 66 2 x (bk (sbC cv dv)).length (ivCells (bk (sbC cv dv)))) ∧ Below w.heap.size w w' := by
  have HCo := Lib.hid (fun W h => countsOf_any A c (bk cv) (Cv.bklen cv) hC.vb W h)
  rw [show coL (bk cv) (bk cv).length = cv from coL_bk cv hC.len] at HCo
  have HCp := Lib.hid (fun W h => countsOf_any D d (bk dv) (Cv.bklen dv) hD.vb W h)
  rw [show coL (bk dv) (bk dv).length = dv from coL_bk dv hD.len] at HCp
  have hsb := counts_size cv hC.len
  have hall := counts_all cv
  have HXi := Lib.hid (fun k hk W => index_arr dv hD.len k hk W)
  have HSt := Lib.hid (fun k hk => opL_step (fun x y => x - y) cv dv hC.len k hk)
  have HBd := Lib.hid (fun k => hC.bd k)
  have HBe := Lib.hid (fun k => hD.bd k)
  have hZs : ((List.replicate 305 (Value.int .i64 0)).toArray).size = ((cv.map (Value.int .i64)).toArray).size := by simp [hC.len]
  have hCa := hC.sub hD hle
  have HH := Lib.hid (fun W => hist_any (sbC cv dv) hCa.len (fun i => by have := hCa.bd i; omega) W)
  rw [show bkN (sbC cv dv) 305 = bk (sbC cv dv) from rfl] at HH
  have hsa := counts_size (sbC cv dv) hCa.len
  have HR := Lib.hid (fun W (hb : Below w.heap.size w W) => (fun j hj => by
    obtain ⟨b, off, e, h1, h2⟩ := Rs.below hR hb j hj
    exact ⟨b, off, e, Nat.lt_of_lt_of_le h1 hb.size, h2⟩ : Rs W W.heap.size A (ivCells (bk cv))))
  have HR2 := Lib.hid (fun W (hb : Below w.heap.size w W) => (fun j hj => by
    obtain ⟨b, off, e, h1, h2⟩ := Rs.below hR2 hb j hj
    exact ⟨b, off, e, Nat.lt_of_lt_of_le h1 hb.size, h2⟩ : Rs W W.heap.size D (ivCells (bk dv))))
  obtain ⟨cb, hcb⟩ : ∃ cb : Array Value, cb = ((sbC cv dv).map (Value.int .i64)).toArray := ⟨_, rfl⟩
  rw [← hcb] at HH hsa
  have Hcb := Lib.hid hcb
  have Hsa := Lib.hid hsa
  obtain ⟨B, hB⟩ : ∃ B, B = bk (sbC cv dv) := ⟨_, rfl⟩
  rw [← hB] at HH ⊢
  clear hB hcb hsa hCa
  obtain ⟨ca, hca⟩ : ∃ ca : Array Value, ca = (cv.map (Value.int .i64)).toArray := ⟨_, rfl⟩
  rw [← hca] at HCo hsb hall hZs
  obtain ⟨da, hda⟩ : ∃ da : Array Value, da = (dv.map (Value.int .i64)).toArray := ⟨_, rfl⟩
  rw [← hda] at HCp HXi
  have Hca := Lib.hid hca
  have hz := counts_zero
  obtain ⟨Z, hZ⟩ : ∃ Z : Array Value, Z = (List.replicate 305 (.int .i64 0)).toArray := ⟨_, rfl⟩
  rw [← hZ] at hz hZs
  have HZs := Lib.hid hZs
  have Hall := Lib.hid hall
  have Hsb := Lib.hid hsb
  clear hca hda hZ hZs hall hsb
  obtain ⟨la, hla⟩ : ∃ la, la = (bk cv).length := ⟨_, rfl⟩
  obtain ⟨ld, hld⟩ : ∃ ld, ld = (bk dv).length := ⟨_, rfl⟩
  rw [← hla, ← hld]
  rw [← hla] at HCo
  rw [← hld] at HCp
  have HLe := Lib.hid hle
  clear hle
  clear hla hld hR hR2 hC hD
  obtain ⟨w0, hw0⟩ : ∃ w0 : World, w0 = (((w.alloc (.cells #[.slice A la c] 33)).alloc (.cells #[.slice D ld d] 33)).alloc (.cells #[.slice none 0 0] 33)) := ⟨_, rfl⟩
  have hz0 : w0.heap.size = w.heap.size + 1 + 1 + 1 := by rw [hw0]; simp
  have HB0 : Hid (Below w.heap.size w w0) := Lib.hid (by rw [hw0]; exact (((Below.refl _ _).alloc (Nat.le_refl _) _).alloc (by simp) _).alloc (by simp <;> omega) _)
  have HG0 : Hid (w0.heap[w.heap.size]? = some (.cells #[.slice A la c] 33 (0, 0))) := Lib.hid (by
    rw [hw0, Below.heap_alloc _ _ _ (by simp <;> omega), Below.heap_alloc _ _ _ (by simp)]
    exact Deep.blk_alloc_new w _)
  have HG1 : Hid (w0.heap[w.heap.size + 1]? = some (.cells #[.slice D ld d] 33 (0, 0))) := Lib.hid (by
    rw [hw0, Below.heap_alloc _ _ _ (by simp)]
    have := Deep.blk_alloc_new (w.alloc (.cells #[.slice A la c] 33)) (.cells #[.slice D ld d] 33)
    rwa [World.size_alloc] at this)
  have HG2 : Hid (w0.heap[w.heap.size + 1 + 1]? = some (.cells #[.slice none 0 0] 33 (0, 0))) := Lib.hid (by
    rw [hw0]
    have := Deep.blk_alloc_new ((w.alloc (.cells #[.slice A la c] 33)).alloc (.cells #[.slice D ld d] 33)) (.cells #[.slice none 0 0] 33)
    rwa [World.size_alloc, World.size_alloc] at this)
  have hg0 := cell_of_row w0 w.heap.size 0 _ _ _ HG0.out
  have hg1 := cell_of_row w0 (w.heap.size + 1) 0 _ _ _ HG1.out
  simp at hg0 hg1
  go_enter Try.func30, Try.ntmps30
  go_wp2_with fail
  rw [← hw0]
  clear hw0
  have HBx0 := HB0
  have HG0x0 := HG0
  have HG1x0 := HG1
  have HG2x0 := HG2
  refine (HCo.out _ (HR.out _ HBx0.out)).mono ?_
  rintro e w3 ⟨rfl, hb⟩
  have HBx3 := Lib.hid (HBx0.out.trans (hb.mono HBx0.out.size))
  have HG0x3 := Lib.hid ((hb.block w.heap.size ((Array.getElem?_eq_some_iff.1 HG0x0.out).1)).trans HG0x0.out)
  have HG1x3 := Lib.hid ((hb.block (w.heap.size + 1) ((Array.getElem?_eq_some_iff.1 HG1x0.out).1)).trans HG1x0.out)
  have HG2x3 := Lib.hid ((hb.block (w.heap.size + 1 + 1) ((Array.getElem?_eq_some_iff.1 HG2x0.out).1)).trans HG2x0.out)
  clear hb
  clear hg0 hg1
  have hl3 : w.heap.size + 1 + 1 < w3.heap.size := (Array.getElem?_eq_some_iff.1 HG2x3.out).1
  have HBx4 := Lib.hid (HBx3.out.alloc HBx3.out.size (.cells ca 68))
  have HG0x4 := Lib.hid ((Below.heap_alloc w3 (.cells ca 68) _ (by omega)).trans HG0x3.out)
  have HG1x4 := Lib.hid ((Below.heap_alloc w3 (.cells ca 68) _ (by omega)).trans HG1x3.out)
  have HG2x4 := Lib.hid ((Below.heap_alloc w3 (.cells ca 68) _ hl3).trans HG2x3.out)
  have HCx4 := Lib.hid (Deep.blk_alloc_new w3 (.cells ca 68))
  have hg1 := cell_of_row _ (w.heap.size + 1) 0 _ _ _ HG1x4.out
  simp at hg1
  go_wp2_with (first
    | ((with_reducible refine wpList_store_row rfl _ _ _ rfl w3.heap.size ca rfl rfl 68 Z (Deep.blk_alloc_new w3 _) Hsb.out HZs.out Hall.out ?_); rw [World.setRow_alloc_new]))
  clear hz
  refine (HCp.out _ (HR2.out _ HBx4.out)).mono ?_
  rintro e w5 ⟨rfl, hb⟩
  have HBx5 := Lib.hid (HBx4.out.trans (hb.mono HBx4.out.size))
  have HG2x5 := Lib.hid ((hb.block (w.heap.size + 1 + 1) ((Array.getElem?_eq_some_iff.1 HG2x4.out).1)).trans HG2x4.out)
  have HCx5 := Lib.hid ((hb.block w3.heap.size ((Array.getElem?_eq_some_iff.1 HCx4.out).1)).trans HCx4.out)
  clear hb hg1 HG0x4 HG1x4 HG0x3 HG1x3
  obtain ⟨g, hg⟩ : ∃ g, g = w3.heap.size := ⟨_, rfl⟩
  rw [← hg] at hl3 HCx5
  go_wp2_with fail
  rw [← hg]
  clear hg
  go_loopw [13] (fun iv wr => ∃ k : Nat, k ≤ 305 ∧ iv = .int .i64 (k : Int) ∧ Hid (wr.heap[g]? = some (.cells ((opL (fun x y => x - y) cv dv k).map (Value.int .i64)).toArray 68 (0, 0))) ∧ Hid (wr.heap[w.heap.size + 1 + 1]? = some (.cells #[.slice none 0 0] 33 (0, 0))) ∧ Hid (Below w.heap.size w wr)) (fun iv _ => 305 - (intOf iv).toNat)
  case atStart => exact ⟨0, Nat.zero_le _, rfl, Lib.hid (by rw [show opL (fun x y => x - y) cv dv 0 = cv from rfl, ← Hca.out]; exact HCx5.out), HG2x5, HBx5⟩
  case round =>
    obtain ⟨k, hk, rfl, HC, HG, HB⟩ := hrel
    have hsz := HB.out.size
    have hlg : g < wr.heap.size := (Array.getElem?_eq_some_iff.1 HC.out).1
    have hk0 : (0 : Int) ≤ (k : Int) := by omega
    by_cases hlt : k < 305
    · have hix := HXi.out k hlt
      obtain ⟨hs1, hs2⟩ := HSt.out k hlt
      have HNx := Lib.hid hs2
      have hb1 := HBd.out k
      have hb2 := HBe.out k
      have hcell : wr.cell? ⟨g, k, none⟩ = some (.int .i64 (cv.getD k 0)) := by rw [cell_of_row _ g k _ _ _ HC.out, hs1]
      have hfr := frz HC.out k
      have hle := HLe.out k hlt
      obtain ⟨y, hy⟩ : ∃ y, y = cv.getD k 0 := ⟨_, rfl⟩
      obtain ⟨x, hx⟩ : ∃ x, x = dv.getD k 0 := ⟨_, rfl⟩
      have HY := Lib.hid hy
      have HX := Lib.hid hx
      rw [← hx] at hix hb2 HNx
      rw [← hy] at hcell hb1 HNx
      have hkI : (k : Int) < 305 := by omega
      have hw1 : IntKind.i64.wrap ((k : Int) + 1) = (k : Int) + 1 := by simp only [IntKind.wrap_i64]; omega
      rw [← hx, ← hy] at hle
      have d1 : decide (y < x) = false := by simp; omega
      have hwy : IntKind.i64.wrap (y - x) = y - x := by simp only [IntKind.wrap_i64]; omega
      clear hs1 hs2 hy hx hb1 hb2
      go_wp2_with fail
      clear hix
      go_roundw
      case rel =>
        refine ⟨k + 1, by omega, by go_num, Lib.hid ?_, Lib.hid ?_, Lib.hid (HB.out.setCell (p := ⟨g, k, none⟩) (by show w.heap.size ≤ g; omega) _)⟩
        · rw [blk_set _ HC.out, ← HNx.out]
        · exact (Below.heap_setCell wr _ _ _ (by show w.heap.size + 1 + 1 ≠ g; omega)).trans HG.out
      case measure => simp [intOf] <;> omega
    · obtain rfl : k = 305 := by omega
      have hcc : ((opL (fun x y => x - y) cv dv 305).map (Value.int .i64)).toArray = cb := Hcb.out.symm
      rw [hcc] at HC
      clear hcc
      go_wp2_with (with_reducible refine wpList_load_row rfl _ _ rfl g rfl 68 cb (0, 0) _ HC.out Try.underlying68 rfl Hsa.out ?_)
      refine (HH.out _).mono ?_
      rintro e w6 ⟨⟨v, rfl, ho⟩, hb⟩
      obtain ⟨A3, c3, rfl, _, _, _⟩ := rs_own ho
      have hl5 : w.heap.size + 1 + 1 < wr.heap.size := (Array.getElem?_eq_some_iff.1 HG.out).1
      have HB6 := Lib.hid (HB.out.trans (hb.mono hsz))
      have HG6 := Lib.hid ((hb.block (w.heap.size + 1 + 1) hl5).trans HG.out)
      have HO6 : Hid (w6.ownsRow (w.heap.size + 1 + 1 + 1) 66 2 (.slice A3 B.length c3) B.length (ivCells B)) := Lib.hid (by
        refine ⟨ho.1, ?_⟩
        rcases ho.2 with h | ⟨g, cap, cur, hv, hb, h⟩
        · exact .inl h
        · exact .inr ⟨g, cap, cur, hv, by omega, h⟩)
      have c3' := cell_of_row w6 (w.heap.size + 1 + 1) 0 _ _ _ HG6.out
      have hf3 := frz HG6.out 0
      have hl6 : w.heap.size + 1 + 1 < w6.heap.size := (Array.getElem?_eq_some_iff.1 HG6.out).1
      clear ho hb
      go_wp2_with fail
      refine bodyPost_ret (v := .tuple #[.agg #[.slice A3 B.length c3], .int .i64 0]) ?_ rfl ⟨⟨_, rfl, ?_⟩, ?_⟩
      · rw [results_cell_tmp1 rfl]; go_simp <;> rfl
      · have h := ownsRow_setCell_below HO6.out (a := ⟨w.heap.size + 1 + 1, 0, none⟩) (by show w.heap.size + 1 + 1 < _; omega) (.slice A3 B.length c3)
        refine ⟨h.1, ?_⟩
        rcases h.2 with h | ⟨g, cap, cur, hv, hb, h⟩
        · exact .inl h
        · exact .inr ⟨g, cap, cur, hv, by omega, h⟩
      · exact HB6.out.setCell (p := ⟨w.heap.size + 1 + 1, 0, none⟩) (by show w.heap.size ≤ w.heap.size + 1 + 1; omega) _
set_option maxRecDepth 100000 in
set_option maxHeartbeats 4000000 in
theorem subtract_bad (A : Option Addr) (c : Nat) (D : Option Addr) (d : Nat) (cv dv : List Int) (hC : Cv cv) (hD : Cv dv) (hle : ∃ i, i < 305 ∧ cv.getD i 0 < dv.getD i 0) (w : World) (hR : Rs w w.heap.size A (ivCells (bk cv))) (hR2 : Rs w w.heap.size D (ivCells (bk dv))) :
    Calls Try.prog 30 #[.agg #[.slice A (bk cv).length c], .agg #[.slice D (bk dv).length d]] w fun e w' => e = .returned (.tuple #[.agg #[.slice none 0 0], .int .i64 17]) ∧ Below w.heap.size w w' := by
  have HCo := Lib.hid (fun W h => countsOf_any A c (bk cv) (Cv.bklen cv) hC.vb W h)
  rw [show coL (bk cv) (bk cv).length = cv from coL_bk cv hC.len] at HCo
  have HCp := Lib.hid (fun W h => countsOf_any D d (bk dv) (Cv.bklen dv) hD.vb W h)
  rw [show coL (bk dv) (bk dv).length = dv from coL_bk dv hD.len] at HCp
  have hsb := counts_size cv hC.len
  have hall := counts_all cv
  have HXi := Lib.hid (fun k hk W => index_arr dv hD.len k hk W)
  have HSt := Lib.hid (fun k hk => opL_step (fun x y => x - y) cv dv hC.len k hk)
  have HBd := Lib.hid (fun k => hC.bd k)
  have HBe := Lib.hid (fun k => hD.bd k)
  have hZs : ((List.replicate 305 (Value.int .i64 0)).toArray).size = ((cv.map (Value.int .i64)).toArray).size := by simp [hC.len]
  have HR := Lib.hid (fun W (hb : Below w.heap.size w W) => (fun j hj => by
    obtain ⟨b, off, e, h1, h2⟩ := Rs.below hR hb j hj
    exact ⟨b, off, e, Nat.lt_of_lt_of_le h1 hb.size, h2⟩ : Rs W W.heap.size A (ivCells (bk cv))))
  have HR2 := Lib.hid (fun W (hb : Below w.heap.size w W) => (fun j hj => by
    obtain ⟨b, off, e, h1, h2⟩ := Rs.below hR2 hb j hj
    exact ⟨b, off, e, Nat.lt_of_lt_of_le h1 hb.size, h2⟩ : Rs W W.heap.size D (ivCells (bk dv))))
  obtain ⟨ca, hca⟩ : ∃ ca : Array Value, ca = (cv.map (Value.int .i64)).toArray := ⟨_, rfl⟩
  rw [← hca] at HCo hsb hall hZs
  obtain ⟨da, hda⟩ : ∃ da : Array Value, da = (dv.map (Value.int .i64)).toArray := ⟨_, rfl⟩
  rw [← hda] at HCp HXi
  have Hca := Lib.hid hca
  have hz := counts_zero
  obtain ⟨Z, hZ⟩ : ∃ Z : Array Value, Z = (List.replicate 305 (.int .i64 0)).toArray := ⟨_, rfl⟩
  rw [← hZ] at hz hZs
  have HZs := Lib.hid hZs
  have Hall := Lib.hid hall
  have Hsb := Lib.hid hsb
  clear hca hda hZ hZs hall hsb
  obtain ⟨la, hla⟩ : ∃ la, la = (bk cv).length := ⟨_, rfl⟩
  obtain ⟨ld, hld⟩ : ∃ ld, ld = (bk dv).length := ⟨_, rfl⟩
  rw [← hla, ← hld]
  rw [← hla] at HCo
  rw [← hld] at HCp
  have HLe := Lib.hid hle
  clear hle
  clear hla hld hR hR2 hC hD
  obtain ⟨w0, hw0⟩ : ∃ w0 : World, w0 = (((w.alloc (.cells #[.slice A la c] 33)).alloc (.cells #[.slice D ld d] 33)).alloc (.cells #[.slice none 0 0] 33)) := ⟨_, rfl⟩
  have hz0 : w0.heap.size = w.heap.size + 1 + 1 + 1 := by rw [hw0]; simp
  have HB0 : Hid (Below w.heap.size w w0) := Lib.hid (by rw [hw0]; exact (((Below.refl _ _).alloc (Nat.le_refl _) _).alloc (by simp) _).alloc (by simp <;> omega) _)
  have HG0 : Hid (w0.heap[w.heap.size]? = some (.cells #[.slice A la c] 33 (0, 0))) := Lib.hid (by
    rw [hw0, Below.heap_alloc _ _ _ (by simp <;> omega), Below.heap_alloc _ _ _ (by simp)]
    exact Deep.blk_alloc_new w _)
  have HG1 : Hid (w0.heap[w.heap.size + 1]? = some (.cells #[.slice D ld d] 33 (0, 0))) := Lib.hid (by
    rw [hw0, Below.heap_alloc _ _ _ (by simp)]
    have := Deep.blk_alloc_new (w.alloc (.cells #[.slice A la c] 33)) (.cells #[.slice D ld d] 33)
    rwa [World.size_alloc] at this)
  have HG2 : Hid (w0.heap[w.heap.size + 1 + 1]? = some (.cells #[.slice none 0 0] 33 (0, 0))) := Lib.hid (by
    rw [hw0]
    have := Deep.blk_alloc_new ((w.alloc (.cells #[.slice A la c] 33)).alloc (.cells #[.slice D ld d] 33)) (.cells #[.slice none 0 0] 33)
    rwa [World.size_alloc, World.size_alloc] at this)
  have hg0 := cell_of_row w0 w.heap.size 0 _ _ _ HG0.out
  have hg1 := cell_of_row w0 (w.heap.size + 1) 0 _ _ _ HG1.out
  simp at hg0 hg1
  go_enter Try.func30, Try.ntmps30
  go_wp2_with fail
  rw [← hw0]
  clear hw0
  have HBx0 := HB0
  have HG0x0 := HG0
  have HG1x0 := HG1
  have HG2x0 := HG2
  refine (HCo.out _ (HR.out _ HBx0.out)).mono ?_
  rintro e w3 ⟨rfl, hb⟩
  have HBx3 := Lib.hid (HBx0.out.trans (hb.mono HBx0.out.size))
  have HG0x3 := Lib.hid ((hb.block w.heap.size ((Array.getElem?_eq_some_iff.1 HG0x0.out).1)).trans HG0x0.out)
  have HG1x3 := Lib.hid ((hb.block (w.heap.size + 1) ((Array.getElem?_eq_some_iff.1 HG1x0.out).1)).trans HG1x0.out)
  have HG2x3 := Lib.hid ((hb.block (w.heap.size + 1 + 1) ((Array.getElem?_eq_some_iff.1 HG2x0.out).1)).trans HG2x0.out)
  clear hb
  clear hg0 hg1
  have hl3 : w.heap.size + 1 + 1 < w3.heap.size := (Array.getElem?_eq_some_iff.1 HG2x3.out).1
  have HBx4 := Lib.hid (HBx3.out.alloc HBx3.out.size (.cells ca 68))
  have HG0x4 := Lib.hid ((Below.heap_alloc w3 (.cells ca 68) _ (by omega)).trans HG0x3.out)
  have HG1x4 := Lib.hid ((Below.heap_alloc w3 (.cells ca 68) _ (by omega)).trans HG1x3.out)
  have HG2x4 := Lib.hid ((Below.heap_alloc w3 (.cells ca 68) _ hl3).trans HG2x3.out)
  have HCx4 := Lib.hid (Deep.blk_alloc_new w3 (.cells ca 68))
  have hg1 := cell_of_row _ (w.heap.size + 1) 0 _ _ _ HG1x4.out
  simp at hg1
  go_wp2_with (first
    | ((with_reducible refine wpList_store_row rfl _ _ _ rfl w3.heap.size ca rfl rfl 68 Z (Deep.blk_alloc_new w3 _) Hsb.out HZs.out Hall.out ?_); rw [World.setRow_alloc_new]))
  clear hz
  refine (HCp.out _ (HR2.out _ HBx4.out)).mono ?_
  rintro e w5 ⟨rfl, hb⟩
  have HBx5 := Lib.hid (HBx4.out.trans (hb.mono HBx4.out.size))
  have HG2x5 := Lib.hid ((hb.block (w.heap.size + 1 + 1) ((Array.getElem?_eq_some_iff.1 HG2x4.out).1)).trans HG2x4.out)
  have HCx5 := Lib.hid ((hb.block w3.heap.size ((Array.getElem?_eq_some_iff.1 HCx4.out).1)).trans HCx4.out)
  clear hb hg1 HG0x4 HG1x4 HG0x3 HG1x3
  obtain ⟨g, hg⟩ : ∃ g, g = w3.heap.size := ⟨_, rfl⟩
  rw [← hg] at hl3 HCx5
  go_wp2_with fail
  rw [← hg]
  clear hg
  go_loopw [13] (fun iv wr => ∃ k : Nat, k ≤ 305 ∧ iv = .int .i64 (k : Int) ∧ Hid (wr.heap[g]? = some (.cells ((opL (fun x y => x - y) cv dv k).map (Value.int .i64)).toArray 68 (0, 0))) ∧ Hid (wr.heap[w.heap.size + 1 + 1]? = some (.cells #[.slice none 0 0] 33 (0, 0))) ∧ Hid (Below w.heap.size w wr) ∧ Hid (∀ i, i < k → dv.getD i 0 ≤ cv.getD i 0)) (fun iv _ => 305 - (intOf iv).toNat)
  case atStart => exact ⟨0, Nat.zero_le _, rfl, Lib.hid (by rw [show opL (fun x y => x - y) cv dv 0 = cv from rfl, ← Hca.out]; exact HCx5.out), HG2x5, HBx5, Lib.hid (fun i hi => absurd hi (by omega))⟩
  case round =>
    obtain ⟨k, hk, rfl, HC, HG, HB, HPr⟩ := hrel
    have hsz := HB.out.size
    have hlg : g < wr.heap.size := (Array.getElem?_eq_some_iff.1 HC.out).1
    have hk0 : (0 : Int) ≤ (k : Int) := by omega
    by_cases hlt : k < 305
    · have hix := HXi.out k hlt
      obtain ⟨hs1, hs2⟩ := HSt.out k hlt
      have HNx := Lib.hid hs2
      have hb1 := HBd.out k
      have hb2 := HBe.out k
      have hcell : wr.cell? ⟨g, k, none⟩ = some (.int .i64 (cv.getD k 0)) := by rw [cell_of_row _ g k _ _ _ HC.out, hs1]
      have hfr := frz HC.out k
      obtain ⟨y, hy⟩ : ∃ y, y = cv.getD k 0 := ⟨_, rfl⟩
      obtain ⟨x, hx⟩ : ∃ x, x = dv.getD k 0 := ⟨_, rfl⟩
      have HY := Lib.hid hy
      have HX := Lib.hid hx
      rw [← hx] at hix hb2 HNx
      rw [← hy] at hcell hb1 HNx
      have hkI : (k : Int) < 305 := by omega
      have hw1 : IntKind.i64.wrap ((k : Int) + 1) = (k : Int) + 1 := by simp only [IntKind.wrap_i64]; omega
      have hwy : IntKind.i64.wrap (y - x) = y - x := by simp only [IntKind.wrap_i64]; omega
      clear hs1 hs2 hy hx hb1 hb2
      by_cases hyx : y < x
      · have d1 : decide (y < x) = true := by simpa using hyx
        have c2' := cell_of_row wr (w.heap.size + 1 + 1) 0 _ _ _ HG.out
        have hf2 := frz HG.out 0
        have hl2 : w.heap.size + 1 + 1 < wr.heap.size := (Array.getElem?_eq_some_iff.1 HG.out).1
        go_wp2_with fail
        refine bodyPost_ret (v := .tuple #[.agg #[.slice none 0 0], .int .i64 17]) ?_ rfl ⟨rfl, ?_⟩
        · rw [results_cell_tmp1 rfl]; go_simp <;> rfl
        · exact HB.out.setCell (p := ⟨w.heap.size + 1 + 1, 0, none⟩) (by show w.heap.size ≤ w.heap.size + 1 + 1; omega) _
      · have d1 : decide (y < x) = false := by simpa using hyx
        go_wp2_with fail
        clear hix
        go_roundw
        case rel =>
          refine ⟨k + 1, by omega, by go_num, Lib.hid ?_, Lib.hid ?_, Lib.hid (HB.out.setCell (p := ⟨g, k, none⟩) (by show w.heap.size ≤ g; omega) _), Lib.hid ?_⟩
          · rw [blk_set _ HC.out, ← HNx.out]
          · exact (Below.heap_setCell wr _ _ _ (by show w.heap.size + 1 + 1 ≠ g; omega)).trans HG.out
          · intro i hi
            by_cases h : i = k
            · subst h; rw [← HY.out, ← HX.out]; omega
            · exact HPr.out i (by omega)
        case measure => simp [intOf] <;> omega
    · obtain rfl : k = 305 := by omega
      obtain ⟨i, hi, hlt2⟩ := HLe.out
      exact absurd (HPr.out i hi) (by omega)
end Go.Proofs.Ytolgcphmmghlbaa
