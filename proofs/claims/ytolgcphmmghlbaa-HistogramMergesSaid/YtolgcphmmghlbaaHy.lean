/- Add, at the buckets of counts. -/
import Derived.Test.YtolgcphmmghlbaaHx
import Derived.Deep.WholeRow
namespace Go.Proofs.Ytolgcphmmghlbaa
open Go.ChangeShapes Go.WideShapes Go.ChangeAt Go.RowKit Go.Joins

/-- The buckets of all counts. -/
def bk (cv : List Int) : List Iv := bkN cv 305
/-- Counts of a histogram. -/
structure Cv (cv : List Int) : Prop where
  len : cv.length = 305
  pos : ∀ i, 0 ≤ cv.getD i 0
  tot : sN cv 305 ≤ 1048576
theorem le_sN (cv : List Int) (h : ∀ i, 0 ≤ cv.getD i 0) (n m : Nat) (hm : m < n) : 0 ≤ sN cv n ∧ cv.getD m 0 ≤ sN cv n := by
  induction n with
  | zero => omega
  | succ n ih =>
    have hn := h n
    show 0 ≤ sN cv n + cv.getD n 0 ∧ _ ≤ sN cv n + cv.getD n 0
    have h0 : 0 ≤ sN cv n := by
      clear ih hm hn
      induction n with
      | zero => exact Int.le_refl _
      | succ n ih => have := h n; show 0 ≤ sN cv n + cv.getD n 0; omega
    by_cases he : m = n
    · subst he; omega
    · have := ih (by omega); omega
theorem Cv.bd {cv : List Int} (h : Cv cv) (i : Nat) : 0 ≤ cv.getD i 0 ∧ cv.getD i 0 ≤ 1048576 := by
  refine ⟨h.pos i, ?_⟩
  by_cases hi : i < 305
  · have := (le_sN cv h.pos 305 i hi).2; have := h.tot; omega
  · have e : cv.getD i 0 = 0 := by simp [List.getD, List.getElem?_eq_none (show cv.length ≤ i by rw [h.len]; omega)]
    rw [e]; omega
theorem Cv.vb {cv : List Int} (h : Cv cv) : VB (bk cv) := fun x hx => by
  obtain ⟨m, h1, h2, h3, h4⟩ := bkN_mem _ _ x hx
  have := h.bd m
  refine ⟨by omega, by omega, ?_, ?_⟩ <;> omega
theorem Cv.bklen (cv : List Int) : (bk cv).length ≤ 305 := bkN_len cv 305
theorem Cv.tt (cv : List Int) : ttN (bk cv) (bk cv).length = sN cv 305 := ttN_bk cv 305
theorem Cv.chk {cv : List Int} (h : Cv cv) : chkL none 0 (bk cv) = 0 :=
  chk_good _ none 0 h.vb (bkN_inc _ _) (fun q hq => by cases hq) (by rw [show ((bk cv).map Prod.snd).sum = sN cv 305 from bkN_sum _ _]; have := h.tot; omega)
theorem Cv.ivok {cv : List Int} (h : Cv cv) : ∀ x ∈ bk cv, IvOk x := fun x hx => by
  have := h.vb x hx
  unfold IvOk
  omega
theorem Cv.of (M : List Int) (hl : M.length ≤ 1000000) (hV : ∀ x ∈ M, Vl x) : Cv (cvN M M.length) :=
  ⟨cvN_len _ _, fun i => (cvN_bd M M.length i).1, by rw [sN_cvN M hV _ (Nat.le_refl _)]; omega⟩
theorem Cv.zero : Cv (List.replicate 305 0) :=
  ⟨List.length_replicate, fun i => by rw [rep_get]; omega, by
    have : ∀ n, sN (List.replicate 305 (0 : Int)) n = 0 := by
      intro n
      induction n with
      | zero => rfl
      | succ n ih => show sN _ n + _ = 0; rw [ih, rep_get]; omega
    rw [this]; omega⟩
theorem bk_zero : bk (List.replicate 305 0) = [] := by
  have : ∀ n, bkN (List.replicate 305 (0 : Int)) n = [] := by
    intro n
    induction n with
    | zero => rfl
    | succ n ih =>
      show (if _ then _ else _) = _
      rw [rep_get, if_pos rfl, ih]
  exact this 305
/-- Counts with more in one bucket. -/
def adC (cv : List Int) (i : Nat) (n : Int) : List Int := cv.set i (cv.getD i 0 + n)
theorem adC_sum (cv : List Int) (i : Nat) (n : Int) (hi : i < 305) (hl : cv.length = 305) : sN (adC cv i n) 305 = sN cv 305 + n := by
  unfold adC
  rw [sN_set _ _ _ (by omega), if_pos hi]
  omega
theorem adC_get (cv : List Int) (i k : Nat) (n : Int) (hi : i < 305) (hl : cv.length = 305) : (adC cv i n).getD k 0 = cv.getD k 0 + (if k = i then n else 0) := by
  unfold adC
  rw [getD_set_int]
  by_cases h : k = i
  · subst h; rw [if_pos ⟨rfl, by omega⟩, if_pos rfl]
  · rw [if_neg (fun y => h y.1.symm), if_neg h]; omega
theorem Cv.add {cv : List Int} (h : Cv cv) (i : Nat) (n : Int) (hi : i < 305) (hn : 0 ≤ n) (ht : n ≤ 1048576 - sN cv 305) : Cv (adC cv i n) := by
  refine ⟨by unfold adC; rw [List.length_set, h.len], fun k => ?_, by rw [adC_sum _ _ _ hi h.len]; omega⟩
  rw [adC_get _ _ _ _ hi h.len]
  have := h.pos k
  split <;> omega
theorem frz {W : World} {g : Nat} {cs : Array Value} {t : TypeId} (h : W.heap[g]? = some (.cells cs t (0, 0))) (i : Nat) : W.frozen? ⟨g, i, none⟩ = false := by simp [World.frozen?, h]
set_option maxRecDepth 100000 in
set_option maxHeartbeats 4000000 in
theorem add_ok (A : Option Addr) (c : Nat) (cv : List Int) (hC : Cv cv) (v : Nat) (hv : v ≤ 1099511627776) (n : Int) (hn : 0 ≤ n) (hn2 : n ≤ 1048576 - sN cv 305) (w : World) (hR : Rs w w.heap.size A (ivCells (bk cv))) :
    Calls Try.prog 26 #[.agg #[.slice A (bk cv).length c], .int .i64 (v : Int), .int .i64 n] w fun e w' => (∃ x, e = .returned (.tuple #[.agg #[x], .int .i64 0]) ∧ w'.ownsRow w.heap.size 66 2 x (bk (adC cv (ix v) n)).length (ivCells (bk (adC cv (ix v) n)))) ∧ Below w.heap.size w w' := by
  have hi5 := ix_lt v hv
  have HI := Lib.hid (fun W => index_ok v hv W)
  have HT := Lib.hid (fun W h => total_any A c (bk cv) (Cv.bklen cv) hC.vb W h)
  rw [Cv.tt] at HT
  have HCo := Lib.hid (fun W h => countsOf_any A c (bk cv) (Cv.bklen cv) hC.vb W h)
  rw [show coL (bk cv) (bk cv).length = cv from coL_bk cv hC.len] at HCo
  have hCa := hC.add (ix v) n hi5 hn hn2
  have HH := Lib.hid (fun W => hist_any (adC cv (ix v) n) hCa.len (fun i => by have := hCa.bd i; omega) W)
  rw [show bkN (adC cv (ix v) n) 305 = bk (adC cv (ix v) n) from rfl] at HH
  have hy := hC.bd (ix v)
  have hln := hC.len
  have hsa := counts_size (adC cv (ix v) n) hCa.len
  have hsb := counts_size cv hC.len
  have hall := counts_all cv
  have HR := Lib.hid (fun W (hb : Below w.heap.size w W) => (fun j hj => by
    obtain ⟨b, off, e, h1, h2⟩ := Rs.below hR hb j hj
    exact ⟨b, off, e, Nat.lt_of_lt_of_le h1 hb.size, h2⟩ : Rs W W.heap.size A (ivCells (bk cv))))
  have hset : ∀ t, (w.heap.size = t → True) := fun _ _ => trivial
  have hcs : ∃ ca : Array Value, ca = (cv.map (Value.int .i64)).toArray ∧ ca.size = 305 ∧ ca[ix v]? = some (.int .i64 (cv.getD (ix v) 0)) ∧ ca.setIfInBounds (ix v) (.int .i64 (cv.getD (ix v) 0 + n)) = ((adC cv (ix v) n).map (Value.int .i64)).toArray := by
    refine ⟨_, rfl, by simp [hln], ?_, ?_⟩
    · simp [List.getD, List.getElem?_eq_getElem (show ix v < cv.length by omega)]
    · simp [adC, List.map_set]
  obtain ⟨ca, hca, hcs, hcg, hcst⟩ := hcs
  obtain ⟨cb, hcb⟩ : ∃ cb : Array Value, cb = ((adC cv (ix v) n).map (Value.int .i64)).toArray := ⟨_, rfl⟩
  rw [← hca] at HCo hsb hall
  rw [← hcb] at HH hsa hcst
  obtain ⟨B, hB⟩ : ∃ B, B = bk (adC cv (ix v) n) := ⟨_, rfl⟩
  rw [← hB] at HH ⊢
  obtain ⟨t, ht⟩ : ∃ t, t = sN cv 305 := ⟨_, rfl⟩
  rw [← ht] at HT hn2
  obtain ⟨i, hii⟩ : ∃ i, i = ix v := ⟨_, rfl⟩
  rw [← hii] at HI hi5 hy hcg hcst
  obtain ⟨y, hyy⟩ : ∃ y, y = cv.getD i 0 := ⟨_, rfl⟩
  rw [← hyy] at hy hcg hcst
  have ht0 : 0 ≤ t ∧ t ≤ 1048576 := ⟨by rw [ht]; exact (le_sN cv hC.pos 305 0 (by omega)).1, by rw [ht]; exact hC.tot⟩
  obtain ⟨ln, hln⟩ : ∃ ln, ln = (bk cv).length := ⟨_, rfl⟩
  rw [← hln] at HT HCo ⊢
  have hz := counts_zero
  have hZs : ((List.replicate 305 (Value.int .i64 0)).toArray).size = ca.size := by rw [hcs]; simp
  obtain ⟨Z, hZ⟩ : ∃ Z : Array Value, Z = (List.replicate 305 (.int .i64 0)).toArray := ⟨_, rfl⟩
  rw [← hZ] at hz hZs
  have HZs := Lib.hid hZs
  have Hall := Lib.hid hall
  have Hsb := Lib.hid hsb
  have Hsa := Lib.hid hsa
  have Hcst := Lib.hid hcst
  have Hcg := Lib.hid hcg
  clear hcs hcg hcst hZ hZs hall hsb hsa hln hyy hii ht hB hca hcb hR hC hCa hset
  have d1 : decide (n < 0) = false := by simp; omega
  have d2 : decide (1048576 < n) = false := by simp; omega
  have hwt : IntKind.i64.wrap (1048576 - t) = 1048576 - t := by simp only [IntKind.wrap_i64]; omega
  have hwy : IntKind.i64.wrap (y + n) = y + n := by simp only [IntKind.wrap_i64]; omega
  have d3 : decide (1048576 - t < n) = false := by simp; omega
  have hiI : (i : Int) < 305 := by omega
  have hi0 : (0 : Int) ≤ (i : Int) := by omega
  have HB0 : Hid (Below w.heap.size w ((w.alloc (.cells #[.slice A ln c] 33)).alloc (.cells #[.slice none 0 0] 33))) := Lib.hid (((Below.refl _ _).alloc (Nat.le_refl _) _).alloc (by simp) _)
  have hz0 : ((w.alloc (.cells #[.slice A ln c] 33)).alloc (.cells #[.slice none 0 0] 33)).heap.size = w.heap.size + 1 + 1 := by simp
  have HG0 := Lib.hid (blk_under w (.cells #[.slice A ln c] 33) (.cells #[.slice none 0 0] 33))
  have HG1 := Lib.hid (blk_over w (.cells #[.slice A ln c] 33) (.cells #[.slice none 0 0] 33))
  clear hv hn hn2 hi5 hy ht0
  go_enter Try.func26, Try.ntmps26
  go_wp2_with fail
  refine (HI.out _).mono ?_
  rintro e w' ⟨rfl, rfl⟩
  go_wp2_with fail
  refine (HT.out _ (HR.out _ HB0.out)).mono ?_
  rintro e w1 ⟨rfl, hb⟩
  have HB1 := Lib.hid (HB0.out.trans (hb.mono HB0.out.size))
  have HK1 := Lib.hid ((hb.block w.heap.size (by rw [hz0]; omega)).trans HG0.out)
  have HJ1 := Lib.hid ((hb.block (w.heap.size + 1) (by rw [hz0]; omega)).trans HG1.out)
  clear hb
  have k0 := cell_of_row w1 w.heap.size 0 _ _ _ HK1.out
  simp at k0
  go_wp2_with fail
  refine (HCo.out _ (HR.out _ HB1.out)).mono ?_
  rintro e w2 ⟨rfl, hb⟩
  have HB2 := Lib.hid (HB1.out.trans (hb.mono HB1.out.size))
  have HJ2 := Lib.hid ((hb.block (w.heap.size + 1) ((Array.getElem?_eq_some_iff.1 HJ1.out).1)).trans HJ1.out)
  have hl2 : w.heap.size + 1 < w2.heap.size := (Array.getElem?_eq_some_iff.1 HJ2.out).1
  clear hb k0
  have HW := Lib.hid (Deep.blk_alloc_new w2 (.cells ca 68))
  have hcell : (w2.alloc (.cells ca 68)).cell? ⟨w2.heap.size, i, none⟩ = some (.int .i64 y) := by
    rw [cell_of_row _ w2.heap.size i _ _ _ HW.out, Hcg.out]
  have hfr : (w2.alloc (.cells ca 68)).frozen? ⟨w2.heap.size, i, none⟩ = false := frz HW.out i
  have hcst := Hcst.out
  go_wp2_with (first
    | ((with_reducible refine wpList_store_row rfl _ _ _ rfl w2.heap.size ca rfl rfl 68 Z (Deep.blk_alloc_new w2 _) Hsb.out HZs.out Hall.out ?_); rw [World.setRow_alloc_new])
    | (with_reducible refine wpList_load_row rfl _ _ rfl w2.heap.size rfl 68 cb (0, 0) _ (Deep.blk_alloc_new w2 _) Try.underlying68 rfl Hsa.out ?_))
  refine (HH.out _).mono ?_
  rintro e w3 ⟨⟨v, rfl, ho⟩, hb⟩
  obtain ⟨A3, c3, rfl, _, _, _⟩ := rs_own ho
  have HB3 := Lib.hid ((HB2.out.alloc HB2.out.size (.cells cb 68)).trans (hb.mono (by have := HB2.out.size; simp; omega)))
  have HJ3 : Hid (w3.heap[w.heap.size + 1]? = _) := Lib.hid ((hb.block (w.heap.size + 1) (by simp; omega)).trans ((Below.heap_alloc _ _ _ hl2).trans HJ2.out))
  have HO3 : Hid (w3.ownsRow (w.heap.size + 1 + 1) 66 2 (.slice A3 B.length c3) B.length (ivCells B)) := Lib.hid (by
    refine ⟨ho.1, ?_⟩
    rcases ho.2 with h | ⟨g, cap, cur, hv, hb, h⟩
    · exact .inl h
    · exact .inr ⟨g, cap, cur, hv, by simp at hb; omega, h⟩)
  have c3' := cell_of_row w3 (w.heap.size + 1) 0 _ _ _ HJ3.out
  have hf3 : w3.frozen? ⟨w.heap.size + 1, 0, none⟩ = false := by simp [World.frozen?, HJ3.out]
  have hl3 : w.heap.size + 1 < w3.heap.size := (Array.getElem?_eq_some_iff.1 HJ3.out).1
  clear ho hb hcell hfr
  go_wp2_with fail
  refine bodyPost_ret (v := .tuple #[.agg #[.slice A3 B.length c3], .int .i64 0]) ?_ rfl ⟨⟨_, rfl, ?_⟩, ?_⟩
  · rw [results_cell_tmp1 rfl]; go_simp <;> rfl
  · have h := ownsRow_setCell_below HO3.out (a := ⟨w.heap.size + 1, 0, none⟩) (by show w.heap.size + 1 < _; omega) (.slice A3 B.length c3)
    refine ⟨h.1, ?_⟩
    rcases h.2 with h | ⟨g, cap, cur, hv, hb, h⟩
    · exact .inl h
    · exact .inr ⟨g, cap, cur, hv, by omega, h⟩
  · exact HB3.out.setCell (p := ⟨w.heap.size + 1, 0, none⟩) (by show w.heap.size ≤ w.heap.size + 1; omega) _
end Go.Proofs.Ytolgcphmmghlbaa
