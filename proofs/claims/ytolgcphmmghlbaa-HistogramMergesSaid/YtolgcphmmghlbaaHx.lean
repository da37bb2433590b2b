/- The counts of a histogram's buckets. -/
import Derived.Test.YtolgcphmmghlbaaHs
import Derived.Laws.CopyOwn
namespace Go.Proofs.Ytolgcphmmghlbaa
open Go.ChangeShapes Go.WideShapes Go.ChangeAt Go.RowKit Go.Joins

/-- The counts with those of one more bucket. -/
def stC (c : List Int) (y : Iv) : List Int := c.set y.1.toNat (c.getD y.1.toNat 0 + y.2)
/-- The counts of the first j buckets. -/
def coL (L : List Iv) (j : Nat) : List Int := (L.take j).foldl stC (List.replicate 305 0)
theorem coL_succ (L : List Iv) (j : Nat) (h : j < L.length) : coL L (j + 1) = stC (coL L j) L[j] := by
  unfold coL
  rw [← List.take_append_getElem h, List.foldl_append]
  rfl
theorem fold_len (L : List Iv) (c : List Int) : (L.foldl stC c).length = c.length := by
  induction L generalizing c with
  | nil => rfl
  | cons x L ih => show (L.foldl stC (stC c x)).length = _; rw [ih]; exact List.length_set
theorem coL_len (L : List Iv) (j : Nat) : (coL L j).length = 305 := (fold_len _ _).trans List.length_replicate
theorem coL_bd {L : List Iv} (hV : VB L) (j : Nat) (hj : j ≤ L.length) : ∀ i, 0 ≤ (coL L j).getD i 0 ∧ (coL L j).getD i 0 ≤ 1048576 * (j : Int) := by
  induction j with
  | zero => intro i; show 0 ≤ (List.replicate 305 (0 : Int)).getD i 0 ∧ _ ≤ _; rw [show (coL L 0).getD i 0 = 0 from rep_get 305 i, rep_get]; omega
  | succ j ih =>
    intro i
    rw [coL_succ L j (by omega)]
    unfold stC
    rw [getD_set_int]
    have h1 := ih (by omega) i
    have h2 := ih (by omega) L[j].1.toNat
    have h3 := hV _ (List.getElem_mem (show j < L.length by omega))
    split <;> omega
theorem stC_get (c : List Int) (m : Nat) (x : Int) (n : Nat) : (stC c ((m : Int), x)).getD n 0 = if m = n ∧ m < c.length then c.getD m 0 + x else c.getD n 0 := by
  unfold stC
  rw [getD_set_int]
  show (if ((m : Int)).toNat = n ∧ ((m : Int)).toNat < c.length then c.getD ((m : Int)).toNat 0 + x else _) = _
  rw [show ((m : Int)).toNat = m by omega]
theorem fold_bk (cv : List Int) (m : Nat) (hm : m ≤ 305) (n : Nat) (hn : n < 305) : ((bkN cv m).foldl stC (List.replicate 305 0)).getD n 0 = if n < m then cv.getD n 0 else 0 := by
  induction m generalizing n with
  | zero => rw [if_neg (by omega)]; exact rep_get 305 n
  | succ m ih =>
    have hS : bkN cv (m + 1) = if cv.getD m 0 = 0 then bkN cv m else bkN cv m ++ [((m : Int), cv.getD m 0)] := rfl
    rw [hS]
    by_cases h0 : cv.getD m 0 = 0
    · rw [if_pos h0, ih (by omega) n hn]
      by_cases h1 : n < m
      · rw [if_pos h1, if_pos (by omega)]
      · by_cases h2 : n = m
        · subst h2; rw [if_neg h1, if_pos (by omega), h0]
        · rw [if_neg h1, if_neg (by omega)]
    · rw [if_neg h0, List.foldl_append]
      show (stC _ ((m : Int), cv.getD m 0)).getD n 0 = _
      rw [stC_get, fold_len, List.length_replicate, ih (by omega) m (by omega), ih (by omega) n hn, if_neg (show ¬ m < m by omega)]
      by_cases h1 : m = n
      · subst h1
        rw [if_pos ⟨rfl, hn⟩, if_pos (by omega)]
        show 0 + cv.getD m 0 = _
        omega
      · rw [if_neg (fun y => h1 y.1)]
        by_cases h2 : n < m
        · rw [if_pos h2, if_pos (by omega)]
        · rw [if_neg h2, if_neg (by omega)]
theorem list_ext_get (a b : List Int) (h : a.length = b.length) (hg : ∀ i, i < a.length → a.getD i 0 = b.getD i 0) : a = b := by
  refine List.ext_getElem h (fun i h1 h2 => ?_)
  have := hg i h1
  simpa [List.getD, List.getElem?_eq_getElem h1, List.getElem?_eq_getElem h2] using this
/-- The counts of the buckets of counts are these counts. -/
theorem coL_bk (cv : List Int) (hl : cv.length = 305) : coL (bkN cv 305) (bkN cv 305).length = cv := by
  refine list_ext_get _ _ ((coL_len _ _).trans hl.symm) (fun i hi => ?_)
  rw [coL_len] at hi
  unfold coL
  rw [List.take_length, fold_bk cv 305 (Nat.le_refl _) i hi, if_pos hi]
theorem isIndex_ok (n : Nat) (h : n < 305) (w : World) : Calls Try.prog 38 #[.int .i64 (n : Int)] w fun e w' => e = .returned (.bool true) ∧ w = w' := by
  refine (isIndex_any (n : Int) w).mono fun e w' ⟨he, hw⟩ => ⟨?_, hw⟩
  rw [he, show decide ((0 : Int) ≤ (n : Int)) = true by simp, show decide ((n : Int) < 305) = true by simp; omega]
  rfl
theorem counts_zero (W : World) : (zeroValue 68).run Try.prog W = .ok (.agg (List.replicate 305 (.int .i64 0)).toArray) W := by kernel_rfl
theorem counts_size (cv : List Int) (h : cv.length = 305) : (Try.prog.info? 68).map (·.size) = some ((cv.map (Value.int .i64)).toArray).size := by
  rw [show ((cv.map (Value.int .i64)).toArray).size = 305 by simp [h]]
  kernel_rfl
theorem counts_all (cv : List Int) : ((cv.map (Value.int .i64)).toArray).all (·.oneCell') = true := by simp [Value.oneCell']
set_option maxRecDepth 100000 in
set_option maxHeartbeats 4000000 in
theorem countsOf_any (A : Option Addr) (c : Nat) (L : List Iv) (hl : L.length ≤ 305) (hV : VB L) (w : World) (hR : Rs w w.heap.size A (ivCells L)) :
    Calls Try.prog 40 #[.agg #[.slice A L.length c]] w fun e w' => e = .returned (.agg ((coL L L.length).map (Value.int .i64)).toArray) ∧ Below w.heap.size w w' := by
  have hz := counts_zero
  have HR := Lib.hid hR
  have HV := Lib.hid hV
  have HBd := Lib.hid (coL_bd hV)
  have HLn := Lib.hid (coL_len L)
  have HS := Lib.hid (coL_succ L)
  have HZ0 : Hid ((List.replicate 305 (Value.int .i64 0)).toArray = ((coL L 0).map (Value.int .i64)).toArray) := Lib.hid (by show _ = ((List.replicate 305 (0 : Int)).map (Value.int .i64)).toArray; rw [List.map_replicate])
  have hZs : ((List.replicate 305 (Value.int .i64 0)).toArray).size = 305 := by simp
  obtain ⟨Z, hZ⟩ : ∃ Z : Array Value, Z = (List.replicate 305 (.int .i64 0)).toArray := ⟨_, rfl⟩
  rw [← hZ] at hz HZ0 hZs
  have HZs := Lib.hid hZs
  clear hR hV hZ hZs
  have hz1 : (w.alloc (.cells #[.slice A L.length c] 33)).heap.size = w.heap.size + 1 := by simp
  have hz2 : ((w.alloc (.cells #[.slice A L.length c] 33)).alloc (.cells Z 68)).heap.size = w.heap.size + 1 + 1 := by simp
  have HB0 : Hid (Below w.heap.size w (((w.alloc (.cells #[.slice A L.length c] 33)).alloc (.cells Z 68)).alloc (.cells Z 68))) := Lib.hid ((((Below.refl _ _).alloc (Nat.le_refl _) _).alloc (by simp) _).alloc (by simp <;> omega) _)
  have HG1 : Hid ((((w.alloc (.cells #[.slice A L.length c] 33)).alloc (.cells Z 68)).alloc (.cells Z 68)).heap[w.heap.size + 1]? = some (.cells Z 68 (0, 0))) := Lib.hid (by
    rw [Below.heap_alloc _ _ _ (by simp)]
    have := Deep.blk_alloc_new (w.alloc (.cells #[.slice A L.length c] 33)) (.cells Z 68)
    rwa [World.size_alloc] at this)
  have HG2 : Hid ((((w.alloc (.cells #[.slice A L.length c] 33)).alloc (.cells Z 68)).alloc (.cells Z 68)).heap[w.heap.size + 1 + 1]? = some (.cells Z 68 (0, 0))) := Lib.hid (by
    have := Deep.blk_alloc_new ((w.alloc (.cells #[.slice A L.length c] 33)).alloc (.cells Z 68)) (.cells Z 68)
    rwa [World.size_alloc, World.size_alloc] at this)
  go_enter Try.func40, Try.ntmps40
  go_wp2_with fail
  clear hz
  go_loopw [9] (fun iv wr => ∃ j : Nat, j ≤ L.length ∧ iv = .int .i64 (j : Int) ∧ Hid (wr.heap[w.heap.size + 1]? = some (.cells Z 68 (0, 0))) ∧ Hid (wr.heap[w.heap.size + 1 + 1]? = some (.cells ((coL L j).map (Value.int .i64)).toArray 68 (0, 0))) ∧ Hid (Below w.heap.size w wr)) (fun iv _ => L.length - (intOf iv).toNat)
  case atStart => exact ⟨0, Nat.zero_le _, rfl, HG1, by rw [← HZ0.out]; exact HG2, HB0⟩
  case round =>
    obtain ⟨j, hj, rfl, HK, HC, HB⟩ := hrel
    have hsz := HB.out.size
    have hlt2 : w.heap.size + 1 + 1 < wr.heap.size := (Array.getElem?_eq_some_iff.1 HC.out).1
    have hj0 : (0 : Int) ≤ (j : Int) := by omega
    by_cases hlt : j < L.length
    · obtain ⟨b, off, rfl, hb, h0, h1⟩ := iv_at (Rs.below HR.out HB.out) j hlt
      obtain ⟨n, hn, hn5, hc1, hc2⟩ := HV.out.at_ j hlt
      have hbd := HBd.out j hj n
      have HSn := Lib.hid (HS.out j hlt)
      have hln := HLn.out j
      obtain ⟨x, hx⟩ : ∃ x, x = L[j] := ⟨_, rfl⟩
      rw [← hx] at h0 h1 hn hc1 hc2 HSn
      obtain ⟨x1, x2⟩ := x
      dsimp only at h0 h1 hn hc1 hc2
      subst hn
      have HIs := Lib.hid (fun W => isIndex_ok n hn5 W)
      have HKa : Hid ((wr.alloc (.cells #[.int .i64 (n : Int), .int .i64 x2] 66)).heap[w.heap.size + 1]? = some (.cells Z 68 (0, 0))) := Lib.hid ((Below.heap_alloc _ _ _ (by omega)).trans HK.out)
      have HCa : Hid ((wr.alloc (.cells #[.int .i64 (n : Int), .int .i64 x2] 66)).heap[w.heap.size + 1 + 1]? = some (.cells ((coL L j).map (Value.int .i64)).toArray 68 (0, 0))) := Lib.hid ((Below.heap_alloc _ _ _ hlt2).trans HC.out)
      have HBa := Lib.hid (HB.out.alloc hsz (.cells #[.int .i64 (n : Int), .int .i64 x2] 66))
      have hcell : (wr.alloc (.cells #[.int .i64 (n : Int), .int .i64 x2] 66)).cell? ⟨w.heap.size + 1 + 1, n, none⟩ = some (.int .i64 ((coL L j).getD n 0)) := by
        rw [cell_of_row _ (w.heap.size + 1 + 1) n _ _ _ HCa.out]
        simp [List.getD, List.getElem?_eq_getElem (show n < (coL L j).length by omega)]
      have hfr : (wr.alloc (.cells #[.int .i64 (n : Int), .int .i64 x2] 66)).frozen? ⟨w.heap.size + 1 + 1, n, none⟩ = false := by simp [World.frozen?, HCa.out]
      obtain ⟨y, hy⟩ : ∃ y, y = (coL L j).getD n 0 := ⟨_, rfl⟩
      rw [← hy] at hbd hcell
      have HSy : Hid (coL L (j + 1) = (coL L j).set n (y + x2)) := Lib.hid (by rw [HSn.out, hy]; rfl)
      have hjI : (j : Int) < (L.length : Int) := by omega
      have hnI : (n : Int) < 305 := by omega
      have hn0 : (0 : Int) ≤ (n : Int) := by omega
      have hw1 : IntKind.i64.wrap ((j : Int) + 1) = (j : Int) + 1 := by simp only [IntKind.wrap_i64]; omega
      have hwy : IntKind.i64.wrap (y + x2) = y + x2 := by simp only [IntKind.wrap_i64]; omega
      clear hx HSn hy hln hc1 hc2 hn5
      go_wp2_with fail
      refine (HIs.out _).mono ?_
      rintro e w' ⟨rfl, rfl⟩
      go_wp2_with fail
      go_region
      go_wp2_with fail
      go_roundw
      case rel =>
        refine ⟨j + 1, by omega, by go_num, Lib.hid ?_, Lib.hid ?_, Lib.hid ?_⟩
        · exact (Below.heap_alloc _ _ _ (by rw [World.size_setCell]; omega)).trans ((Below.heap_setCell wr _ _ _ (by show w.heap.size + 1 ≠ w.heap.size + 1 + 1; omega)).trans HK.out)
        · refine (Below.heap_alloc _ _ _ (by rw [World.size_setCell]; omega)).trans ?_
          rw [blk_set _ HC.out, HSy.out]
          simp [List.map_set]
        · exact below_drewN ((HB.out.setCell (p := ⟨w.heap.size + 1 + 1, n, none⟩) (by show w.heap.size ≤ w.heap.size + 1 + 1; omega) _).alloc (by rw [World.size_setCell]; exact hsz) _) 1
      case measure => simp [intOf] <;> omega
    · obtain rfl : j = L.length := by omega
      have hi := counts_size (coL L L.length) (HLn.out _)
      have hall := counts_all (coL L L.length)
      have hzs : Z.size = (((coL L L.length).map (Value.int .i64)).toArray).size := by rw [HZs.out]; simp [HLn.out]
      obtain ⟨ca, hca⟩ : ∃ ca : Array Value, ca = ((coL L L.length).map (Value.int .i64)).toArray := ⟨_, rfl⟩
      rw [← hca] at hi hall hzs HC
      have Hca := Lib.hid hca
      have Hi := Lib.hid hi
      have Hall := Lib.hid hall
      have Hzs := Lib.hid hzs
      clear hca hi hall hzs
      go_wp2_with (first
        | (with_reducible refine wpList_load_row rfl _ _ rfl (w.heap.size + 1 + 1) rfl 68 ca (0, 0) _ HC.out Try.underlying68 rfl Hi.out ?_)
        | (with_reducible refine wpList_store_row rfl _ _ _ rfl (w.heap.size + 1) ca rfl rfl 68 Z HK.out Hi.out Hzs.out Hall.out ?_))
      refine bodyPost_ret (v := .agg ca) ?_ rfl ⟨by rw [Hca.out], below_setRow HB.out (by omega) _⟩
      exact results_cell_row rfl _ _ (w.heap.size + 1) 68 ca (0, 0) _ rfl (setRow_heap _ _ _ _ _ _ HK.out) Try.underlying68 rfl Hi.out
end Go.Proofs.Ytolgcphmmghlbaa
