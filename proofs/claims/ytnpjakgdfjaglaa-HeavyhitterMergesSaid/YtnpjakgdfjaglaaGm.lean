/- The order of counters by their counts: ranked's closure. -/
import Derived.Test.YtnpjakgdfjaglaaGk
import Derived.Lib.QuietBelow
import Derived.Deep.RegionHeld3
import Derived.Sort.Grow
namespace Go.Proofs.Ytnpjakgdfjaglaa
open Go.ChangeShapes Go.WideShapes Go.ChangeAt Go.RowKit Go.Joins Go.Sort

theorem nan_int (a : Int) (w : World) : Calls Try.prog 66 #[.int .i64 a] w fun e w' => e = .returned (.bool false) ∧ w = w' := by
  go_enter Try.func66, Try.ntmps66
  go_wp2
  go_ret
  exact ⟨rfl, rfl⟩
theorem nan_str (a : ByteArray) (w : World) : Calls Try.prog 67 #[.string a] w fun e w' => e = .returned (.bool false) ∧ w = w' := by
  go_enter Try.func67, Try.ntmps67
  go_wp2
  go_ret
  exact ⟨by simp, rfl⟩
/-- What cmp.Compare gives. -/
def cI (a b : Int) : Int := if a < b then -1 else if b < a then 1 else 0
def cS (a b : ByteArray) : Int := if bl a b = true then -1 else if bl b a = true then 1 else 0
theorem cmp_int (a b : Int) (w : World) : Calls Try.prog 59 #[.int .i64 a, .int .i64 b] w fun e w' => e = .returned (.int .i64 (cI a b)) ∧ w = w' := by
  have h1 := Lib.hid (nan_int a w)
  have h2 := Lib.hid (nan_int b w)
  have h3 : Hid (cI a b = if a < b then -1 else if b < a then 1 else 0) := Lib.hid rfl
  go_enter Try.func59, Try.ntmps59
  go_wp2_with fail
  refine h1.out.mono ?_
  rintro e w' ⟨rfl, rfl⟩
  go_wp2_with fail
  refine h2.out.mono ?_
  rintro e w' ⟨rfl, rfl⟩
  by_cases hab : a < b
  · go_wp2_with fail
    go_ret
    exact ⟨ret_int (by rw [h3.out, if_pos hab]), rfl⟩
  · by_cases hba : b < a
    · go_wp2_with fail
      go_ret
      exact ⟨ret_int (by rw [h3.out, if_neg (by omega), if_pos hba]), rfl⟩
    · go_wp2_with fail
      go_ret
      exact ⟨ret_int (by rw [h3.out, if_neg (by omega), if_neg (by omega)]), rfl⟩
theorem cmp_str (a b : ByteArray) (w : World) : Calls Try.prog 60 #[.string a, .string b] w fun e w' => e = .returned (.int .i64 (cS a b)) ∧ w = w' := by
  have h1 := Lib.hid (nan_str a w)
  have h2 := Lib.hid (nan_str b w)
  have h3 : Hid (cS a b = if bl a b = true then -1 else if bl b a = true then 1 else 0) := Lib.hid rfl
  go_enter Try.func60, Try.ntmps60
  go_wp2_with fail
  refine h1.out.mono ?_
  rintro e w' ⟨rfl, rfl⟩
  go_wp2_with fail
  refine h2.out.mono ?_
  rintro e w' ⟨rfl, rfl⟩
  cases hab : bl a b with
  | true =>
    have hd : Op.bytesLess a.toList b.toList = true := hab
    have Hab := Lib.hid hab
    clear hab
    go_wp2_with fail
    go_ret
    exact ⟨ret_int (by rw [h3.out, if_pos Hab.out]), rfl⟩
  | false =>
    have hd : Op.bytesLess a.toList b.toList = false := hab
    have Hab := Lib.hid hab
    clear hab
    cases hba : bl b a with
    | true =>
      have hd2 : (a.toList == b.toList) = false := (Lib.bytes_beq_false_iff a b).2 (fun e => by rw [e, bl_irrefl] at hba; cases hba)
      have Hba := Lib.hid hba
      clear hba
      go_wp2_with fail
      go_ret
      exact ⟨ret_int (by rw [h3.out, if_neg (by rw [Hab.out]; simp), if_pos Hba.out]), rfl⟩
    | false =>
      have hd2 : (a.toList == b.toList) = true := by
        rcases bl_tri a b with k | k | k
        · rw [Hab.out] at k; cases k
        · rw [k]; simp
        · rw [hba] at k; cases k
      have Hba := Lib.hid hba
      clear hba
      go_wp2_with fail
      go_ret
      exact ⟨ret_int (by rw [h3.out, if_neg (by rw [Hab.out]; simp), if_neg (by rw [Hba.out]; simp)]), rfl⟩
/-- cmp.Or of two numbers. -/
theorem or_two (g : Nat) (a b : Int) (t : TypeId) (w : World) (hg : w.heap[g]? = some (.cells #[.int .i64 a, .int .i64 b] t (0, 0))) :
    Calls Try.prog 58 #[.slice (some ⟨g, 0, none⟩) 2 2] w fun e w' => e = .returned (.int .i64 (if a = 0 then b else a)) ∧ w = w' := by
  have c0 := cell_of_row w g 0 _ _ _ hg
  have c1 := cell_of_row w g 1 _ _ _ hg
  simp at c0 c1
  clear hg
  go_enter Try.func58, Try.ntmps58
  go_wp2_with fail
  refine wp_loop_rounds 3 ?_
  rw [rounds_succ]
  by_cases ha : a = 0
  · subst ha
    go_wp2_with fail
    rw [rounds_succ]
    by_cases hb : b = 0
    · subst hb
      go_wp2_with fail
      rw [rounds_succ]
      go_wp2_with fail
      go_ret
      exact ⟨by simp, rfl⟩
    · have h2 : (b != 0) = true := by simpa using hb
      go_wp2_with fail
      go_ret
      exact ⟨by simp, rfl⟩
  · have h1 : (a != 0) = true := by simpa using ha
    go_wp2_with fail
    go_ret
    exact ⟨by simp, rfl⟩
theorem cI_lt {a b : Int} : cI a b < 0 ↔ a < b := by unfold cI; split <;> (try split) <;> omega
theorem cI_zero {a b : Int} : cI a b = 0 ↔ a = b := by unfold cI; split <;> (try split) <;> omega
theorem cS_lt {a b : ByteArray} : cS a b < 0 ↔ bl a b = true := by unfold cS; split <;> (try split) <;> simp_all
theorem cS_zero {a b : ByteArray} : cS a b = 0 ↔ a = b := by
  unfold cS
  rcases bl_tri a b with h | h | h
  · rw [if_pos h]
    constructor
    · intro e; omega
    · intro e; rw [e, bl_irrefl] at h; cases h
  · subst h; rw [if_neg (by rw [bl_irrefl]; simp), if_neg (by rw [bl_irrefl]; simp)]; simp
  · rw [if_neg (by rw [bl_asymm h]; simp), if_pos h]
    constructor
    · intro e; omega
    · intro e; rw [e, bl_irrefl] at h; cases h
/-- What ranked's closure gives. -/
def rkI (a b : Ct) : Int := if cI b.2 a.2 = 0 then cS a.1 b.1 else cI b.2 a.2
/-- Is a counter ahead of another by rank? -/
def rkl (a b : Ct) : Bool := decide (b.2 < a.2) || (decide (a.2 = b.2) && bl a.1 b.1)
theorem rk_lt {a b : Ct} : rkI a b < 0 ↔ rkl a b = true := by
  unfold rkI rkl
  by_cases h : cI b.2 a.2 = 0
  · rw [if_pos h, cS_lt]
    have e := cI_zero.1 h
    simp [e]
  · rw [if_neg h, cI_lt]
    have e : ¬ b.2 = a.2 := fun e => h (cI_zero.2 e)
    have e2 : ¬ a.2 = b.2 := fun x => e x.symm
    simp [e2]
set_option maxRecDepth 100000 in
set_option maxHeartbeats 4000000 in
theorem rk_any (x y : Int) (s t : ByteArray) (w : World) :
    Calls Try.prog 57 #[.agg #[.string s, .int .i64 x], .agg #[.string t, .int .i64 y]] w fun e w' => e = .returned (.int .i64 (rkI (s, x) (t, y))) ∧ ∃ q os', w' = grow (w.drewN q) os' := by
  have HI := Lib.hid (fun W => cmp_int y x W)
  have HS := Lib.hid (fun W => cmp_str s t W)
  have HV : Hid (rkI (s, x) (t, y) = if cI y x = 0 then cS s t else cI y x) := Lib.hid rfl
  obtain ⟨r, hr⟩ : ∃ r, r = rkI (s, x) (t, y) := ⟨_, rfl⟩
  rw [← hr] at HV ⊢
  obtain ⟨u, hu⟩ : ∃ u, u = cI y x := ⟨_, rfl⟩
  rw [← hu] at HI HV
  obtain ⟨v, hv⟩ : ∃ v, v = cS s t := ⟨_, rfl⟩
  rw [← hv] at HS HV
  clear hr hu hv
  have hG0 := blk_under w (.cells #[.string s, .int .i64 x] 27) (.cells #[.string t, .int .i64 y] 27)
  have hG1 := blk_over w (.cells #[.string s, .int .i64 x] 27) (.cells #[.string t, .int .i64 y] 27)
  have C0 := Lib.hid (cell_of_row _ w.heap.size 0 _ _ _ hG0)
  have C1 := Lib.hid (cell_of_row _ w.heap.size 1 _ _ _ hG0)
  have D0 := Lib.hid (cell_of_row _ (w.heap.size + 1) 0 _ _ _ hG1)
  have D1 := Lib.hid (cell_of_row _ (w.heap.size + 1) 1 _ _ _ hG1)
  have HK := Lib.hid (fun (W : World) (o : Obj) (b k : Nat) (hb : b < W.heap.size) => ((Below.refl W.heap.size W).alloc (Nat.le_refl _) o).cell (p := ⟨b, k, none⟩) hb)
  have HO := Lib.hid (fun (W : World) (h : W.heap.size = w.heap.size + 1 + 1) => or_two (w.heap.size + 1 + 1) u v 3 (W.alloc (.cells #[.int .i64 u, .int .i64 v] 3)).drew (by rw [← h]; exact Deep.blk_alloc_new W _))
  rw [← HV.out] at HO
  have hz0 := (Array.getElem?_eq_some_iff.1 hG0).1
  have hz1 := (Array.getElem?_eq_some_iff.1 hG1).1
  have HZ := Lib.hid (And.intro hz0 hz1)
  clear hG0 hG1 hz0 hz1
  go_enter Try.func57, Try.ntmps57
  go_wp2_with fail
  go_region_held3 (fun W => W.cell? ⟨w.heap.size, 0, none⟩ = some (.string s) ∧ W.cell? ⟨w.heap.size, 1, none⟩ = some (.int .i64 x) ∧ W.cell? ⟨w.heap.size + 1, 0, none⟩ = some (.string t) ∧ W.cell? ⟨w.heap.size + 1, 1, none⟩ = some (.int .i64 y))
    (first | exact ⟨C0.out, C1.out, D0.out, D1.out⟩ | exact ⟨(HK.out _ _ _ _ HZ.out.1).trans C0.out, (HK.out _ _ _ _ HZ.out.1).trans C1.out, (HK.out _ _ _ _ HZ.out.2).trans D0.out, (HK.out _ _ _ _ HZ.out.2).trans D1.out⟩ | assumption)
    ((first
      | (go_at_call 59; refine (HI.out _).mono ?_; rintro e w1 ⟨rfl, rfl⟩)
      | (go_at_call 60; refine (HS.out _).mono ?_; rintro e w1 ⟨rfl, rfl⟩)
      | (go_at_call 58; (with_reducible refine (HO.out _ (by simp)).mono ?_); rintro e w1 ⟨rfl, rfl⟩)
      | fail))
  go_wp2_with fail
  go_ret
  refine ⟨rfl, ?_⟩
  rw [alloc_eq_grow, alloc_eq_grow, alloc_eq_grow, grow_grow, grow_grow]
  exact ⟨1, _, rfl⟩
end Go.Proofs.Ytnpjakgdfjaglaa
