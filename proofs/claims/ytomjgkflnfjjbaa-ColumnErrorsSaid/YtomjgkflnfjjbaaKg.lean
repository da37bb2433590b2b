/- writeRuns: the parts that it writes. -/
import Derived.Test.YtomjgkflnfjjbaaKf
namespace Go.Proofs.Ytomjgkflnfjjbaa
open Go.ChangeShapes Go.WideShapes Go.ChangeAt Go.RowKit En

theorem info_run : (Try.prog.info? 111).map (fun i => (i.zero, i.size, i.bytes)) = some (some (.agg #[.int .i64 0, .int .i64 0]), 2, 16) := by kernel_rfl
/-- The runs of the first j values. -/
def rlF (L : List Int) : Nat → List Iv
  | 0 => []
  | j + 1 => if j = 0 ∨ L.getD j 0 ≠ L.getD (j - 1) 0 then rlF L j ++ [(L.getD j 0, 1)] else (rlF L j).dropLast ++ [(((rlF L j).getLastD (0, 0)).1, ((rlF L j).getLastD (0, 0)).2 + 1)]
theorem rlF_new (L : List Int) (j : Nat) (h : j = 0 ∨ L.getD j 0 ≠ L.getD (j - 1) 0) : rlF L (j + 1) = rlF L j ++ [(L.getD j 0, 1)] := if_pos h
theorem rlF_same (L : List Int) (j : Nat) (h : ¬ (j = 0 ∨ L.getD j 0 ≠ L.getD (j - 1) 0)) (K : List Iv) (x n : Int) (e : rlF L j = K ++ [(x, n)]) : rlF L (j + 1) = K ++ [(x, n + 1)] := by
  have h1 : rlF L (j + 1) = _ := if_neg h
  rw [h1, e]; simp
theorem rlF_last (L : List Int) (j : Nat) : ∃ K n, rlF L (j + 1) = K ++ [(L.getD j 0, n)] ∧ 1 ≤ n ∧ n ≤ (j : Int) + 1 ∧ K.length ≤ j := by
  induction j with
  | zero => exact ⟨[], 1, rlF_new L 0 (Or.inl rfl), by omega, by omega, by simp⟩
  | succ j ih =>
    obtain ⟨K, n, e, h1, h2, h3⟩ := ih
    by_cases h : j + 1 = 0 ∨ L.getD (j + 1) 0 ≠ L.getD (j + 1 - 1) 0
    · refine ⟨rlF L (j + 1), 1, rlF_new L (j + 1) h, by omega, by omega, ?_⟩
      rw [e]; simp; omega
    · refine ⟨K, n + 1, ?_, by omega, by omega, by omega⟩
      rw [rlF_same L (j + 1) h K _ n e]
      have : L.getD (j + 1) 0 = L.getD j 0 := by
        have := fun x => h (Or.inr x)
        exact Classical.not_not.1 this
      rw [this]
theorem rlF_len (L : List Int) (j : Nat) : (rlF L j).length ≤ j := by
  cases j with
  | zero => exact Nat.le_refl _
  | succ j =>
    obtain ⟨K, n, e, _, _, h⟩ := rlF_last L j
    rw [e]; simp; omega
theorem rlF_bd {L : List Int} (hL : Vs L) : ∀ j, ∀ y ∈ rlF L j, -1152921504606846976 ≤ y.1 ∧ y.1 ≤ 1152921504606846976 ∧ 1 ≤ y.2 ∧ y.2 ≤ (j : Int)
  | 0 => fun y hy => nomatch hy
  | j + 1 => fun y hy => by
    have ih := rlF_bd hL j
    have hb := bfL_bd hL (j + 1)
    change -1152921504606846976 ≤ L.getD j 0 ∧ L.getD j 0 ≤ _ at hb
    by_cases h : j = 0 ∨ L.getD j 0 ≠ L.getD (j - 1) 0
    · rw [rlF_new L j h] at hy
      rcases List.mem_append.1 hy with hy | hy
      · have := ih y hy; omega
      · obtain rfl := List.mem_singleton.1 hy
        dsimp only; omega
    · cases j with
      | zero => exact absurd (Or.inl rfl) h
      | succ j =>
        obtain ⟨K, n, e, h1, h2, h3⟩ := rlF_last L j
        rw [rlF_same L (j + 1) h K _ n e] at hy
        rw [e] at ih
        rcases List.mem_append.1 hy with hy | hy
        · have := ih y (List.mem_append.2 (Or.inl hy)); omega
        · obtain rfl := List.mem_singleton.1 hy
          have := ih _ (List.mem_append.2 (Or.inr (List.mem_singleton.2 rfl)))
          dsimp only at this ⊢; omega
/-- The parts of the first j runs, the last one first, behind how many there are. -/
def prR (R : List Iv) (fs : List (List UInt8)) : Nat → List (List UInt8)
  | 0 => num (R.length : Int) :: fs
  | j + 1 => num (R.getD j (0, 0)).2 :: num (R.getD j (0, 0)).1 :: prR R fs j
theorem prR_total (R : List Iv) (hn : R.length ≤ 4096) (hR : ∀ y ∈ R, -1152921504606846976 ≤ y.1 ∧ y.1 ≤ 1152921504606846976 ∧ 1 ≤ y.2 ∧ y.2 ≤ (4096 : Int)) (fs : List (List UInt8)) (j : Nat) : total (prR R fs j) ≤ total fs + 9 + 18 * j := by
  induction j with
  | zero =>
    show total (num (R.length : Int) :: fs) ≤ _
    rw [total_cons]
    have := (num_bounds (R.length : Int) (by omega) (by omega)).2
    omega
  | succ j ih =>
    show total (num (R.getD j (0, 0)).2 :: num (R.getD j (0, 0)).1 :: prR R fs j) ≤ _
    rw [total_cons, total_cons]
    have hb : -1152921504606846976 ≤ (R.getD j (0, 0)).1 ∧ (R.getD j (0, 0)).1 ≤ 1152921504606846976 ∧ 0 ≤ (R.getD j (0, 0)).2 ∧ (R.getD j (0, 0)).2 ≤ (4096 : Int) := by
      by_cases hj : j < R.length
      · have e : R.getD j (0, 0) = R[j] := by simp [List.getD, List.getElem?_eq_getElem hj]
        rw [e]
        have := hR _ (List.getElem_mem hj)
        omega
      · have e : R.getD j (0, 0) = (0, 0) := by simp [List.getD, List.getElem?_eq_none (Nat.le_of_not_lt hj)]
        rw [e]; decide
    have h1 := (num_bounds (R.getD j (0, 0)).1 (by omega) (by omega)).2
    have h2 := (num_bounds (R.getD j (0, 0)).2 (by omega) (by omega)).2
    omega
theorem ne_low {w : World} {base : Nat} {e : TypeId} {size : Nat} {v : Value} {n : Nat} {xs : List Value} (h : w.ownsRow base e size v n xs) {b : Nat} (hb : b < base) : v.ownBlock ≠ some b := fun e1 => by
  have := (h.lt b e1).1
  omega
set_option maxRecDepth 100000 in
set_option maxHeartbeats 4000000 in
theorem write_runs (w0 : World) (g : Nat) (hg : w0.heap.size ≤ g) (fs : List (List UInt8)) (A : Option Addr) (c : Nat) (L : List Int) (hl : L.length ≤ 4096) (hL : Vs L) (htot : total fs ≤ 1000) (w : World)
    (hB : Below w0.heap.size w0 w) (hW : WS w g fs) (hR : Rd (Value.int .i64) w0 A L) :
    Calls Try.prog 60 #[.pointer (some ⟨g, 0, none⟩), .slice A L.length c] w fun e w' => e = .returned (.tuple #[]) ∧ WS w' g (prR (rlF L L.length) fs (rlF L L.length).length) ∧ Below w0.heap.size w0 w' := by
  obtain ⟨i0, hi0, hz0, hz1, hz2⟩ := info_parts info_run
  have Hi0 := Lib.hid hi0
  have Hz0 := Lib.hid hz0
  have Hz1 := Lib.hid hz1
  have Hz2 := Lib.hid hz2
  have HR := Lib.hid (hR.below hB)
  have HL := Lib.hid hL
  have HB0 := Lib.hid hB
  have HW0 := Lib.hid hW
  have hgw := hW.lt
  have HBd := Lib.hid (fun y hy => by have := rlF_bd hL L.length y hy; exact (⟨this.1, this.2.1, this.2.2.1, by omega⟩ : -1152921504606846976 ≤ y.1 ∧ y.1 ≤ 1152921504606846976 ∧ 1 ≤ y.2 ∧ y.2 ≤ (4096 : Int)))
  have HT := Lib.hid (prR_total (rlF L L.length) (by have := rlF_len L L.length; omega) HBd.out fs)
  have Hln := Lib.hid (rlF_len L L.length)
  obtain ⟨R, hRR⟩ : ∃ R, R = rlF L L.length := ⟨_, rfl⟩
  rw [← hRR] at HBd HT Hln ⊢
  have HRR := Lib.hid hRR.symm
  clear hRR
  clear hR hL hB hW hi0 hz0 hz1 hz2
  go_enter Try.func60, Try.ntmps60
  go_wp2_with fail
  go_loopw [4, 11] (fun u iv wr => ∃ j : Nat, j ≤ L.length ∧ iv = .int .i64 (j : Int) ∧ Hid (wr.ownsRow w.heap.size 111 2 u (rlF L j).length (ivCells (rlF L j))) ∧ Hid (Below w.heap.size w wr)) (fun _ iv _ => L.length - (intOf iv).toNat)
  case atStart => exact ⟨0, Nat.zero_le _, rfl, Lib.hid ⟨rfl, Or.inl ⟨rfl, rfl⟩⟩, Lib.hid (Below.refl _ _)⟩
  case round =>
    obtain ⟨j, hj, rfl, HO, HB⟩ := hrel
    by_cases hlt : j < L.length
    · obtain ⟨b, off, rfl, hb, h0⟩ := int_at (HR.out.below (w' := wr) HB.out) j hlt
      have hx : L.getD j 0 = L[j] := by simp [List.getD, List.getElem?_eq_getElem hlt]
      rw [← hx] at h0
      have hjI : (j : Int) < (L.length : Int) := by omega
      have hj0 : (0 : Int) ≤ (j : Int) := by omega
      have hw1 : IntKind.i64.wrap ((j : Int) + 1) = (j : Int) + 1 := by simp only [IntKind.wrap_i64]; omega
      have hln := rlF_len L j
      obtain ⟨A3, c3, e3, _, _, _⟩ := rs_own HO.out
      subst e3
      have hsB := HB.out.size
      by_cases hz : j = 0
      · subst hz
        have HS := Lib.hid (rlF_new L 0 (Or.inl rfl))
        obtain ⟨x, hx2⟩ : ∃ x, x = L.getD 0 0 := ⟨_, rfl⟩
        rw [← hx2] at h0 HS
        rw [Nat.add_zero] at h0
        clear hx2 hx
        obtain ⟨K, hK⟩ : ∃ K, K = rlF L 0 := ⟨_, rfl⟩
        rw [← hK] at HO HS hln ⊢
        clear hK
        simp only [Int.cast_ofNat_Int] at hjI hj0 hw1 ⊢
        go_wp2_with (at_builtin; refine wpList_append_agg rfl (.tmp 27) (.tmp 30) 109 rfl w.heap.size 111 i0 _ 2 16 Try.underlying109 Hi0.out Hz0.out Hz1.out Hz2.out rfl (by decide) _ K.length _ rfl (World.ownsRow.alloc HO.out _) wr.heap.size 1 [.int .i64 x, .int .i64 0] 111 rfl (by simp [go_sem]) (Deep.blk_alloc_new wr _) (by simp [Value.oneCell']) (by omega) (by omega) (by simp; omega) ?_; intro v4 w4 hown4 hg4; have HB4 := Lib.hid (below_grownk (B := w.heap.size) (a := w) (HB.out.alloc HB.out.size _) (World.ownsRow.alloc HO.out _) hg4 (Nat.le_refl _) (Nat.le_refl _)); have HO4 : Hid (w4.ownsRow w.heap.size 111 2 v4 (K.length + 1) (ivCells (K ++ [(x, 0)]))) := Lib.hid (by rw [iv_snoc]; exact hown4); clear hown4 hg4)
        obtain ⟨A5, c5, e5, _, hRs5, hA5⟩ := rs_own HO4.out
        subst e5
        obtain ⟨g5, off5, e6, hg5, d0, d1⟩ := iv_at hRs5 K.length (by simp)
        subst e6
        obtain ⟨e7, hb5⟩ : off5 = 0 ∧ w.heap.size ≤ g5 := by
          rcases hA5 with ⟨h, _⟩ | ⟨g', h, h1, h2⟩
          · cases h
          · cases h; exact ⟨rfl, h1⟩
        subst e7
        have e2 : (K ++ [(x, 0)])[K.length]'(by simp) = (x, 0) := by simp
        rw [e2] at d0 d1
        dsimp only at d0 d1
        rw [Nat.zero_add] at d0 d1
        have hfr := HO4.out.frozenAt (K.length * 2 + 1)
        clear hRs5 hA5 e2
        have hkl : (K.length : Int) < (K.length : Int) + 1 := by omega
        have hk0 : (0 : Int) ≤ (K.length : Int) := by omega
        have hw3 : IntKind.i64.wrap ((K.length : Int) + 1 - 1) = (K.length : Int) := by simp only [IntKind.wrap_i64]; omega
        have hw4 : IntKind.i64.wrap (0 + 1) = 1 := by simp only [IntKind.wrap_i64]; omega
        go_simp
        go_wp2_with fail
        have h := World.ownsRow.stored HO4.out (K.length * 2 + 1) (.int .i64 (1))
        rw [iv_set] at h
        have HO5 := Lib.hid h.1
        have HB5 := Lib.hid (below_grownk (B := w.heap.size) (a := w) HB4.out HO4.out h.2 (Nat.le_refl _) (Nat.le_refl _))
        clear h
        go_roundw
        case rel => exact ⟨0 + 1, by omega, by go_num, by rw [HS.out, List.length_append]; exact HO5, HB5⟩
        case measure => simp [intOf] <;> omega
      · obtain ⟨i, rfl⟩ : ∃ i, j = i + 1 := ⟨j - 1, by omega⟩
        obtain ⟨b', off', e', _, h1⟩ := int_at (HR.out.below (w' := wr) HB.out) i (by omega)
        cases e'
        have hy : L.getD i 0 = L[i]'(by omega) := by simp [List.getD, List.getElem?_eq_getElem (show i < L.length by omega)]
        rw [← hy] at h1
        obtain ⟨K0, n, eK, hn1, hn2, hn3⟩ := rlF_last L i
        have HN := Lib.hid (fun h : L.getD (i + 1) 0 ≠ L.getD i 0 => rlF_new L (i + 1) (Or.inr h))
        have HE := Lib.hid (fun h : L.getD (i + 1) 0 = L.getD i 0 => rlF_same L (i + 1) (fun o => by rcases o with o | o; exact absurd o (by omega); exact o h) K0 _ n eK)
        have HK := Lib.hid eK
        clear eK hx hy
        obtain ⟨x, hx2⟩ : ∃ x, x = L.getD (i + 1) 0 := ⟨_, rfl⟩
        obtain ⟨y, hy2⟩ : ∃ y, y = L.getD i 0 := ⟨_, rfl⟩
        rw [← hx2, ← hy2] at HN HE
        rw [← hx2] at h0
        rw [← hy2] at h1 HK
        clear hx2 hy2
        have hi0 : (0 : Int) ≤ (i : Int) := by omega
        have hiI : (i : Int) < (L.length : Int) := by omega
        have hw2 : IntKind.i64.wrap ((i : Int) + 1 - 1) = (i : Int) := by simp only [IntKind.wrap_i64]; omega
        have hne : ((i : Int) + 1 == 0) = false := by simp; omega
        simp only [Int.natCast_add, Int.cast_ofNat_Int] at hjI hj0 hw1 ⊢
        by_cases hxy : x = y
        · subst hxy
          have HS := Lib.hid (HE.out rfl)
          obtain ⟨K, hKK⟩ : ∃ K, K = K0 := ⟨_, rfl⟩
          rw [← hKK] at HS HK hn3
          clear hKK HN HE
          have HO4 : Hid (wr.ownsRow w.heap.size 111 2 (.slice A3 (K.length + 1) c3) (K.length + 1) (ivCells (K ++ [(x, n)]))) := Lib.hid (by have h := HO.out; rw [HK.out, List.length_append] at h; exact h)
          rw [HK.out, List.length_append]
          rw [show K.length + [(x, n)].length = K.length + 1 from rfl]
          clear HO
          have hnn : -9223372036854775808 ≤ n ∧ n ≤ 100000 := by omega
          obtain ⟨A5, c5, e5, _, hRs5, hA5⟩ := rs_own HO4.out
          cases e5
          obtain ⟨g5, off5, e6, hg5, d0, d1⟩ := iv_at hRs5 K.length (by simp)
          subst e6
          obtain ⟨e7, hb5⟩ : off5 = 0 ∧ w.heap.size ≤ g5 := by
            rcases hA5 with ⟨h, _⟩ | ⟨g', h, h1, h2⟩
            · cases h
            · cases h; exact ⟨rfl, h1⟩
          subst e7
          have e2 : (K ++ [(x, n)])[K.length]'(by simp) = (x, n) := by simp
          rw [e2] at d0 d1
          dsimp only at d0 d1
          rw [Nat.zero_add] at d0 d1
          have hfr := HO4.out.frozenAt (K.length * 2 + 1)
          clear hRs5 hA5 e2
          have hkl : (K.length : Int) < (K.length : Int) + 1 := by omega
          have hk0 : (0 : Int) ≤ (K.length : Int) := by omega
          have hw3 : IntKind.i64.wrap ((K.length : Int) + 1 - 1) = (K.length : Int) := by simp only [IntKind.wrap_i64]; omega
          have hw4 : IntKind.i64.wrap (n + 1) = n + 1 := by simp only [IntKind.wrap_i64]; omega
          go_wp2_with fail
          have h := World.ownsRow.stored HO4.out (K.length * 2 + 1) (.int .i64 (n + 1))
          rw [iv_set] at h
          have HO5 := Lib.hid h.1
          have HB5 := Lib.hid (below_grownk (B := w.heap.size) (a := w) HB.out HO4.out h.2 (Nat.le_refl _) (Nat.le_refl _))
          clear h
          go_roundw
          case rel => exact ⟨i + 1 + 1, by omega, by go_num, by rw [HS.out, List.length_append]; exact HO5, HB5⟩
          case measure => simp [intOf] <;> omega
        · have HS := Lib.hid (HN.out hxy)
          have hxy2 : (x != y) = true := by simp [hxy]
          obtain ⟨K, hKK⟩ : ∃ K, K = rlF L (i + 1) := ⟨_, rfl⟩
          rw [← hKK] at HS HO hln ⊢
          clear hKK HN HE HK
          go_wp2_with (at_builtin; refine wpList_append_agg rfl (.tmp 27) (.tmp 30) 109 rfl w.heap.size 111 i0 _ 2 16 Try.underlying109 Hi0.out Hz0.out Hz1.out Hz2.out rfl (by decide) _ K.length _ rfl (World.ownsRow.alloc HO.out _) wr.heap.size 1 [.int .i64 x, .int .i64 0] 111 rfl (by simp [go_sem]) (Deep.blk_alloc_new wr _) (by simp [Value.oneCell']) (by omega) (by omega) (by simp; omega) ?_; intro v4 w4 hown4 hg4; have HB4 := Lib.hid (below_grownk (B := w.heap.size) (a := w) (HB.out.alloc HB.out.size _) (World.ownsRow.alloc HO.out _) hg4 (Nat.le_refl _) (Nat.le_refl _)); have HO4 : Hid (w4.ownsRow w.heap.size 111 2 v4 (K.length + 1) (ivCells (K ++ [(x, 0)]))) := Lib.hid (by rw [iv_snoc]; exact hown4); clear hown4 hg4)
          obtain ⟨A5, c5, e5, _, hRs5, hA5⟩ := rs_own HO4.out
          subst e5
          obtain ⟨g5, off5, e6, hg5, d0, d1⟩ := iv_at hRs5 K.length (by simp)
          subst e6
          obtain ⟨e7, hb5⟩ : off5 = 0 ∧ w.heap.size ≤ g5 := by
            rcases hA5 with ⟨h, _⟩ | ⟨g', h, h1, h2⟩
            · cases h
            · cases h; exact ⟨rfl, h1⟩
          subst e7
          have e2 : (K ++ [(x, 0)])[K.length]'(by simp) = (x, 0) := by simp
          rw [e2] at d0 d1
          dsimp only at d0 d1
          rw [Nat.zero_add] at d0 d1
          have hfr := HO4.out.frozenAt (K.length * 2 + 1)
          clear hRs5 hA5 e2
          have hkl : (K.length : Int) < (K.length : Int) + 1 := by omega
          have hk0 : (0 : Int) ≤ (K.length : Int) := by omega
          have hw3 : IntKind.i64.wrap ((K.length : Int) + 1 - 1) = (K.length : Int) := by simp only [IntKind.wrap_i64]; omega
          have hw4 : IntKind.i64.wrap (0 + 1) = 1 := by simp only [IntKind.wrap_i64]; omega
          go_simp
          go_wp2_with fail
          have h := World.ownsRow.stored HO4.out (K.length * 2 + 1) (.int .i64 (1))
          rw [iv_set] at h
          have HO5 := Lib.hid h.1
          have HB5 := Lib.hid (below_grownk (B := w.heap.size) (a := w) HB4.out HO4.out h.2 (Nat.le_refl _) (Nat.le_refl _))
          clear h
          go_roundw
          case rel => exact ⟨i + 1 + 1, by omega, by go_num, by rw [HS.out, List.length_append]; exact HO5, HB5⟩
          case measure => simp [intOf] <;> omega
    · obtain rfl : j = L.length := by omega
      have hln := Hln.out
      rw [HRR.out] at HO
      obtain ⟨A3, c3, e3, _, _, _⟩ := rs_own HO.out
      subst e3
      have hsB := HB.out.size
      have HWr := Lib.hid (HW0.out.below HB.out)
      have HBr := Lib.hid (HB0.out.trans (HB.out.mono HB0.out.size))
      go_wp2_with fail
      refine (w_number g fs (R.length : Int) (by omega) (by omega) (by omega) _ HWr.out).mono ?_
      rintro e w1 ⟨rfl, hws, hgr⟩
      have HB1 := Lib.hid (HBr.out.grown hgr HBr.out.size (by intro k h; cases h; exact hg))
      have HO1 := Lib.hid (HO.out.kept hgr (.inr (ne_low HO.out hgw)))
      have HW1 : Hid (WS w1 g (prR R fs 0)) := Lib.hid hws
      have hs1 : w.heap.size ≤ w1.heap.size := by have := hgr.size; omega
      clear hws hgr
      go_wp2_with fail
      go_loopw [49] (fun iv wr => ∃ j : Nat, j ≤ R.length ∧ iv = .int .i64 (j : Int) ∧ Hid (WS wr g (prR R fs j)) ∧ Hid (Below w0.heap.size w0 wr) ∧ Hid (wr.ownsRow w.heap.size 111 2 (.slice A3 R.length c3) R.length (ivCells R)) ∧ w.heap.size ≤ wr.heap.size) (fun iv _ => R.length - (intOf iv).toNat)
      case atStart => exact ⟨0, Nat.zero_le _, rfl, HW1, HB1, HO1, hs1⟩
      case round =>
        obtain ⟨j, hj, rfl, HW, HBj, HOj, hsj⟩ := hrel
        by_cases hlt2 : j < R.length
        · obtain ⟨A5, c5, e5, _, hRs5, _⟩ := rs_own HOj.out
          cases e5
          obtain ⟨g5, off5, rfl, hg5, d0, d1⟩ := iv_at hRs5 j hlt2
          have hbx := HBd.out _ (List.getElem_mem hlt2)
          have hT1 := HT.out j
          have HS : Hid (prR R fs (j + 1) = num R[j].2 :: num R[j].1 :: prR R fs j) := Lib.hid (by
            show num (R.getD j (0, 0)).2 :: num (R.getD j (0, 0)).1 :: prR R fs j = _
            rw [show R.getD j (0, 0) = R[j] by simp [List.getD, List.getElem?_eq_getElem hlt2]])
          obtain ⟨x, hx⟩ : ∃ x, x = R[j] := ⟨_, rfl⟩
          rw [← hx] at d0 d1 hbx HS
          clear hx hRs5
          obtain ⟨x1, x2⟩ := x
          dsimp only at d0 d1 hbx HS
          have hjI : (j : Int) < (R.length : Int) := by omega
          have hj0 : (0 : Int) ≤ (j : Int) := by omega
          have hw1 : IntKind.i64.wrap ((j : Int) + 1) = (j : Int) + 1 := by simp only [IntKind.wrap_i64]; omega
          have HA : Hid (Below wr.heap.size wr (wr.alloc (.cells #[.int .i64 x1, .int .i64 x2] 111))) := Lib.hid ((Below.refl _ _).alloc (Nat.le_refl _) _)
          have HKA : Hid ((wr.alloc (.cells #[.int .i64 x1, .int .i64 x2] 111)).heap[wr.heap.size]? = some (.cells #[.int .i64 x1, .int .i64 x2] 111 (0, 0))) := Lib.hid (Deep.blk_alloc_new wr _)
          have HOA := Lib.hid (World.ownsRow.alloc HOj.out (.cells #[.int .i64 x1, .int .i64 x2] 111))
          have hzA : (wr.alloc (.cells #[.int .i64 x1, .int .i64 x2] 111)).heap.size = wr.heap.size + 1 := by simp
          have hsg := HBj.out.size
          go_wp2_with fail
          refine (w_number g (prR R fs j) x1 (by omega) (by omega) (by omega) _ (HW.out.below HA.out)).mono ?_
          rintro e w2 ⟨rfl, hws, hgr⟩
          have HB3 := Lib.hid ((HBj.out.trans (HA.out.mono HBj.out.size)).grown hgr (by rw [hzA]; omega) (by intro k h; cases h; exact hg))
          have HW3 := Lib.hid hws
          have HO3 := Lib.hid (HOA.out.kept hgr (.inr (ne_low HOA.out hgw)))
          have HK3 := Lib.hid ((hgr.block wr.heap.size (by rw [hzA]; omega) (by intro h; injection h with h; omega)).trans HKA.out)
          have hc1' : w2.cell? ⟨wr.heap.size, 1, none⟩ = some (.int .i64 x2) := by simp [World.cell?, HK3.out]
          have hs2 : wr.heap.size < w2.heap.size := by have := hgr.size; rw [hzA] at this; omega
          have htt : total (num x1 :: prR R fs j) ≤ 1000000 := by
            rw [total_cons]
            have := (num_bounds x1 (by omega) (by omega)).2
            omega
          clear hws hgr
          go_wp2_with fail
          refine (w_number g _ x2 (by omega) (by omega) htt _ HW3.out).mono ?_
          rintro e w3 ⟨rfl, hws, hgr⟩
          have HB4 := Lib.hid (HB3.out.grown hgr HB3.out.size (by intro k h; cases h; exact hg))
          have HW4 := Lib.hid hws
          have HO4 := Lib.hid (HO3.out.kept hgr (.inr (ne_low HO3.out hgw)))
          have hs3 : w.heap.size ≤ w3.heap.size := by have := hgr.size; omega
          clear hws hgr
          go_wp2_with fail
          go_roundw
          case rel => exact ⟨j + 1, by omega, by go_num, by rw [HS.out]; exact HW4, HB4, HO4, hs3⟩
          case measure => simp [intOf] <;> omega
        · obtain rfl : j = R.length := by omega
          go_wp2_with fail
          exact bodyPost_end (results_none rfl _ _ _) rfl ⟨rfl, HW.out, HBj.out⟩
end Go.Proofs.Ytomjgkflnfjjbaa
