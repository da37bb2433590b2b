/- The reference's Of. -/
import Derived.Test.YtkjpficpkpfkdaaRd
import Derived.Deep.RegionLaw
import Derived.Deep.RegionLawGrows
namespace Go.Proofs.Ytkjpficpkpfkdaa
open Go.ChangeShapes Go.WideShapes Go.ChangeAt Go.RowKit Ts

section
variable {P : Program} {w : World}
/-- append of some elements of some cells to a row of the call's own, as a step of a region that draws. -/
theorem step_append_sized {ops : Array Oper} {o : Oper} {a : Act} {K : Act → World → Prop} {Q : Exit → Act → World → Prop} {E : Prop} (hg : o.guard = none) (s x : Operand) (t : TypeId)
    (ho : o.op = .call { callee := .builtin .append, args := #[s, x], argTypes := #[t, t] })
    (base : Nat) (e : TypeId) (i : TypeInfo) (z : Value) (size bytes : Nat) (ht : P.underlying t = some (.slice e)) (hi : P.info? e = some i) (hz : i.zero = some z)
    (hsize : i.size = size) (hby : i.bytes = bytes) (hzs : z.cells.size = size) (hsz : 0 < size)
    (v : Value) (n : Nat) (xs : List Value) (hs : a.eval s = v) (hown : w.ownsRow base e size v n xs)
    (ao : Option Addr) (m c : Nat) (hx : a.eval x = .slice ao m c) (news : List Value) (hl : news.length = m * size) (hnone : ao = none → m = 0 ∧ c = 0) (hnews : ∀ ad, ao = some ad → ∀ j u, news[j]? = some u → w.cell? (ad.add j) = some u) (h1 : ∀ u ∈ news, u.oneCell' = true)
    (hn : n + m ≤ 1000000) (hb : bytes ≤ 1000000) (hbase : base ≤ w.heap.size)
    (h : ∀ v' w', w'.ownsRow base e size v' (n + m) (xs ++ news) → w.grownBy w' v.ownBlock → K (a.put o.dst v') w') :
    if Region.wanted o (yielded ops a.tmps) = true then Oper.wp P o a w K Q else E := by
  have hw : Region.wanted o (yielded ops a.tmps) = true := by simp [Region.wanted, hg]
  rw [if_pos hw]
  cases ao with
  | some ad =>
    refine wp_append_own w s x t ho base e i z size bytes ht hi hz hsize hby hzs hsz v n xs hs hown ad m c news hx hl (hnews ad rfl) h1 (by unfold maxLen; omega) ?_ hbase (fun v' w' h2 h3 _ => h v' w' h2 h3)
    have := Nat.mul_le_mul (show n + m ≤ 1000000 by omega) hb
    omega
  | none =>
    obtain ⟨rfl, rfl⟩ := hnone rfl
    obtain rfl : news = [] := List.eq_nil_of_length_eq_zero (by simpa using hl)
    have hrun := run_append_owned_none (P := P) (w := w) base t o.type e i size ht hi v n xs hown
    unfold Oper.wp
    simp [execOp, ho, resolve, invoke, builtin, hs, hx, hrun, Result.andThen]
    exact h v w (by simpa using hown) ⟨rfl, rfl, rfl, Nat.le_refl _, fun _ _ _ => rfl⟩
end
def srtk (L : List Iv) (j : Nat) : List Iv := ((L.take j).filter (fun x => decide (x.1 < x.2))).foldl (fun S x => ins x S) []
theorem srtk_zero (L : List Iv) : srtk L 0 = [] := rfl
theorem srtk_all (L : List Iv) : srtk L L.length = srt L := by unfold srtk srt; rw [List.take_length]
theorem srtk_in (L : List Iv) (j : Nat) (h : j < L.length) (hx : L[j].1 < L[j].2) : srtk L (j + 1) = ins L[j] (srtk L j) := by
  unfold srtk
  rw [take_snoc L j h, List.filter_append, List.foldl_append]
  simp [hx]
theorem srtk_out (L : List Iv) (j : Nat) (h : j < L.length) (hx : ¬ L[j].1 < L[j].2) : srtk L (j + 1) = srtk L j := by
  unfold srtk
  rw [take_snoc L j h, List.filter_append, List.foldl_append]
  simp [hx]
theorem ins_len (x : Iv) (L : List Iv) : (ins x L).length = L.length + 1 := by
  induction L with
  | nil => rfl
  | cons y L ih =>
    unfold ins
    split
    · rw [List.length_cons, ih, List.length_cons]
    · rfl
theorem srtk_len (L : List Iv) (j : Nat) : (srtk L j).length ≤ j := by
  have : ∀ (M S : List Iv), (M.foldl (fun S x => ins x S) S).length = S.length + M.length := by
    intro M
    induction M with
    | nil => intro S; rfl
    | cons x M ih => intro S; rw [List.foldl_cons, ih, ins_len, List.length_cons]; omega
  unfold srtk
  rw [this]
  have h := List.length_filter_le (fun x : Iv => decide (x.1 < x.2)) (L.take j)
  rw [List.length_take] at h
  simp only [List.length_nil]
  omega
theorem srtk_sorted (L : List Iv) (j : Nat) : (srtk L j).Pairwise (fun x y => x.1 ≤ y.1) := by
  have : ∀ (M S : List Iv), S.Pairwise (fun x y => x.1 ≤ y.1) → (M.foldl (fun S x => ins x S) S).Pairwise (fun x y => x.1 ≤ y.1) := by
    intro M
    induction M with
    | nil => intro S h; exact h
    | cons x M ih => intro S h; exact ih _ (ins_sorted x S h)
  exact this _ _ List.Pairwise.nil
theorem iv_cells_len (L : List Iv) : (ivCells L).length = L.length * 2 := flat_len ivC 2 (fun _ => rfl) L
/-- The cells of a row of the call's own, as a slice in memory. -/
theorem rs_own {w : World} {base e n : Nat} {v : Value} {xs : List Value} (h : w.ownsRow base e 2 v n xs) : ∃ A c, v = .slice A n c ∧ n ≤ c ∧ Rs w w.heap.size A xs ∧ ((A = none ∧ n = 0 ∧ c = 0) ∨ ∃ g, A = some ⟨g, 0, none⟩ ∧ base ≤ g ∧ g < w.heap.size) := by
  have hl := h.1
  rcases h.2 with ⟨rfl, h0⟩ | ⟨g, cap, cur, rfl, hbase, hh, hnc, hcap, hsz, htake⟩
  · have h0' : n = 0 := h0
    subst h0'
    obtain rfl : xs = [] := List.eq_nil_of_length_eq_zero (by simpa using hl)
    exact ⟨none, 0, rfl, Nat.le_refl _, Rs.nil, .inl ⟨rfl, rfl, rfl⟩⟩
  · refine ⟨_, cap, rfl, hnc, fun j hj => ⟨g, 0, rfl, (Array.getElem?_eq_some_iff.1 hh).1, ?_⟩, .inr ⟨g, rfl, hbase, (Array.getElem?_eq_some_iff.1 hh).1⟩⟩
    rw [Nat.zero_add, cell_of_row w g j _ _ _ hh]
    have h2 := congrArg (fun l : List Value => l[j]?) htake
    rw [List.getElem?_take_of_lt (by rw [← hl]; exact hj), List.getElem?_eq_getElem hj] at h2
    rw [← Array.getElem?_toList]; exact h2
theorem info_iv : (Try.prog.info? 25).map (fun i => (i.zero, i.size, i.bytes)) = some (some (.agg #[.int .i64 0, .int .i64 0]), 2, 16) := by kernel_rfl
theorem own_belowk {w w' : World} {B e size n : Nat} {v : Value} {xs : List Value} (h : w.ownsRow B e size v n xs) (hb : Below w.heap.size w w') : w'.ownsRow B e size v n xs := by
  refine ⟨h.1, ?_⟩
  rcases h.2 with h | ⟨b, cap, cur, rfl, hbase, hh, hr⟩
  · exact Or.inl h
  · exact Or.inr ⟨b, cap, cur, rfl, hbase, (hb.block b (Array.getElem?_eq_some_iff.1 hh).1).trans hh, hr⟩
theorem below_grownk {a w w' : World} {B base : Nat} {e n k : Nat} {v : Value} {xs : List Value} (h : Below B a w) (hown : w.ownsRow base e k v n xs) (hg : w.grownBy w' v.ownBlock) (hB : B ≤ base) (hs : B ≤ a.heap.size) : Below B a w' := by
  refine ⟨hg.os.trans h.os, hg.tape.trans h.tape, hg.output.trans h.output, Nat.le_trans h.size hg.size, fun k hk => (hg.block k (by have := h.size; omega) (fun e => ?_)).trans (h.block k hk)⟩
  rcases hown.2 with ⟨rfl, _⟩ | ⟨g, cap, cur, rfl, hbase, _⟩
  · simp [Value.ownBlock] at e
  · simp [Value.ownBlock] at e; omega
theorem own_base {w : World} {B B' e n k : Nat} {v : Value} {xs : List Value} (h : w.ownsRow B e k v n xs) (hB : B' ≤ B) : w.ownsRow B' e k v n xs := by
  refine ⟨h.1, ?_⟩
  rcases h.2 with h | ⟨g, cap, cur, rfl, hb, hr⟩
  · exact .inl h
  · exact .inr ⟨g, cap, cur, rfl, by omega, hr⟩
theorem own_empty {w : World} {B G e : Nat} (h : w.heap[G]? = some (.cells #[] e (0, 0))) (hB : B ≤ G) : w.ownsRow B e 2 (.slice (some ⟨G, 0, none⟩) 0 0) 0 [] :=
  ⟨rfl, .inr ⟨G, 0, #[], rfl, hB, h, Nat.le_refl _, by decide, rfl, rfl⟩⟩
theorem blk_under (w : World) (o o' : Obj) : ((w.alloc o).alloc o').heap[w.heap.size]? = some o := (Below.heap_alloc _ _ _ (by simp)).trans (Deep.blk_alloc_new w _)
theorem blk_over (w : World) (o o' : Obj) : ((w.alloc o).alloc o').heap[w.heap.size + 1]? = some o' := by
  have := Deep.blk_alloc_new (w.alloc o) o'
  rwa [World.size_alloc] at this
theorem cells_two {w : World} {X : Nat} {u v : Value} {e : TypeId} (h : w.heap[X]? = some (.cells #[u, v] e (0, 0))) : ∀ ad, some (⟨X, 0, none⟩ : Addr) = some ad → ∀ j y, [u, v][j]? = some y → w.cell? (ad.add j) = some y := by
  intro ad e j y hy
  cases e
  rw [add_flat, Nat.zero_add, cell_of_row w X j _ _ _ h]
  simpa using hy
theorem front_cells {W0 W : World} {g : Nat} {S : List Iv} (h : Rs W0 W0.heap.size (some ⟨g, 0, none⟩) (ivCells S)) (hB : Below W0.heap.size W0 W) (k : Nat) (hk : k ≤ S.length) : ∀ ad, some (⟨g, 0, none⟩ : Addr) = some ad → ∀ j u, (ivCells (S.take k))[j]? = some u → W.cell? (ad.add j) = some u := by
  intro ad e j u hu
  cases e
  have hl := iv_cells_len (S.take k)
  have hl2 := iv_cells_len S
  rw [List.length_take, Nat.min_eq_left hk] at hl
  obtain ⟨hj, he⟩ := List.getElem?_eq_some_iff.1 hu
  have e1 : ivCells S = ivCells (S.take k) ++ ivCells (S.drop k) := by unfold ivCells; rw [← List.flatMap_append, List.take_append_drop]
  have hj2 : j < (ivCells S).length := by rw [e1, List.length_append]; omega
  obtain ⟨b', off', eA, hb, hc⟩ := h j hj2
  simp only [Option.some.injEq, Addr.mk.injEq, and_true] at eA
  obtain ⟨rfl, rfl⟩ := eA
  rw [add_flat]
  refine ((hB.cell (p := ⟨_, _, none⟩) hb).trans hc).trans ?_
  rw [← hu, ← List.getElem?_eq_getElem hj2, e1, List.getElem?_append_left hj]
theorem back_cells {W0 W : World} {g : Nat} {S : List Iv} (h : Rs W0 W0.heap.size (some ⟨g, 0, none⟩) (ivCells S)) (hB : Below W0.heap.size W0 W) (k : Nat) (hk : k ≤ S.length) : ∀ ad, some (⟨g, k * 2, none⟩ : Addr) = some ad → ∀ j u, (ivCells (S.drop k))[j]? = some u → W.cell? (ad.add j) = some u := by
  intro ad e j u hu
  cases e
  have hl := iv_cells_len (S.take k)
  have hl2 := iv_cells_len S
  rw [List.length_take, Nat.min_eq_left hk] at hl
  obtain ⟨hj, he⟩ := List.getElem?_eq_some_iff.1 hu
  have e1 : ivCells S = ivCells (S.take k) ++ ivCells (S.drop k) := by unfold ivCells; rw [← List.flatMap_append, List.take_append_drop]
  have hj2 : k * 2 + j < (ivCells S).length := by rw [e1, List.length_append]; omega
  obtain ⟨b', off', eA, hb, hc⟩ := h (k * 2 + j) hj2
  simp only [Option.some.injEq, Addr.mk.injEq, and_true] at eA
  obtain ⟨rfl, rfl⟩ := eA
  rw [add_flat]
  rw [Nat.zero_add] at hc
  refine ((hB.cell (p := ⟨_, _, none⟩) hb).trans hc).trans ?_
  rw [← hu, ← List.getElem?_eq_getElem hj2, e1, List.getElem?_append_right (by omega), hl]
  congr 1; omega
theorem iv_one (L : List Iv) : ∀ u ∈ ivCells L, u.oneCell' = true := by
  intro u hu
  obtain ⟨x, _, hx⟩ := List.mem_flatMap.1 hu
  simp [ivC] at hx
  rcases hx with rfl | rfl <;> rfl
theorem iv_snoc (L : List Iv) (x : Iv) : ivCells (L ++ [x]) = ivCells L ++ [.int .i64 x.1, .int .i64 x.2] := by simp [ivCells, ivC]
theorem iv_set (K : List Iv) (y : Iv) (v : Int) : (ivCells (K ++ [y])).set (K.length * 2 + 1) (.int .i64 v) = ivCells (K ++ [(y.1, v)]) := by
  rw [iv_snoc, iv_snoc, List.set_append_right _ _ (by rw [iv_cells_len]; omega), iv_cells_len, show K.length * 2 + 1 - K.length * 2 = 1 by omega]
  rfl
def jk (M : List Iv) (i : Nat) : List Iv := (M.take i).foldl jn []
theorem jk_succ (M : List Iv) (i : Nat) (h : i < M.length) : jk M (i + 1) = jn (jk M i) M[i] := by
  unfold jk
  rw [take_snoc M i h, List.foldl_append]; rfl
theorem jn_len (L : List Iv) (x : Iv) : (jn L x).length ≤ L.length + 1 := by
  rcases List.eq_nil_or_concat L with rfl | ⟨K, y, rfl⟩
  · rw [jn_nil]; exact Nat.le_refl _
  · rw [List.concat_eq_append]
    by_cases h : y.2 < x.1
    · rw [jn_far K y x h]; simp
    · rw [jn_near K y x h]; simp
theorem jk_len (M : List Iv) (i : Nat) (h : i ≤ M.length) : (jk M i).length ≤ i := by
  induction i with
  | zero => exact Nat.le_refl _
  | succ i ih =>
    rw [jk_succ M i (by omega)]
    have := jn_len (jk M i) (M[i]'(by omega))
    have := ih (by omega)
    omega
theorem jk_all (L : List Iv) : jk (srt L) (srt L).length = ofL L := by unfold jk ofL; rw [List.take_length]
theorem srt_len (L : List Iv) : (srt L).length ≤ L.length := by rw [← srtk_all]; exact srtk_len L _
set_option maxRecDepth 100000 in
set_option maxHeartbeats 4000000 in
theorem ref_of (A : Option Addr) (c : Nat) (L : List Iv) (hl : L.length ≤ 90000) (w : World) (hR : Rs w w.heap.size A (ivCells L)) :
    Calls Try.prog 55 #[.slice A L.length c] w fun e w' => (∃ v, e = .returned v ∧ w'.ownsRow w.heap.size 25 2 v (ofL L).length (ivCells (ofL L))) ∧ Below w.heap.size w w' := by
  obtain ⟨i0, hi0, hz0, hz1, hz2⟩ := info_parts info_iv
  have Hi0 := Lib.hid hi0
  have Hz0 := Lib.hid hz0
  have Hz1 := Lib.hid hz1
  have Hz2 := Lib.hid hz2
  have HR := Lib.hid hR
  clear hi0 hz0 hz1 hz2 hR
  go_enter Try.func55, Try.ntmps55
  go_wp2_with fail
  go_loopw [3, 4] (fun u iv wr => ∃ j : Nat, j ≤ L.length ∧ iv = .int .i64 (j : Int) ∧ Hid (wr.ownsRow w.heap.size 25 2 u (srtk L j).length (ivCells (srtk L j))) ∧ Hid (u = .slice none 0 0 ∨ 0 < (srtk L j).length) ∧ Hid (Below w.heap.size w wr)) (fun _ iv _ => L.length - (intOf iv).toNat)
  case atStart => exact ⟨0, Nat.zero_le _, rfl, Lib.hid ⟨rfl, Or.inl ⟨rfl, rfl⟩⟩, Lib.hid (.inl rfl), Lib.hid (Below.refl _ _)⟩
  case round =>
    obtain ⟨j, hj, rfl, HO, HN, HB⟩ := hrel
    by_cases hlt : j < L.length
    · obtain ⟨b, off, rfl, hb, h0, h1⟩ := iv_at (HR.out.below HB.out) j hlt
      have Hin := Lib.hid (srtk_in L j hlt)
      have Hout := Lib.hid (srtk_out L j hlt)
      obtain ⟨x, hx⟩ : ∃ x, x = L[j] := ⟨_, rfl⟩
      rw [← hx] at h0 h1 Hin Hout
      have HX := Lib.hid hx
      clear hx
      obtain ⟨x1, x2⟩ := x
      dsimp only at h0 h1
      have hjl : (j : Int) < (L.length : Int) := by omega
      have hj0 : (0 : Int) ≤ (j : Int) := by omega
      by_cases hge : x2 ≤ x1
      · have e := Hout.out (by dsimp only; omega)
        have E := Lib.hid e
        clear e
        go_wp2_with fail
        go_region
        all_goals
          go_wp2_with fail
          go_roundw
          case rel => exact ⟨j + 1, by omega, by go_num, by rw [E.out]; exact Lib.hid (own_belowk HO.out (Below.drew (Below.refl _ _))), by rw [E.out]; exact HN, Lib.hid (Below.drew HB.out)⟩
          case measure => simp [intOf]; omega
      · have e := Hin.out (by dsimp only; omega)
        have E := Lib.hid e
        have hS := srtk_sorted L j
        have hlen := srtk_len L j
        obtain ⟨S, hSe⟩ : ∃ S, S = srtk L j := ⟨_, rfl⟩
        rw [← hSe] at HO HN E hS hlen
        obtain ⟨A', c', rfl, hnc, hRs, hA'⟩ := rs_own HO.out
        have HS := Lib.hid hS
        have HRs := Lib.hid hRs
        have HA' := Lib.hid hA'
        clear e hS hSe hRs Hin Hout hA'
        go_wp2_with fail
        go_region
        go_wp2_with fail
        rename World => W0
        have hbW : b < W0.heap.size := by have := HB.out.size; omega
        go_loopw [5] (fun kv wk => ∃ k : Nat, k ≤ S.length ∧ kv = .int .i64 (k : Int) ∧ Hid (∀ i (h : i < S.length), k ≤ i → x1 < S[i].1) ∧ Hid (Below W0.heap.size W0 wk)) (fun kv _ => (intOf kv).toNat)
        case atStart => exact ⟨S.length, Nat.le_refl _, rfl, Lib.hid (fun i h hi => absurd h (by omega)), Lib.hid (Below.drew (Below.refl _ _))⟩
        case round =>
          obtain ⟨k, hk, rfl, Hk, HBk⟩ := hrel
          have c0 := (HBk.out.cell (p := ⟨b, off + j * 2, none⟩) hbW).trans h0
          have c1 := (HBk.out.cell (p := ⟨b, off + j * 2 + 1, none⟩) hbW).trans h1
          have hkl : (k : Int) ≤ (S.length : Int) := by omega
          by_cases hk0 : k = 0
          · subst hk0
            have HP := Lib.hid (ins_take (x1, x2) S HS.out 0 (by omega) (fun i h hi => Hk.out i h (by omega)) (.inl rfl))
            clear hkl
            have HAd := HA'.out
            clear HA'
            rcases HAd with ⟨rfl, hn0, rfl⟩ | ⟨g, rfl, g0, gl⟩
            · obtain rfl : S = [] := List.eq_nil_of_length_eq_zero hn0
              clear hn0
              go_wp2_with fail
              go_region
              go_wp2_with fail
              have hG : W0.heap.size ≤ wr.heap.size := HBk.out.size
              have hbr : b < wr.heap.size := by omega
              go_region_law ((first
                | (refine step_append_sized rfl (.tmp 46) (.tmp 49) 22 rfl W0.heap.size 25 i0 _ 2 16 Try.underlying22 Hi0.out Hz0.out Hz1.out Hz2.out rfl (by decide) (.slice (some ⟨wr.heap.size, 0, none⟩) 0 0) 0 [] (by simp [Act.eval]) (own_empty (Deep.blk_alloc_new wr (.cells #[] 25)) hG) none 0 0 (by simp [Act.eval]) [] (by rfl) (fun _ => ⟨rfl, rfl⟩) (fun ad e j u hu => by simp at hu) (by first | exact iv_one _ | simp) (by omega) (by omega) (by have := HBk.out.size; simp; omega) ?_; intro v1 w2 hown1 hg1; have HBw := Lib.hid (below_grownk (B := W0.heap.size) (a := W0) ((Below.alloc HBk.out HBk.out.size _).drew.drew) (own_empty (Deep.blk_alloc_new wr (.cells #[] 25)) hG) hg1 (Nat.le_refl _) (Nat.le_refl _)); have HO1 := Lib.hid hown1; have c0w := (HBw.out.cell (p := ⟨b, off + j * 2, none⟩) hbW).trans h0; have c1w := (HBw.out.cell (p := ⟨b, off + j * 2 + 1, none⟩) hbW).trans h1; clear hown1 hg1)
                | (refine step_append_sized rfl (.tmp 46) (.tmp 49) 22 rfl W0.heap.size 25 i0 _ 2 16 Try.underlying22 Hi0.out Hz0.out Hz1.out Hz2.out rfl (by decide) (.slice (some ⟨wr.heap.size, 0, none⟩) 0 0) 0 [] (by simp [Act.eval]) (own_empty (blk_under wr (.cells #[] 25) (.cells #[.int .i64 x1, .int .i64 x2] 25)) hG) none 0 0 (by simp [Act.eval]) [] (by rfl) (fun _ => ⟨rfl, rfl⟩) (fun ad e j u hu => by simp at hu) (by first | exact iv_one _ | simp) (by omega) (by omega) (by have := HBk.out.size; simp; omega) ?_; intro v1 w2 hown1 hg1; have HBw := Lib.hid (below_grownk (B := W0.heap.size) (a := W0) ((Below.alloc (Below.alloc HBk.out HBk.out.size _) (by have := HBk.out.size; simp; omega) _).drew.drew) (own_empty (blk_under wr (.cells #[] 25) (.cells #[.int .i64 x1, .int .i64 x2] 25)) hG) hg1 (Nat.le_refl _) (Nat.le_refl _)); have HO1 := Lib.hid hown1; have HX2 : Hid (w2.heap[wr.heap.size + 1]? = some (.cells #[.int .i64 x1, .int .i64 x2] 25)) := Lib.hid ((hg1.block (wr.heap.size + 1) (by simp) (by simp [Value.ownBlock])).trans (blk_over wr (.cells #[] 25) (.cells #[.int .i64 x1, .int .i64 x2] 25))); have c0w := (HBw.out.cell (p := ⟨b, off + j * 2, none⟩) hbW).trans h0; have c1w := (HBw.out.cell (p := ⟨b, off + j * 2 + 1, none⟩) hbW).trans h1; clear hown1 hg1)
                | (refine step_append_sized rfl (.tmp 46) (.tmp 49) 22 rfl W0.heap.size 25 i0 _ 2 16 Try.underlying22 Hi0.out Hz0.out Hz1.out Hz2.out rfl (by decide) (.slice (some ⟨(wr.heap.size + 1), 0, none⟩) 0 0) 0 [] (by simp [Act.eval]) (own_empty (blk_over wr (.cells #[.int .i64 x1, .int .i64 x2] 25) (.cells #[] 25)) (by omega)) none 0 0 (by simp [Act.eval]) [] (by rfl) (fun _ => ⟨rfl, rfl⟩) (fun ad e j u hu => by simp at hu) (by first | exact iv_one _ | simp) (by omega) (by omega) (by have := HBk.out.size; simp; omega) ?_; intro v1 w2 hown1 hg1; have HBw := Lib.hid (below_grownk (B := W0.heap.size) (a := W0) ((Below.alloc (Below.alloc HBk.out HBk.out.size _) (by have := HBk.out.size; simp; omega) _).drew.drew) (own_empty (blk_over wr (.cells #[.int .i64 x1, .int .i64 x2] 25) (.cells #[] 25)) (by omega)) hg1 (Nat.le_refl _) (Nat.le_refl _)); have HO1 := Lib.hid hown1; have HX2 : Hid (w2.heap[wr.heap.size]? = some (.cells #[.int .i64 x1, .int .i64 x2] 25)) := Lib.hid ((hg1.block wr.heap.size (by simp; omega) (by simp [Value.ownBlock])).trans (blk_under wr (.cells #[.int .i64 x1, .int .i64 x2] 25) (.cells #[] 25))); have c0w := (HBw.out.cell (p := ⟨b, off + j * 2, none⟩) hbW).trans h0; have c1w := (HBw.out.cell (p := ⟨b, off + j * 2 + 1, none⟩) hbW).trans h1; clear hown1 hg1)
                | (refine step_append_sized rfl (.tmp 50) (.tmp 55) 22 rfl W0.heap.size 25 i0 _ 2 16 Try.underlying22 Hi0.out Hz0.out Hz1.out Hz2.out rfl (by decide) v1 (0 + 0) ([] ++ []) (by simp [Act.eval]) (HO1.out.alloc _) (some ⟨w2.heap.size, 0, none⟩) 1 1 (by simp [Act.eval]) [.int .i64 x1, .int .i64 x2] rfl (fun h => by cases h) (cells_two (Deep.blk_alloc_new w2 (.cells #[.int .i64 x1, .int .i64 x2] 25))) (by simp [Value.oneCell']) (by omega) (by omega) (by have := HBw.out.size; simp; omega) ?_; intro v2 w3 hown2 hg2; have HBv := Lib.hid (below_grownk (B := W0.heap.size) (a := W0) (Below.alloc HBw.out HBw.out.size _) (HO1.out.alloc _) hg2 (Nat.le_refl _) (Nat.le_refl _)); have HO2 := Lib.hid hown2; clear hown2 hg2)
                | (refine step_append_sized rfl (.tmp 50) (.tmp 55) 22 rfl W0.heap.size 25 i0 _ 2 16 Try.underlying22 Hi0.out Hz0.out Hz1.out Hz2.out rfl (by decide) v1 (0 + 0) ([] ++ []) (by simp [Act.eval]) HO1.out (some ⟨(wr.heap.size + 1), 0, none⟩) 1 1 (by simp [Act.eval]) [.int .i64 x1, .int .i64 x2] rfl (fun h => by cases h) (cells_two HX2.out) (by simp [Value.oneCell']) (by omega) (by omega) (by have := HBw.out.size; simp; omega) ?_; intro v2 w3 hown2 hg2; have HBv := Lib.hid (below_grownk (B := W0.heap.size) (a := W0) HBw.out HO1.out hg2 (Nat.le_refl _) (Nat.le_refl _)); have HO2 := Lib.hid hown2; clear hown2 hg2)
                | (refine step_append_sized rfl (.tmp 50) (.tmp 55) 22 rfl W0.heap.size 25 i0 _ 2 16 Try.underlying22 Hi0.out Hz0.out Hz1.out Hz2.out rfl (by decide) v1 (0 + 0) ([] ++ []) (by simp [Act.eval]) HO1.out (some ⟨wr.heap.size, 0, none⟩) 1 1 (by simp [Act.eval]) [.int .i64 x1, .int .i64 x2] rfl (fun h => by cases h) (cells_two HX2.out) (by simp [Value.oneCell']) (by omega) (by omega) (by have := HBw.out.size; simp; omega) ?_; intro v2 w3 hown2 hg2; have HBv := Lib.hid (below_grownk (B := W0.heap.size) (a := W0) HBw.out HO1.out hg2 (Nat.le_refl _) (Nat.le_refl _)); have HO2 := Lib.hid hown2; clear hown2 hg2)
                | (refine step_append_sized rfl (.tmp 56) (.tmp 59) 22 rfl W0.heap.size 25 i0 _ 2 16 Try.underlying22 Hi0.out Hz0.out Hz1.out Hz2.out rfl (by decide) v2 (0 + 0 + 1) ([] ++ [] ++ [.int .i64 x1, .int .i64 x2]) (by simp [Act.eval]) HO2.out none 0 0 (by simp [Act.eval]) [] (by rfl) (fun _ => ⟨rfl, rfl⟩) (fun ad e j u hu => by simp at hu) (by first | exact iv_one _ | simp) (by omega) (by omega) HBv.out.size ?_; intro v3 w4 hown3 hg3; have HBu := Lib.hid (below_grownk (B := W0.heap.size) (a := W0) HBv.out HO2.out hg3 (Nat.le_refl _) (Nat.le_refl _)); have HO3 := Lib.hid hown3; clear hown3 hg3)))
              all_goals
                go_wp2_with fail
                go_roundw
                case rel =>
                  refine ⟨j + 1, by omega, by go_num, Lib.hid ?_, Lib.hid (.inr ?_), Lib.hid (HB.out.trans (HBu.out.mono HB.out.size))⟩
                  · have h := own_base HO3.out HB.out.size
                    have e1 : (srtk L (j + 1)).length = 0 + 0 + 1 + 0 := by rw [E.out, ins_len]; omega
                    have e2 : ivCells (srtk L (j + 1)) = [] ++ [] ++ [.int .i64 x1, .int .i64 x2] ++ [] := by rw [E.out, HP.out]; simp [ivCells, ivC]
                    rw [e1, e2]; exact h
                  · rw [E.out, ins_len]; omega
                case measure => simp [intOf]; omega
            · have hn0 : 0 < S.length := by
                rcases HN.out with h | h
                · cases h
                · exact h
              have hc0 : ¬ c' = 0 := by omega
              have hkS : 0 ≤ S.length := by omega
              · go_wp2_with fail
                go_region
                go_wp2_with fail
                have hG : W0.heap.size ≤ wr.heap.size := HBk.out.size
                have hbr : b < wr.heap.size := by omega
                go_region_law ((first
                  | (refine step_append_sized rfl (.tmp 46) (.tmp 49) 22 rfl W0.heap.size 25 i0 _ 2 16 Try.underlying22 Hi0.out Hz0.out Hz1.out Hz2.out rfl (by decide) (.slice (some ⟨wr.heap.size, 0, none⟩) 0 0) 0 [] (by simp [Act.eval]) (own_empty (Deep.blk_alloc_new wr (.cells #[] 25)) hG) (some ⟨g, 0, none⟩) 0 c' (by simp [Act.eval]) [] (by rfl) (fun h => by cases h) (fun ad e j u hu => by simp at hu) (by first | exact iv_one _ | simp) (by omega) (by omega) (by have := HBk.out.size; simp; omega) ?_; intro v1 w2 hown1 hg1; have HBw := Lib.hid (below_grownk (B := W0.heap.size) (a := W0) ((Below.alloc HBk.out HBk.out.size _).drew.drew) (own_empty (Deep.blk_alloc_new wr (.cells #[] 25)) hG) hg1 (Nat.le_refl _) (Nat.le_refl _)); have HO1 := Lib.hid hown1; have c0w := (HBw.out.cell (p := ⟨b, off + j * 2, none⟩) hbW).trans h0; have c1w := (HBw.out.cell (p := ⟨b, off + j * 2 + 1, none⟩) hbW).trans h1; clear hown1 hg1)
                  | (refine step_append_sized rfl (.tmp 46) (.tmp 49) 22 rfl W0.heap.size 25 i0 _ 2 16 Try.underlying22 Hi0.out Hz0.out Hz1.out Hz2.out rfl (by decide) (.slice (some ⟨wr.heap.size, 0, none⟩) 0 0) 0 [] (by simp [Act.eval]) (own_empty (blk_under wr (.cells #[] 25) (.cells #[.int .i64 x1, .int .i64 x2] 25)) hG) (some ⟨g, 0, none⟩) 0 c' (by simp [Act.eval]) [] (by rfl) (fun h => by cases h) (fun ad e j u hu => by simp at hu) (by first | exact iv_one _ | simp) (by omega) (by omega) (by have := HBk.out.size; simp; omega) ?_; intro v1 w2 hown1 hg1; have HBw := Lib.hid (below_grownk (B := W0.heap.size) (a := W0) ((Below.alloc (Below.alloc HBk.out HBk.out.size _) (by have := HBk.out.size; simp; omega) _).drew.drew) (own_empty (blk_under wr (.cells #[] 25) (.cells #[.int .i64 x1, .int .i64 x2] 25)) hG) hg1 (Nat.le_refl _) (Nat.le_refl _)); have HO1 := Lib.hid hown1; have HX2 : Hid (w2.heap[wr.heap.size + 1]? = some (.cells #[.int .i64 x1, .int .i64 x2] 25)) := Lib.hid ((hg1.block (wr.heap.size + 1) (by simp) (by simp [Value.ownBlock])).trans (blk_over wr (.cells #[] 25) (.cells #[.int .i64 x1, .int .i64 x2] 25))); have c0w := (HBw.out.cell (p := ⟨b, off + j * 2, none⟩) hbW).trans h0; have c1w := (HBw.out.cell (p := ⟨b, off + j * 2 + 1, none⟩) hbW).trans h1; clear hown1 hg1)
                  | (refine step_append_sized rfl (.tmp 46) (.tmp 49) 22 rfl W0.heap.size 25 i0 _ 2 16 Try.underlying22 Hi0.out Hz0.out Hz1.out Hz2.out rfl (by decide) (.slice (some ⟨(wr.heap.size + 1), 0, none⟩) 0 0) 0 [] (by simp [Act.eval]) (own_empty (blk_over wr (.cells #[.int .i64 x1, .int .i64 x2] 25) (.cells #[] 25)) (by omega)) (some ⟨g, 0, none⟩) 0 c' (by simp [Act.eval]) [] (by rfl) (fun h => by cases h) (fun ad e j u hu => by simp at hu) (by first | exact iv_one _ | simp) (by omega) (by omega) (by have := HBk.out.size; simp; omega) ?_; intro v1 w2 hown1 hg1; have HBw := Lib.hid (below_grownk (B := W0.heap.size) (a := W0) ((Below.alloc (Below.alloc HBk.out HBk.out.size _) (by have := HBk.out.size; simp; omega) _).drew.drew) (own_empty (blk_over wr (.cells #[.int .i64 x1, .int .i64 x2] 25) (.cells #[] 25)) (by omega)) hg1 (Nat.le_refl _) (Nat.le_refl _)); have HO1 := Lib.hid hown1; have HX2 : Hid (w2.heap[wr.heap.size]? = some (.cells #[.int .i64 x1, .int .i64 x2] 25)) := Lib.hid ((hg1.block wr.heap.size (by simp; omega) (by simp [Value.ownBlock])).trans (blk_under wr (.cells #[.int .i64 x1, .int .i64 x2] 25) (.cells #[] 25))); have c0w := (HBw.out.cell (p := ⟨b, off + j * 2, none⟩) hbW).trans h0; have c1w := (HBw.out.cell (p := ⟨b, off + j * 2 + 1, none⟩) hbW).trans h1; clear hown1 hg1)
                  | (refine step_append_sized rfl (.tmp 50) (.tmp 55) 22 rfl W0.heap.size 25 i0 _ 2 16 Try.underlying22 Hi0.out Hz0.out Hz1.out Hz2.out rfl (by decide) v1 (0 + 0) ([] ++ []) (by simp [Act.eval]) (HO1.out.alloc _) (some ⟨w2.heap.size, 0, none⟩) 1 1 (by simp [Act.eval]) [.int .i64 x1, .int .i64 x2] rfl (fun h => by cases h) (cells_two (Deep.blk_alloc_new w2 (.cells #[.int .i64 x1, .int .i64 x2] 25))) (by simp [Value.oneCell']) (by omega) (by omega) (by have := HBw.out.size; simp; omega) ?_; intro v2 w3 hown2 hg2; have HBv := Lib.hid (below_grownk (B := W0.heap.size) (a := W0) (Below.alloc HBw.out HBw.out.size _) (HO1.out.alloc _) hg2 (Nat.le_refl _) (Nat.le_refl _)); have HO2 := Lib.hid hown2; clear hown2 hg2)
                  | (refine step_append_sized rfl (.tmp 50) (.tmp 55) 22 rfl W0.heap.size 25 i0 _ 2 16 Try.underlying22 Hi0.out Hz0.out Hz1.out Hz2.out rfl (by decide) v1 (0 + 0) ([] ++ []) (by simp [Act.eval]) HO1.out (some ⟨(wr.heap.size + 1), 0, none⟩) 1 1 (by simp [Act.eval]) [.int .i64 x1, .int .i64 x2] rfl (fun h => by cases h) (cells_two HX2.out) (by simp [Value.oneCell']) (by omega) (by omega) (by have := HBw.out.size; simp; omega) ?_; intro v2 w3 hown2 hg2; have HBv := Lib.hid (below_grownk (B := W0.heap.size) (a := W0) HBw.out HO1.out hg2 (Nat.le_refl _) (Nat.le_refl _)); have HO2 := Lib.hid hown2; clear hown2 hg2)
                  | (refine step_append_sized rfl (.tmp 50) (.tmp 55) 22 rfl W0.heap.size 25 i0 _ 2 16 Try.underlying22 Hi0.out Hz0.out Hz1.out Hz2.out rfl (by decide) v1 (0 + 0) ([] ++ []) (by simp [Act.eval]) HO1.out (some ⟨wr.heap.size, 0, none⟩) 1 1 (by simp [Act.eval]) [.int .i64 x1, .int .i64 x2] rfl (fun h => by cases h) (cells_two HX2.out) (by simp [Value.oneCell']) (by omega) (by omega) (by have := HBw.out.size; simp; omega) ?_; intro v2 w3 hown2 hg2; have HBv := Lib.hid (below_grownk (B := W0.heap.size) (a := W0) HBw.out HO1.out hg2 (Nat.le_refl _) (Nat.le_refl _)); have HO2 := Lib.hid hown2; clear hown2 hg2)
                  | (refine step_append_sized rfl (.tmp 56) (.tmp 59) 22 rfl W0.heap.size 25 i0 _ 2 16 Try.underlying22 Hi0.out Hz0.out Hz1.out Hz2.out rfl (by decide) v2 (0 + 0 + 1) ([] ++ [] ++ [.int .i64 x1, .int .i64 x2]) (by simp [Act.eval]) HO2.out (some ⟨g, 0, none⟩) S.length c' (by simp [Act.eval]) (ivCells S) (by rw [iv_cells_len]) (fun h => by cases h) (by have h := back_cells HRs.out HBv.out 0 (Nat.zero_le _); simpa using h) (by first | exact iv_one _ | simp) (by omega) (by omega) HBv.out.size ?_; intro v3 w4 hown3 hg3; have HBu := Lib.hid (below_grownk (B := W0.heap.size) (a := W0) HBv.out HO2.out hg3 (Nat.le_refl _) (Nat.le_refl _)); have HO3 := Lib.hid hown3; clear hown3 hg3)))
                all_goals
                  go_wp2_with fail
                  go_roundw
                  case rel =>
                    refine ⟨j + 1, by omega, by go_num, Lib.hid ?_, Lib.hid (.inr ?_), Lib.hid (HB.out.trans (HBu.out.mono HB.out.size))⟩
                    · have h := own_base HO3.out HB.out.size
                      have e1 : (srtk L (j + 1)).length = 0 + 0 + 1 + S.length := by rw [E.out, ins_len]; omega
                      have e2 : ivCells (srtk L (j + 1)) = [] ++ [] ++ [.int .i64 x1, .int .i64 x2] ++ (ivCells S) := by rw [E.out, HP.out]; simp [ivCells, ivC]
                      rw [e1, e2]; exact h
                    · rw [E.out, ins_len]; omega
                  case measure => simp [intOf]; omega
          · obtain ⟨m, rfl⟩ : ∃ m, k = m + 1 := ⟨k - 1, by omega⟩
            have hm : m < S.length := by omega
            obtain ⟨g, off2, rfl, hg, d0, d1⟩ := iv_at ((HRs.out).below HBk.out) m hm
            obtain ⟨y, hy⟩ : ∃ y, y = S[m] := ⟨_, rfl⟩
            rw [← hy] at d0 d1
            have HY := Lib.hid hy
            clear hy
            obtain ⟨y1, y2⟩ := y
            dsimp only at d0 d1
            have e1 : ((m + 1 : Nat) : Int) = (m : Int) + 1 := by omega
            have hw1 : IntKind.i64.wrap ((m : Int) + 1 - 1) = (m : Int) := by simp only [IntKind.wrap_i64]; omega
            have hms : (m : Int) < (S.length : Int) := by omega
            have hm0 : (0 : Int) ≤ (m : Int) := by omega
            by_cases hgt : x1 < y1
            · rw [e1]
              go_wp2_with fail
              go_region
              go_wp2_with fail
              go_roundw
              case rel =>
                refine ⟨m, by omega, by go_num, Lib.hid (fun i h hi => ?_), Lib.hid (Below.drew HBk.out)⟩
                by_cases e : i = m
                · subst e; rw [← HY.out]; exact hgt
                · exact Hk.out i h (by omega)
              case measure => simp [intOf]
            · have hle : y1 ≤ x1 := by omega
              rw [e1]
              go_wp2_with fail
              go_region
              go_wp2_with fail
              obtain ⟨rfl, g0, gl⟩ : off2 = 0 ∧ w.heap.size ≤ g ∧ g < W0.heap.size := by
                rcases HA'.out with ⟨h, _⟩ | ⟨g', h, h1, h2⟩
                · cases h
                · cases h; exact ⟨rfl, h1, h2⟩
              obtain ⟨k, hkm⟩ : ∃ k : Nat, k = m + 1 := ⟨_, rfl⟩
              have hkI : (m : Int) + 1 = (k : Int) := by omega
              rw [hkI]
              have hmc : k ≤ c' := by omega
              have hkS : k ≤ S.length := by omega
              have HP := Lib.hid (ins_take (x1, x2) S HS.out k (by omega) (fun i h hi => Hk.out i h (by omega)) (.inr ⟨by omega, by have e2 := HY.out; subst hkm; show (S[m]).1 ≤ x1; rw [← e2]; exact hle⟩))
              clear hkI hkm e1 hw1 hm0 hms d0 d1 hkl HA'
              by_cases hcm2 : c' = k
              · have hSk : S.length = k := by omega
                subst hcm2
                go_wp2_with fail
                have hG : W0.heap.size ≤ wr.heap.size := HBk.out.size
                have hbr : b < wr.heap.size := by omega
                go_region_law ((first
                  | (refine step_append_sized rfl (.tmp 46) (.tmp 49) 22 rfl W0.heap.size 25 i0 _ 2 16 Try.underlying22 Hi0.out Hz0.out Hz1.out Hz2.out rfl (by decide) (.slice (some ⟨wr.heap.size, 0, none⟩) 0 0) 0 [] (by simp [Act.eval]) (own_empty (Deep.blk_alloc_new wr (.cells #[] 25)) hG) (some ⟨g, 0, none⟩) c' c' (by simp [Act.eval]) (ivCells (S.take c')) (by rw [iv_cells_len, List.length_take, Nat.min_eq_left hkS]) (fun h => by cases h) (front_cells HRs.out ((Below.alloc HBk.out HBk.out.size _).drew.drew) c' hkS) (by first | exact iv_one _ | simp) (by omega) (by omega) (by have := HBk.out.size; simp; omega) ?_; intro v1 w2 hown1 hg1; have HBw := Lib.hid (below_grownk (B := W0.heap.size) (a := W0) ((Below.alloc HBk.out HBk.out.size _).drew.drew) (own_empty (Deep.blk_alloc_new wr (.cells #[] 25)) hG) hg1 (Nat.le_refl _) (Nat.le_refl _)); have HO1 := Lib.hid hown1; have c0w := (HBw.out.cell (p := ⟨b, off + j * 2, none⟩) hbW).trans h0; have c1w := (HBw.out.cell (p := ⟨b, off + j * 2 + 1, none⟩) hbW).trans h1; clear hown1 hg1)
                  | (refine step_append_sized rfl (.tmp 46) (.tmp 49) 22 rfl W0.heap.size 25 i0 _ 2 16 Try.underlying22 Hi0.out Hz0.out Hz1.out Hz2.out rfl (by decide) (.slice (some ⟨wr.heap.size, 0, none⟩) 0 0) 0 [] (by simp [Act.eval]) (own_empty (blk_under wr (.cells #[] 25) (.cells #[.int .i64 x1, .int .i64 x2] 25)) hG) (some ⟨g, 0, none⟩) c' c' (by simp [Act.eval]) (ivCells (S.take c')) (by rw [iv_cells_len, List.length_take, Nat.min_eq_left hkS]) (fun h => by cases h) (front_cells HRs.out ((Below.alloc (Below.alloc HBk.out HBk.out.size _) (by have := HBk.out.size; simp; omega) _).drew.drew) c' hkS) (by first | exact iv_one _ | simp) (by omega) (by omega) (by have := HBk.out.size; simp; omega) ?_; intro v1 w2 hown1 hg1; have HBw := Lib.hid (below_grownk (B := W0.heap.size) (a := W0) ((Below.alloc (Below.alloc HBk.out HBk.out.size _) (by have := HBk.out.size; simp; omega) _).drew.drew) (own_empty (blk_under wr (.cells #[] 25) (.cells #[.int .i64 x1, .int .i64 x2] 25)) hG) hg1 (Nat.le_refl _) (Nat.le_refl _)); have HO1 := Lib.hid hown1; have HX2 : Hid (w2.heap[wr.heap.size + 1]? = some (.cells #[.int .i64 x1, .int .i64 x2] 25)) := Lib.hid ((hg1.block (wr.heap.size + 1) (by simp) (by simp [Value.ownBlock])).trans (blk_over wr (.cells #[] 25) (.cells #[.int .i64 x1, .int .i64 x2] 25))); have c0w := (HBw.out.cell (p := ⟨b, off + j * 2, none⟩) hbW).trans h0; have c1w := (HBw.out.cell (p := ⟨b, off + j * 2 + 1, none⟩) hbW).trans h1; clear hown1 hg1)
                  | (refine step_append_sized rfl (.tmp 46) (.tmp 49) 22 rfl W0.heap.size 25 i0 _ 2 16 Try.underlying22 Hi0.out Hz0.out Hz1.out Hz2.out rfl (by decide) (.slice (some ⟨(wr.heap.size + 1), 0, none⟩) 0 0) 0 [] (by simp [Act.eval]) (own_empty (blk_over wr (.cells #[.int .i64 x1, .int .i64 x2] 25) (.cells #[] 25)) (by omega)) (some ⟨g, 0, none⟩) c' c' (by simp [Act.eval]) (ivCells (S.take c')) (by rw [iv_cells_len, List.length_take, Nat.min_eq_left hkS]) (fun h => by cases h) (front_cells HRs.out ((Below.alloc (Below.alloc HBk.out HBk.out.size _) (by have := HBk.out.size; simp; omega) _).drew.drew) c' hkS) (by first | exact iv_one _ | simp) (by omega) (by omega) (by have := HBk.out.size; simp; omega) ?_; intro v1 w2 hown1 hg1; have HBw := Lib.hid (below_grownk (B := W0.heap.size) (a := W0) ((Below.alloc (Below.alloc HBk.out HBk.out.size _) (by have := HBk.out.size; simp; omega) _).drew.drew) (own_empty (blk_over wr (.cells #[.int .i64 x1, .int .i64 x2] 25) (.cells #[] 25)) (by omega)) hg1 (Nat.le_refl _) (Nat.le_refl _)); have HO1 := Lib.hid hown1; have HX2 : Hid (w2.heap[wr.heap.size]? = some (.cells #[.int .i64 x1, .int .i64 x2] 25)) := Lib.hid ((hg1.block wr.heap.size (by simp; omega) (by simp [Value.ownBlock])).trans (blk_under wr (.cells #[.int .i64 x1, .int .i64 x2] 25) (.cells #[] 25))); have c0w := (HBw.out.cell (p := ⟨b, off + j * 2, none⟩) hbW).trans h0; have c1w := (HBw.out.cell (p := ⟨b, off + j * 2 + 1, none⟩) hbW).trans h1; clear hown1 hg1)
                  | (refine step_append_sized rfl (.tmp 50) (.tmp 55) 22 rfl W0.heap.size 25 i0 _ 2 16 Try.underlying22 Hi0.out Hz0.out Hz1.out Hz2.out rfl (by decide) v1 (0 + c') ([] ++ (ivCells (S.take c'))) (by simp [Act.eval]) (HO1.out.alloc _) (some ⟨w2.heap.size, 0, none⟩) 1 1 (by simp [Act.eval]) [.int .i64 x1, .int .i64 x2] rfl (fun h => by cases h) (cells_two (Deep.blk_alloc_new w2 (.cells #[.int .i64 x1, .int .i64 x2] 25))) (by simp [Value.oneCell']) (by omega) (by omega) (by have := HBw.out.size; simp; omega) ?_; intro v2 w3 hown2 hg2; have HBv := Lib.hid (below_grownk (B := W0.heap.size) (a := W0) (Below.alloc HBw.out HBw.out.size _) (HO1.out.alloc _) hg2 (Nat.le_refl _) (Nat.le_refl _)); have HO2 := Lib.hid hown2; clear hown2 hg2)
                  | (refine step_append_sized rfl (.tmp 50) (.tmp 55) 22 rfl W0.heap.size 25 i0 _ 2 16 Try.underlying22 Hi0.out Hz0.out Hz1.out Hz2.out rfl (by decide) v1 (0 + c') ([] ++ (ivCells (S.take c'))) (by simp [Act.eval]) HO1.out (some ⟨(wr.heap.size + 1), 0, none⟩) 1 1 (by simp [Act.eval]) [.int .i64 x1, .int .i64 x2] rfl (fun h => by cases h) (cells_two HX2.out) (by simp [Value.oneCell']) (by omega) (by omega) (by have := HBw.out.size; simp; omega) ?_; intro v2 w3 hown2 hg2; have HBv := Lib.hid (below_grownk (B := W0.heap.size) (a := W0) HBw.out HO1.out hg2 (Nat.le_refl _) (Nat.le_refl _)); have HO2 := Lib.hid hown2; clear hown2 hg2)
                  | (refine step_append_sized rfl (.tmp 50) (.tmp 55) 22 rfl W0.heap.size 25 i0 _ 2 16 Try.underlying22 Hi0.out Hz0.out Hz1.out Hz2.out rfl (by decide) v1 (0 + c') ([] ++ (ivCells (S.take c'))) (by simp [Act.eval]) HO1.out (some ⟨wr.heap.size, 0, none⟩) 1 1 (by simp [Act.eval]) [.int .i64 x1, .int .i64 x2] rfl (fun h => by cases h) (cells_two HX2.out) (by simp [Value.oneCell']) (by omega) (by omega) (by have := HBw.out.size; simp; omega) ?_; intro v2 w3 hown2 hg2; have HBv := Lib.hid (below_grownk (B := W0.heap.size) (a := W0) HBw.out HO1.out hg2 (Nat.le_refl _) (Nat.le_refl _)); have HO2 := Lib.hid hown2; clear hown2 hg2)
                  | (refine step_append_sized rfl (.tmp 56) (.tmp 59) 22 rfl W0.heap.size 25 i0 _ 2 16 Try.underlying22 Hi0.out Hz0.out Hz1.out Hz2.out rfl (by decide) v2 (0 + c' + 1) ([] ++ (ivCells (S.take c')) ++ [.int .i64 x1, .int .i64 x2]) (by simp [Act.eval]) HO2.out (some ⟨g, 0, none⟩) 0 0 (by simp [Act.eval]) [] (by rfl) (fun h => by cases h) (fun ad e j u hu => by simp at hu) (by first | exact iv_one _ | simp) (by omega) (by omega) HBv.out.size ?_; intro v3 w4 hown3 hg3; have HBu := Lib.hid (below_grownk (B := W0.heap.size) (a := W0) HBv.out HO2.out hg3 (Nat.le_refl _) (Nat.le_refl _)); have HO3 := Lib.hid hown3; clear hown3 hg3)))
                all_goals
                  go_wp2_with fail
                  go_roundw
                  case rel =>
                    refine ⟨j + 1, by omega, by go_num, Lib.hid ?_, Lib.hid (.inr ?_), Lib.hid (HB.out.trans (HBu.out.mono HB.out.size))⟩
                    · have h := own_base HO3.out HB.out.size
                      have e1 : (srtk L (j + 1)).length = 0 + c' + 1 + 0 := by rw [E.out, ins_len]; omega
                      have e2 : ivCells (srtk L (j + 1)) = [] ++ (ivCells (S.take c')) ++ [.int .i64 x1, .int .i64 x2] ++ [] := by rw [E.out, HP.out]; rw [List.drop_eq_nil_of_le (by omega)]; simp [ivCells, ivC]
                      rw [e1, e2]; exact h
                    · rw [E.out, ins_len]; omega
                  case measure => simp [intOf]; omega
              · go_wp2_with fail
                have hG : W0.heap.size ≤ wr.heap.size := HBk.out.size
                have hbr : b < wr.heap.size := by omega
                go_region_law ((first
                  | (refine step_append_sized rfl (.tmp 46) (.tmp 49) 22 rfl W0.heap.size 25 i0 _ 2 16 Try.underlying22 Hi0.out Hz0.out Hz1.out Hz2.out rfl (by decide) (.slice (some ⟨wr.heap.size, 0, none⟩) 0 0) 0 [] (by simp [Act.eval]) (own_empty (Deep.blk_alloc_new wr (.cells #[] 25)) hG) (some ⟨g, 0, none⟩) k c' (by simp [Act.eval]) (ivCells (S.take k)) (by rw [iv_cells_len, List.length_take, Nat.min_eq_left hkS]) (fun h => by cases h) (front_cells HRs.out ((Below.alloc HBk.out HBk.out.size _).drew.drew) k hkS) (by first | exact iv_one _ | simp) (by omega) (by omega) (by have := HBk.out.size; simp; omega) ?_; intro v1 w2 hown1 hg1; have HBw := Lib.hid (below_grownk (B := W0.heap.size) (a := W0) ((Below.alloc HBk.out HBk.out.size _).drew.drew) (own_empty (Deep.blk_alloc_new wr (.cells #[] 25)) hG) hg1 (Nat.le_refl _) (Nat.le_refl _)); have HO1 := Lib.hid hown1; have c0w := (HBw.out.cell (p := ⟨b, off + j * 2, none⟩) hbW).trans h0; have c1w := (HBw.out.cell (p := ⟨b, off + j * 2 + 1, none⟩) hbW).trans h1; clear hown1 hg1)
                  | (refine step_append_sized rfl (.tmp 46) (.tmp 49) 22 rfl W0.heap.size 25 i0 _ 2 16 Try.underlying22 Hi0.out Hz0.out Hz1.out Hz2.out rfl (by decide) (.slice (some ⟨wr.heap.size, 0, none⟩) 0 0) 0 [] (by simp [Act.eval]) (own_empty (blk_under wr (.cells #[] 25) (.cells #[.int .i64 x1, .int .i64 x2] 25)) hG) (some ⟨g, 0, none⟩) k c' (by simp [Act.eval]) (ivCells (S.take k)) (by rw [iv_cells_len, List.length_take, Nat.min_eq_left hkS]) (fun h => by cases h) (front_cells HRs.out ((Below.alloc (Below.alloc HBk.out HBk.out.size _) (by have := HBk.out.size; simp; omega) _).drew.drew) k hkS) (by first | exact iv_one _ | simp) (by omega) (by omega) (by have := HBk.out.size; simp; omega) ?_; intro v1 w2 hown1 hg1; have HBw := Lib.hid (below_grownk (B := W0.heap.size) (a := W0) ((Below.alloc (Below.alloc HBk.out HBk.out.size _) (by have := HBk.out.size; simp; omega) _).drew.drew) (own_empty (blk_under wr (.cells #[] 25) (.cells #[.int .i64 x1, .int .i64 x2] 25)) hG) hg1 (Nat.le_refl _) (Nat.le_refl _)); have HO1 := Lib.hid hown1; have HX2 : Hid (w2.heap[wr.heap.size + 1]? = some (.cells #[.int .i64 x1, .int .i64 x2] 25)) := Lib.hid ((hg1.block (wr.heap.size + 1) (by simp) (by simp [Value.ownBlock])).trans (blk_over wr (.cells #[] 25) (.cells #[.int .i64 x1, .int .i64 x2] 25))); have c0w := (HBw.out.cell (p := ⟨b, off + j * 2, none⟩) hbW).trans h0; have c1w := (HBw.out.cell (p := ⟨b, off + j * 2 + 1, none⟩) hbW).trans h1; clear hown1 hg1)
                  | (refine step_append_sized rfl (.tmp 46) (.tmp 49) 22 rfl W0.heap.size 25 i0 _ 2 16 Try.underlying22 Hi0.out Hz0.out Hz1.out Hz2.out rfl (by decide) (.slice (some ⟨(wr.heap.size + 1), 0, none⟩) 0 0) 0 [] (by simp [Act.eval]) (own_empty (blk_over wr (.cells #[.int .i64 x1, .int .i64 x2] 25) (.cells #[] 25)) (by omega)) (some ⟨g, 0, none⟩) k c' (by simp [Act.eval]) (ivCells (S.take k)) (by rw [iv_cells_len, List.length_take, Nat.min_eq_left hkS]) (fun h => by cases h) (front_cells HRs.out ((Below.alloc (Below.alloc HBk.out HBk.out.size _) (by have := HBk.out.size; simp; omega) _).drew.drew) k hkS) (by first | exact iv_one _ | simp) (by omega) (by omega) (by have := HBk.out.size; simp; omega) ?_; intro v1 w2 hown1 hg1; have HBw := Lib.hid (below_grownk (B := W0.heap.size) (a := W0) ((Below.alloc (Below.alloc HBk.out HBk.out.size _) (by have := HBk.out.size; simp; omega) _).drew.drew) (own_empty (blk_over wr (.cells #[.int .i64 x1, .int .i64 x2] 25) (.cells #[] 25)) (by omega)) hg1 (Nat.le_refl _) (Nat.le_refl _)); have HO1 := Lib.hid hown1; have HX2 : Hid (w2.heap[wr.heap.size]? = some (.cells #[.int .i64 x1, .int .i64 x2] 25)) := Lib.hid ((hg1.block wr.heap.size (by simp; omega) (by simp [Value.ownBlock])).trans (blk_under wr (.cells #[.int .i64 x1, .int .i64 x2] 25) (.cells #[] 25))); have c0w := (HBw.out.cell (p := ⟨b, off + j * 2, none⟩) hbW).trans h0; have c1w := (HBw.out.cell (p := ⟨b, off + j * 2 + 1, none⟩) hbW).trans h1; clear hown1 hg1)
                  | (refine step_append_sized rfl (.tmp 50) (.tmp 55) 22 rfl W0.heap.size 25 i0 _ 2 16 Try.underlying22 Hi0.out Hz0.out Hz1.out Hz2.out rfl (by decide) v1 (0 + k) ([] ++ (ivCells (S.take k))) (by simp [Act.eval]) (HO1.out.alloc _) (some ⟨w2.heap.size, 0, none⟩) 1 1 (by simp [Act.eval]) [.int .i64 x1, .int .i64 x2] rfl (fun h => by cases h) (cells_two (Deep.blk_alloc_new w2 (.cells #[.int .i64 x1, .int .i64 x2] 25))) (by simp [Value.oneCell']) (by omega) (by omega) (by have := HBw.out.size; simp; omega) ?_; intro v2 w3 hown2 hg2; have HBv := Lib.hid (below_grownk (B := W0.heap.size) (a := W0) (Below.alloc HBw.out HBw.out.size _) (HO1.out.alloc _) hg2 (Nat.le_refl _) (Nat.le_refl _)); have HO2 := Lib.hid hown2; clear hown2 hg2)
                  | (refine step_append_sized rfl (.tmp 50) (.tmp 55) 22 rfl W0.heap.size 25 i0 _ 2 16 Try.underlying22 Hi0.out Hz0.out Hz1.out Hz2.out rfl (by decide) v1 (0 + k) ([] ++ (ivCells (S.take k))) (by simp [Act.eval]) HO1.out (some ⟨(wr.heap.size + 1), 0, none⟩) 1 1 (by simp [Act.eval]) [.int .i64 x1, .int .i64 x2] rfl (fun h => by cases h) (cells_two HX2.out) (by simp [Value.oneCell']) (by omega) (by omega) (by have := HBw.out.size; simp; omega) ?_; intro v2 w3 hown2 hg2; have HBv := Lib.hid (below_grownk (B := W0.heap.size) (a := W0) HBw.out HO1.out hg2 (Nat.le_refl _) (Nat.le_refl _)); have HO2 := Lib.hid hown2; clear hown2 hg2)
                  | (refine step_append_sized rfl (.tmp 50) (.tmp 55) 22 rfl W0.heap.size 25 i0 _ 2 16 Try.underlying22 Hi0.out Hz0.out Hz1.out Hz2.out rfl (by decide) v1 (0 + k) ([] ++ (ivCells (S.take k))) (by simp [Act.eval]) HO1.out (some ⟨wr.heap.size, 0, none⟩) 1 1 (by simp [Act.eval]) [.int .i64 x1, .int .i64 x2] rfl (fun h => by cases h) (cells_two HX2.out) (by simp [Value.oneCell']) (by omega) (by omega) (by have := HBw.out.size; simp; omega) ?_; intro v2 w3 hown2 hg2; have HBv := Lib.hid (below_grownk (B := W0.heap.size) (a := W0) HBw.out HO1.out hg2 (Nat.le_refl _) (Nat.le_refl _)); have HO2 := Lib.hid hown2; clear hown2 hg2)
                  | (refine step_append_sized rfl (.tmp 56) (.tmp 59) 22 rfl W0.heap.size 25 i0 _ 2 16 Try.underlying22 Hi0.out Hz0.out Hz1.out Hz2.out rfl (by decide) v2 (0 + k + 1) ([] ++ (ivCells (S.take k)) ++ [.int .i64 x1, .int .i64 x2]) (by simp [Act.eval]) HO2.out (some ⟨g, k * 2, none⟩) (S.length - k) (c' - k) (by simp [Act.eval]) (ivCells (S.drop k)) (by rw [iv_cells_len, List.length_drop]) (fun h => by cases h) (back_cells HRs.out HBv.out k hkS) (by first | exact iv_one _ | simp) (by omega) (by omega) HBv.out.size ?_; intro v3 w4 hown3 hg3; have HBu := Lib.hid (below_grownk (B := W0.heap.size) (a := W0) HBv.out HO2.out hg3 (Nat.le_refl _) (Nat.le_refl _)); have HO3 := Lib.hid hown3; clear hown3 hg3)))
                all_goals
                  go_wp2_with fail
                  go_roundw
                  case rel =>
                    refine ⟨j + 1, by omega, by go_num, Lib.hid ?_, Lib.hid (.inr ?_), Lib.hid (HB.out.trans (HBu.out.mono HB.out.size))⟩
                    · have h := own_base HO3.out HB.out.size
                      have e1 : (srtk L (j + 1)).length = 0 + k + 1 + (S.length - k) := by rw [E.out, ins_len]; omega
                      have e2 : ivCells (srtk L (j + 1)) = [] ++ (ivCells (S.take k)) ++ [.int .i64 x1, .int .i64 x2] ++ (ivCells (S.drop k)) := by rw [E.out, HP.out]; simp [ivCells, ivC]
                      rw [e1, e2]; exact h
                    · rw [E.out, ins_len]; omega
                  case measure => simp [intOf]; omega
    · obtain rfl : j = L.length := by omega
      rw [srtk_all] at HO
      have hMl := srt_len L
      have hall := jk_all L
      obtain ⟨M, hM⟩ : ∃ M, M = srt L := ⟨_, rfl⟩
      rw [← hM] at HO hMl hall
      obtain ⟨A', c', rfl, hnc, hRs, hA'⟩ := rs_own HO.out
      have HRs := Lib.hid hRs
      have HAll := Lib.hid hall
      clear hRs hA' hM hall HN HO
      go_wp2_with fail
      rename World => W1
      go_loopw [6, 7] (fun u iv wr => ∃ i : Nat, i ≤ M.length ∧ iv = .int .i64 (i : Int) ∧ Hid (wr.ownsRow W1.heap.size 25 2 u (jk M i).length (ivCells (jk M i))) ∧ Hid (Below W1.heap.size W1 wr)) (fun _ iv _ => M.length - (intOf iv).toNat)
      case atStart => exact ⟨0, Nat.zero_le _, rfl, Lib.hid ⟨rfl, Or.inl ⟨rfl, rfl⟩⟩, Lib.hid (Below.refl _ _)⟩
      case round =>
        obtain ⟨i, hi, rfl, HOi, HBi⟩ := hrel
        by_cases hlt : i < M.length
        · obtain ⟨b, off, rfl, hb, h0, h1⟩ := iv_at (HRs.out.below HBi.out) i hlt
          have hjs := jk_succ M i hlt
          have hjl := jk_len M i hi
          obtain ⟨x, hx⟩ : ∃ x, x = M[i] := ⟨_, rfl⟩
          rw [← hx] at h0 h1 hjs
          have hbr : b < wr.heap.size := by have := HBi.out.size; omega
          clear hx
          obtain ⟨x1, x2⟩ := x
          dsimp only at h0 h1
          obtain ⟨J, hJ⟩ : ∃ J, J = jk M i := ⟨_, rfl⟩
          rw [← hJ] at HOi hjs hjl
          clear hJ
          have hil : (i : Int) < (M.length : Int) := by omega
          have hi0' : (0 : Int) ≤ (i : Int) := by omega
          rcases List.eq_nil_or_concat J with rfl | ⟨K, ⟨y1, y2⟩, rfl⟩
          · rw [jn_nil] at hjs
            have HJ := Lib.hid hjs
            clear hjs
            have hO0 := HOi.out
            change wr.ownsRow W1.heap.size _ 2 _ 0 [] at hO0
            clear HOi
            obtain ⟨A2, c2, rfl, _, _, _⟩ := rs_own hO0
            have HO0 := Lib.hid hO0
            clear hO0
            go_wp2_with fail
            go_region
            go_wp2_with (at_builtin; refine wpList_append_agg rfl (.tmp 100) (.tmp 105) 22 rfl W1.heap.size 25 i0 _ 2 16 Try.underlying22 Hi0.out Hz0.out Hz1.out Hz2.out rfl (by decide) _ 0 _ rfl (World.ownsRow.alloc (World.ownsRow.drew HO0.out) _) wr.heap.size 1 [.int .i64 x1, .int .i64 x2] 25 rfl (by simp [go_sem]) (Deep.blk_alloc_new wr _) (by simp [Value.oneCell']) (by omega) (by omega) (by have := HBi.out.size; simp; omega) ?_; intro v4 w4 hown4 hg4; have HO4 := Lib.hid hown4; have HB4 := Lib.hid (below_grownk (B := W1.heap.size) (a := W1) (Below.alloc HBi.out.drew HBi.out.size _) (World.ownsRow.alloc (World.ownsRow.drew HO0.out) _) hg4 (Nat.le_refl _) (Nat.le_refl _)); clear hown4 hg4)
            go_roundw
            case rel => exact ⟨i + 1, by omega, by go_num, by rw [HJ.out]; exact HO4, HB4⟩
            case measure => simp [intOf]; omega
          · rw [List.concat_eq_append] at HOi hjs hjl
            have hlK : (K ++ [(y1, y2)]).length = K.length + 1 := by simp
            have hO0 := HOi.out
            rw [hlK] at hO0 hjl
            obtain ⟨A2, c2, rfl, hnc2, hRs2, hA2⟩ := rs_own hO0
            obtain ⟨g, off2, rfl, hg, d0, d1⟩ := iv_at hRs2 K.length (by omega)
            obtain ⟨rfl, g0⟩ : off2 = 0 ∧ W1.heap.size ≤ g := by
              rcases hA2 with ⟨h, _⟩ | ⟨g', h, h1, h2⟩
              · cases h
              · cases h; exact ⟨rfl, h1⟩
            have e2 : (K ++ [(y1, y2)])[K.length]'(by omega) = (y1, y2) := by simp
            rw [e2] at d0 d1
            have hfr := hO0.frozenAt (K.length * 2 + 1)
            have HO0 := Lib.hid hO0
            clear hO0 HOi hRs2 hA2 hlK e2
            dsimp only at d0 d1
            rw [Nat.zero_add] at d0 d1
            have hkl : (K.length : Int) < (K.length : Int) + 1 := by omega
            have hk0 : (0 : Int) ≤ (K.length : Int) := by omega
            have hw1 : IntKind.i64.wrap ((K.length : Int) + 1 - 1) = (K.length : Int) := by simp only [IntKind.wrap_i64]; omega
            by_cases hfar : y2 < x1
            · rw [jn_far K (y1, y2) (x1, x2) hfar] at hjs
              have HJ := Lib.hid hjs
              have hnle : ¬ x1 ≤ y2 := by omega
              clear hjs
              go_wp2_with fail
              go_region
              go_wp2_with (at_builtin; refine wpList_append_agg rfl (.tmp 100) (.tmp 105) 22 rfl W1.heap.size 25 i0 _ 2 16 Try.underlying22 Hi0.out Hz0.out Hz1.out Hz2.out rfl (by decide) _ (K.length + 1) _ rfl (World.ownsRow.alloc (World.ownsRow.drew HO0.out) _) wr.heap.size 1 [.int .i64 x1, .int .i64 x2] 25 rfl (by simp [go_sem]) (Deep.blk_alloc_new wr _) (by simp [Value.oneCell']) (by omega) (by omega) (by have := HBi.out.size; simp; omega) ?_; intro v4 w4 hown4 hg4; have HO4 := Lib.hid hown4; have HB4 := Lib.hid (below_grownk (B := W1.heap.size) (a := W1) (Below.alloc HBi.out.drew HBi.out.size _) (World.ownsRow.alloc (World.ownsRow.drew HO0.out) _) hg4 (Nat.le_refl _) (Nat.le_refl _)); clear hown4 hg4)
              go_roundw
              case rel => exact ⟨i + 1, by omega, by go_num, by rw [HJ.out, iv_snoc (K ++ [(y1, y2)]), List.length_append, List.length_append]; exact HO4, HB4⟩
              case measure => simp [intOf]; omega
            · rw [jn_near K (y1, y2) (x1, x2) hfar] at hjs
              have HJ := Lib.hid hjs
              have hle : x1 ≤ y2 := by omega
              clear hjs
              go_wp2_with fail
              go_region
              go_wp2_with fail
              go_region
              go_wp2_with fail
              go_roundw
              case rel =>
                refine ⟨i + 1, by omega, by go_num, Lib.hid ?_, Lib.hid (Below.drew (Below.drew (Below.setCell (p := ⟨g, K.length * 2 + 1, none⟩) HBi.out g0 _)))⟩
                have h := (HO0.out.stored (K.length * 2 + 1) (.int .i64 (max y2 x2))).1
                rw [iv_set] at h
                rw [HJ.out, List.length_append]
                exact h
              case measure => simp [intOf]; omega
        · obtain rfl : i = M.length := by omega
          rw [HAll.out] at HOi
          go_wp2_with fail
          go_ret
          exact ⟨⟨_, rfl, own_base HOi.out HB.out.size⟩, HB.out.trans (HBi.out.mono HB.out.size)⟩
end Go.Proofs.Ytkjpficpkpfkdaa
