/- Lists of runs and of ints in memory (written by wip/bin/gen_bg.py out of layer 3's texts). -/
import Derived.Test.YtacgomhegjilgaaGn
import Derived.Deep.RegionLaw
import Derived.Deep.RegionLawGrows
import Derived.RangeFuncCalls
namespace Go.Proofs.Ytacgomhegjilgaa
open Go.ChangeShapes Go.WideShapes Go.ChangeAt Go.RowKit Ts

section
variable {P : Program} {w : World}
/-- append of some elements of some cells to a row of the call's own, as a step of a region that draws. -/
theorem step_append_sized {ops : Array Oper} {o : Oper} {a : Act} {K : Act → World → Prop} {Q : Exit → Act → World → Prop} {E : Prop} (hg : o.guard = none) (s x : Operand) (t : TypeId)
    (ho : o.op = .call { callee := .builtin .append, args := #[s, x], argTypes := #[t, t] })
    (base : Nat) (e : TypeId) (i : TypeInfo) (z : Value) (size bytes : Nat) (ht : P.underlying t = some (.slice e)) (hi : P.info? e = some i) (hz : i.zero = some z)
    (hsize : i.size = size) (hby : i.bytes = bytes) (hzs : z.cells.size = size) (hsz : 0 < size)
    (v : Value) (n : Nat) (xs : List Value) (hs : a.eval s = v) (hown : w.ownsRow base e size v n xs)
    (ao : Option Addr) (m c : Nat) (hx : a.eval x = .slice ao m c) (news : List Value) (hl : news.length = m * size) (hnone : ao = none → m = 0 ∧ c = 0) (hnews : ∀ ad, ao = some ad → ∀ j u, news[j]? = some u → w.cell? (ad.add j) = some u) (h1 : ∀ u ∈ news, u.oneCell' = true)
    (hn : n + m ≤ 1000000) (hb : bytes ≤ 1000000) (hbase : base ≤ w.heap.size)
    (h : ∀ v' w', w'.ownsRow base e size v' (n + m) (xs ++ news) → w.grownBy w' v.ownBlock → K (a.put o.dst v') w') :
    if Region.wanted o (yielded ops a.tmps) = true then Oper.wp P o a w K Q else E := by
  have hw : Region.wanted o (yielded ops a.tmps) = true := by simp [Region.wanted, hg]
  rw [if_pos hw]
  cases ao with
  | some ad =>
    refine wp_append_own w s x t ho base e i z size bytes ht hi hz hsize hby hzs hsz v n xs hs hown ad m c news hx hl (hnews ad rfl) h1 (by unfold maxLen; omega) ?_ hbase (fun v' w' h2 h3 _ => h v' w' h2 h3)
    have := Nat.mul_le_mul (show n + m ≤ 1000000 by omega) hb
    omega
  | none =>
    obtain ⟨rfl, rfl⟩ := hnone rfl
    obtain rfl : news = [] := List.eq_nil_of_length_eq_zero (by simpa using hl)
    have hrun := run_append_owned_none (P := P) (w := w) base t o.type e i size ht hi v n xs hown
    unfold Oper.wp
    simp [execOp, ho, resolve, invoke, builtin, hs, hx, hrun, Result.andThen]
    exact h v w (by simpa using hown) ⟨rfl, rfl, rfl, Nat.le_refl _, fun _ _ _ => rfl⟩
/-- append of some elements of some cells to a row of the call's own. -/
theorem wpList_append_sized {ops : Array Oper} {rest : List Oper} {o : Oper} {a : Act} {Q : Exit → Act → World → Prop} (hg : o.guard = none) (s x : Operand) (t : TypeId)
    (ho : o.op = .call { callee := .builtin .append, args := #[s, x], argTypes := #[t, t] })
    (base : Nat) (e : TypeId) (i : TypeInfo) (z : Value) (size bytes : Nat) (ht : P.underlying t = some (.slice e)) (hi : P.info? e = some i) (hz : i.zero = some z)
    (hsize : i.size = size) (hby : i.bytes = bytes) (hzs : z.cells.size = size) (hsz : 0 < size)
    (v : Value) (n : Nat) (xs : List Value) (hs : a.eval s = v) (hown : w.ownsRow base e size v n xs)
    (ao : Option Addr) (m c : Nat) (hx : a.eval x = .slice ao m c) (news : List Value) (hl : news.length = m * size) (hnone : ao = none → m = 0 ∧ c = 0) (hnews : ∀ ad, ao = some ad → ∀ j u, news[j]? = some u → w.cell? (ad.add j) = some u) (h1 : ∀ u ∈ news, u.oneCell' = true)
    (hn : n + m ≤ 1000000) (hb : bytes ≤ 1000000) (hbase : base ≤ w.heap.size)
    (h : ∀ v' w', w'.ownsRow base e size v' (n + m) (xs ++ news) → w.grownBy w' v.ownBlock → wpList P ops Q rest (a.put o.dst v') w') : wpList P ops Q (o :: rest) a w :=
  wpList_plain hg fun _ hK => by
    cases ao with
    | some ad =>
      refine wp_append_own w s x t ho base e i z size bytes ht hi hz hsize hby hzs hsz v n xs hs hown ad m c news hx hl (hnews ad rfl) h1 (by unfold maxLen; omega) ?_ hbase (fun v' w' h2 h3 _ => hK _ _ (h v' w' h2 h3))
      have := Nat.mul_le_mul (show n + m ≤ 1000000 by omega) hb
      omega
    | none =>
      obtain ⟨rfl, rfl⟩ := hnone rfl
      obtain rfl : news = [] := List.eq_nil_of_length_eq_zero (by simpa using hl)
      have hrun := run_append_owned_none (P := P) (w := w) base t o.type e i size ht hi v n xs hown
      unfold Oper.wp
      simp [execOp, ho, resolve, invoke, builtin, hs, hx, hrun, Result.andThen]
      exact hK _ _ (h v w (by simpa using hown) ⟨rfl, rfl, rfl, Nat.le_refl _, fun _ _ _ => rfl⟩)
end
theorem iv_at {w : World} {B : Nat} {A : Option Addr} {L : List Iv} (h : Rs w B A (ivCells L)) (j : Nat) (hj : j < L.length) : ∃ b off, A = some ⟨b, off, none⟩ ∧ b < B ∧ w.cell? ⟨b, off + j * 2, none⟩ = some (.int .i64 L[j].1) ∧ w.cell? ⟨b, off + j * 2 + 1, none⟩ = some (.int .i64 L[j].2) := by
  obtain ⟨b, off, e, hb, hc⟩ := rows_at (C := ivC) (k := 2) (by decide) (fun _ => rfl) h j hj
  exact ⟨b, off, e, hb, hc 0 (by decide), hc 1 (by decide)⟩
theorem iv_cells_len (L : List Iv) : (ivCells L).length = L.length * 2 := flat_len ivC 2 (fun _ => rfl) L
/-- The cells of a row of the call's own, as a slice in memory. -/
theorem rs_own {w : World} {base e n : Nat} {v : Value} {xs : List Value} (h : w.ownsRow base e 2 v n xs) : ∃ A c, v = .slice A n c ∧ n ≤ c ∧ Rs w w.heap.size A xs ∧ ((A = none ∧ n = 0 ∧ c = 0) ∨ ∃ g, A = some ⟨g, 0, none⟩ ∧ base ≤ g ∧ g < w.heap.size) := by
  have hl := h.1
  rcases h.2 with ⟨rfl, h0⟩ | ⟨g, cap, cur, rfl, hbase, hh, hnc, hcap, hsz, htake⟩
  · have h0' : n = 0 := h0
    subst h0'
    obtain rfl : xs = [] := List.eq_nil_of_length_eq_zero (by simpa using hl)
    exact ⟨none, 0, rfl, Nat.le_refl _, Rs.nil, .inl ⟨rfl, rfl, rfl⟩⟩
  · refine ⟨_, cap, rfl, hnc, fun j hj => ⟨g, 0, rfl, (Array.getElem?_eq_some_iff.1 hh).1, ?_⟩, .inr ⟨g, rfl, hbase, (Array.getElem?_eq_some_iff.1 hh).1⟩⟩
    rw [Nat.zero_add, cell_of_row w g j _ _ _ hh]
    have h2 := congrArg (fun l : List Value => l[j]?) htake
    rw [List.getElem?_take_of_lt (by rw [← hl]; exact hj), List.getElem?_eq_getElem hj] at h2
    rw [← Array.getElem?_toList]; exact h2
theorem info_iv : (Try.prog.info? 39).map (fun i => (i.zero, i.size, i.bytes)) = some (some (.agg #[.int .i64 0, .int .i64 0]), 2, 16) := by kernel_rfl
theorem own_belowk {w w' : World} {B e size n : Nat} {v : Value} {xs : List Value} (h : w.ownsRow B e size v n xs) (hb : Below w.heap.size w w') : w'.ownsRow B e size v n xs := by
  refine ⟨h.1, ?_⟩
  rcases h.2 with h | ⟨b, cap, cur, rfl, hbase, hh, hr⟩
  · exact Or.inl h
  · exact Or.inr ⟨b, cap, cur, rfl, hbase, (hb.block b (Array.getElem?_eq_some_iff.1 hh).1).trans hh, hr⟩
theorem below_grownk {a w w' : World} {B base : Nat} {e n k : Nat} {v : Value} {xs : List Value} (h : Below B a w) (hown : w.ownsRow base e k v n xs) (hg : w.grownBy w' v.ownBlock) (hB : B ≤ base) (hs : B ≤ a.heap.size) : Below B a w' := by
  refine ⟨hg.os.trans h.os, hg.tape.trans h.tape, hg.output.trans h.output, Nat.le_trans h.size hg.size, fun k hk => (hg.block k (by have := h.size; omega) (fun e => ?_)).trans (h.block k hk)⟩
  rcases hown.2 with ⟨rfl, _⟩ | ⟨g, cap, cur, rfl, hbase, _⟩
  · simp [Value.ownBlock] at e
  · simp [Value.ownBlock] at e; omega
theorem own_base {w : World} {B B' e n k : Nat} {v : Value} {xs : List Value} (h : w.ownsRow B e k v n xs) (hB : B' ≤ B) : w.ownsRow B' e k v n xs := by
  refine ⟨h.1, ?_⟩
  rcases h.2 with h | ⟨g, cap, cur, rfl, hb, hr⟩
  · exact .inl h
  · exact .inr ⟨g, cap, cur, rfl, by omega, hr⟩
theorem own_empty {w : World} {B G e : Nat} (h : w.heap[G]? = some (.cells #[] e (0, 0))) (hB : B ≤ G) : w.ownsRow B e 2 (.slice (some ⟨G, 0, none⟩) 0 0) 0 [] :=
  ⟨rfl, .inr ⟨G, 0, #[], rfl, hB, h, Nat.le_refl _, by decide, rfl, rfl⟩⟩
theorem blk_under (w : World) (o o' : Obj) : ((w.alloc o).alloc o').heap[w.heap.size]? = some o := (Below.heap_alloc _ _ _ (by simp)).trans (Deep.blk_alloc_new w _)
theorem blk_over (w : World) (o o' : Obj) : ((w.alloc o).alloc o').heap[w.heap.size + 1]? = some o' := by
  have := Deep.blk_alloc_new (w.alloc o) o'
  rwa [World.size_alloc] at this
theorem cells_two {w : World} {X : Nat} {u v : Value} {e : TypeId} (h : w.heap[X]? = some (.cells #[u, v] e (0, 0))) : ∀ ad, some (⟨X, 0, none⟩ : Addr) = some ad → ∀ j y, [u, v][j]? = some y → w.cell? (ad.add j) = some y := by
  intro ad e j y hy
  cases e
  rw [add_flat, Nat.zero_add, cell_of_row w X j _ _ _ h]
  simpa using hy
theorem iv_one (L : List Iv) : ∀ u ∈ ivCells L, u.oneCell' = true := by
  intro u hu
  obtain ⟨x, _, hx⟩ := List.mem_flatMap.1 hu
  simp [ivC] at hx
  rcases hx with rfl | rfl <;> rfl
theorem iv_snoc (L : List Iv) (x : Iv) : ivCells (L ++ [x]) = ivCells L ++ [.int .i64 x.1, .int .i64 x.2] := by simp [ivCells, ivC]
theorem iv_set (K : List Iv) (y : Iv) (v : Int) : (ivCells (K ++ [y])).set (K.length * 2 + 1) (.int .i64 v) = ivCells (K ++ [(y.1, v)]) := by
  rw [iv_snoc, iv_snoc, List.set_append_right _ _ (by rw [iv_cells_len]; omega), iv_cells_len, show K.length * 2 + 1 - K.length * 2 = 1 by omega]
  rfl
theorem gr_below {w W w' : World} {row : Option Nat} (hB : Below w.heap.size w W) (hg : W.grownBy w' row) : w.grownBy w' row :=
  ⟨hg.os.trans hB.os, hg.tape.trans hB.tape, hg.output.trans hB.output, Nat.le_trans hB.size hg.size, fun k hk hne => (hg.block k (by have := hB.size; omega) hne).trans (hB.block k hk)⟩
theorem gr_drew {w w' : World} {row : Option Nat} (h : w.grownBy w' row) : w.grownBy w'.drew row := ⟨h.os, h.tape, h.output, h.size, h.block⟩
theorem gr_alloc {w w' : World} {row : Option Nat} (h : w.grownBy w' row) (o : Obj) : w.grownBy (w'.alloc o) row := ⟨h.os, h.tape, h.output, by have := h.size; simp; omega, fun k hk hne => (Below.heap_alloc _ _ _ (by have := h.size; omega)).trans (h.block k hk hne)⟩
theorem cast_not_neg (n : Nat) : (((n : Int)) < 0) = False := eq_false (by omega)
/-- A slice that reads as a list of intervals. -/
def Sl (w : World) (v : Value) (L : List Iv) : Prop := ∃ A c, v = .slice A L.length c ∧ L.length ≤ c ∧ c ≤ 9223372036854775807 ∧ (A = none → L.length = 0 ∧ c = 0) ∧ Rs w w.heap.size A (ivCells L)
theorem Sl.below {w w' : World} {v : Value} {L : List Iv} (h : Sl w v L) (hb : Below w.heap.size w w') : Sl w' v L := by
  obtain ⟨A, c, e, h1, h2, h3, h4⟩ := h
  exact ⟨A, c, e, h1, h2, h3, (h4.below hb).more hb.size⟩
theorem sl_own {w : World} {base e : Nat} {v : Value} {L : List Iv} (h : w.ownsRow base e 2 v L.length (ivCells L)) : Sl w v L := by
  obtain ⟨A, c, rfl, hnc, hR, hA⟩ := rs_own h
  refine ⟨A, c, rfl, hnc, ?_, ?_, hR⟩
  · rcases h.2 with ⟨e, _⟩ | ⟨g, cap, cur, e, _, _, _, hcap, _⟩
    · injection e with e1 e2 e3; omega
    · injection e with e1 e2 e3; unfold maxLen at hcap; omega
  · intro e
    rcases hA with ⟨_, h1, h2⟩ | ⟨g, h1, _⟩
    · exact ⟨h1, h2⟩
    · rw [e] at h1; cases h1
theorem rs_news {w W : World} {A : Option Addr} {xs : List Value} (h : Rs w w.heap.size A xs) (hb : Below w.heap.size w W) : ∀ ad, A = some ad → ∀ j u, xs[j]? = some u → W.cell? (ad.add j) = some u := by
  intro ad e j u hu
  obtain ⟨hj, he⟩ := List.getElem?_eq_some_iff.1 hu
  obtain ⟨b, off, e2, hlt, hc⟩ := h j hj
  obtain rfl : (⟨b, off, none⟩ : Addr) = ad := by rw [e2] at e; exact Option.some.inj e
  rw [add_flat, ← he]
  exact (hb.cell (p := ⟨b, off + j, none⟩) hlt).trans hc
def nC (L : List Int) : List Value := L.map (fun x => .int .i64 x)
theorem nC_len (L : List Int) : (nC L).length = L.length := List.length_map _
theorem nC_one (L : List Int) : ∀ u ∈ nC L, u.oneCell' = true := by
  intro u hu
  obtain ⟨x, _, rfl⟩ := List.mem_map.1 hu
  rfl
theorem num_at {w : World} {B : Nat} {A : Option Addr} {S : List Int} (h : Rs w B A (nC S)) (k : Nat) (hk : k < S.length) : ∃ g off, A = some ⟨g, off, none⟩ ∧ g < B ∧ w.cell? ⟨g, off + k, none⟩ = some (.int .i64 S[k]) := by
  obtain ⟨g, off, e, hg, hc⟩ := h k (by rw [nC_len]; exact hk)
  refine ⟨g, off, e, hg, hc.trans ?_⟩
  unfold nC; simp
theorem info_num : (Try.prog.info? 3).map (fun i => (i.zero, i.size, i.bytes)) = some (some (.int .i64 0), 1, 8) := by kernel_rfl
theorem own_emptyn {w : World} {B G e k : Nat} (h : w.heap[G]? = some (.cells #[] e (0, 0))) (hB : B ≤ G) : w.ownsRow B e k (.slice (some ⟨G, 0, none⟩) 0 0) 0 [] :=
  ⟨(Nat.zero_mul k).symm, .inr ⟨G, 0, #[], rfl, hB, h, Nat.le_refl _, by decide, (Nat.zero_mul k).symm, by rw [Nat.zero_mul]; rfl⟩⟩
theorem cells_one {w : World} {X : Nat} {u : Value} {e : TypeId} (h : w.heap[X]? = some (.cells #[u] e (0, 0))) : ∀ ad, some (⟨X, 0, none⟩ : Addr) = some ad → ∀ j y, [u][j]? = some y → w.cell? (ad.add j) = some y := by
  intro ad e j y hy
  cases e
  rw [add_flat, Nat.zero_add, cell_of_row w X j _ _ _ h]
  simpa using hy
/-- The cells of a row of the call's own, of single cells, as a slice in memory. -/
theorem rs_ownn {w : World} {base e n : Nat} {v : Value} {xs : List Value} (h : w.ownsRow base e 1 v n xs) : ∃ A c, v = .slice A n c ∧ n ≤ c ∧ Rs w w.heap.size A xs ∧ ((A = none ∧ n = 0 ∧ c = 0) ∨ ∃ g, A = some ⟨g, 0, none⟩ ∧ base ≤ g ∧ g < w.heap.size) := by
  have hl := h.1
  rcases h.2 with ⟨rfl, h0⟩ | ⟨g, cap, cur, rfl, hbase, hh, hnc, hcap, hsz, htake⟩
  · have h0' : n = 0 := h0
    subst h0'
    obtain rfl : xs = [] := List.eq_nil_of_length_eq_zero (by simpa using hl)
    exact ⟨none, 0, rfl, Nat.le_refl _, Rs.nil, .inl ⟨rfl, rfl, rfl⟩⟩
  · refine ⟨_, cap, rfl, hnc, fun j hj => ⟨g, 0, rfl, (Array.getElem?_eq_some_iff.1 hh).1, ?_⟩, .inr ⟨g, rfl, hbase, (Array.getElem?_eq_some_iff.1 hh).1⟩⟩
    rw [Nat.zero_add, cell_of_row w g j _ _ _ hh]
    have h2 := congrArg (fun l : List Value => l[j]?) htake
    rw [List.getElem?_take_of_lt (by rw [← hl]; exact hj), List.getElem?_eq_getElem hj] at h2
    rw [← Array.getElem?_toList]; exact h2
theorem sl_zero (w : World) : Sl w (.slice none 0 0) [] := ⟨none, 0, rfl, Nat.le_refl _, by omega, (fun _ => ⟨rfl, rfl⟩), Rs.nil⟩
theorem below_drewN {B : Nat} {w w' : World} (h : Below B w w') (n : Nat) : Below B w (w'.drewN n) := ⟨h.os, h.tape, h.output, h.size, h.block⟩
section
variable {P : Program}
/-- A call that returns a value and changes nothing, as a step of a region that draws. -/
theorem step_call {ops : Array Oper} {o : Oper} {a : Act} {w : World} {K : Act → World → Prop} {Q : Exit → Act → World → Prop} {E : Prop} (hg : o.guard = none) (f : Nat) (xs : Array Operand) (ts : Array TypeId)
    (hop : o.op = .call { callee := .value (.func f), args := xs, argTypes := ts }) (eg : ∀ args w, (callFunc f args).run P w = .ok (.enter f args) w)
    (args : Array Value) (hxs : xs.map a.eval = args) (v : Value) (h : Calls P f args w fun e w' => e = .returned v ∧ w' = w) (hK : K (a.put o.dst v) w) :
    if Region.wanted o (yielded ops a.tmps) = true then Oper.wp P o a w K Q else E := by
  have hw : Region.wanted o (yielded ops a.tmps) = true := by simp [Region.wanted, hg]
  rw [if_pos hw]
  have hrun : (execOp a.eval o).run P w = .ok (.enter f args) w := by
    subst hxs
    simp [execOp, hop, resolve, invoke, eg, go_sem]
  unfold Oper.wp
  rw [hrun, Oper.upon_enter]
  exact h.mono (by rintro e w' ⟨rfl, rfl⟩; exact hK)
end
end Go.Proofs.Ytacgomhegjilgaa
