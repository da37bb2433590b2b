/- The reference's ReadSpan (written by wip/bin/gen_rx.py). -/
import Derived.Test.YtepcihfkkeahhaaRw
import Derived.Deep.RegionLaw
import Derived.Deep.CutBlock
namespace Go.Proofs.Ytepcihfkkeahhaa
open Go.ChangeShapes Go.WideShapes Go.ChangeAt Go.RowKit En

section
variable {P : Program} {w : World}
/-- append of one element of some cells, as a step of a region that draws. -/
theorem step_append_agg {ops : Array Oper} {o : Oper} {a : Act} {K : Act → World → Prop} {Q : Exit → Act → World → Prop} {E : Prop} (hg : o.guard = none) (s x : Operand) (t : TypeId)
    (ho : o.op = .call { callee := .builtin .append, args := #[s, x], argTypes := #[t, t] })
    (base : Nat) (e : TypeId) (i : TypeInfo) (z : Value) (size bytes : Nat) (ht : P.underlying t = some (.slice e)) (hi : P.info? e = some i) (hz : i.zero = some z)
    (hsize : i.size = size) (hby : i.bytes = bytes) (hzs : z.cells.size = size) (hsz : 0 < size)
    (v : Value) (n : Nat) (xs : List Value) (hs : a.eval s = v) (hown : w.ownsRow base e size v n xs)
    (g c : Nat) (news : List Value) (T : TypeId) (hl : news.length = size) (hx : a.eval x = .slice (some ⟨g, 0, none⟩) 1 c) (hblk : w.heap[g]? = some (.cells news.toArray T (0, 0))) (h1 : ∀ u ∈ news, u.oneCell' = true)
    (hn : n ≤ 100000) (hb : bytes ≤ 1000000) (hbase : base ≤ w.heap.size)
    (h : ∀ v' w', w'.ownsRow base e size v' (n + 1) (xs ++ news) → w.grownBy w' v.ownBlock → K (a.put o.dst v') w') :
    if Region.wanted o (yielded ops a.tmps) = true then Oper.wp P o a w K Q else E := by
  have hw : Region.wanted o (yielded ops a.tmps) = true := by simp [Region.wanted, hg]
  rw [if_pos hw]
  refine wp_append_own w s x t ho base e i z size bytes ht hi hz hsize hby hzs hsz v n xs hs hown ⟨g, 0, none⟩ 1 c news hx (by omega) (fun j y hy => ?_) h1 (by unfold maxLen; omega) ?_ hbase (fun v' w' h2 h3 _ => h v' w' h2 h3)
  · rw [add_flat, Nat.zero_add, cell_of_row w g j _ _ _ hblk]
    simpa using hy
  · have := Nat.mul_le_mul (show n + 1 ≤ 100001 by omega) hb
    omega
end
/-- A block of fourteen cells, all of them stored anew. -/
theorem blk14' {w : World} {g : Nat} {t : TypeId} (a0 a1 a2 a3 a4 a5 a6 a7 a8 a9 a10 a11 a12 a13 b0 b1 b2 b3 b4 b5 b6 b7 b8 b9 b10 b11 b12 b13 : Value) (h : w.heap[g]? = some (.cells #[a0, a1, a2, a3, a4, a5, a6, a7, a8, a9, a10, a11, a12, a13] t (0, 0))) :
    ((((((((((((((w.setCell ⟨g, 0, none⟩ b0).setCell ⟨g, 1, none⟩ b1).setCell ⟨g, 2, none⟩ b2).setCell ⟨g, 3, none⟩ b3).setCell ⟨g, 4, none⟩ b4).setCell ⟨g, 5, none⟩ b5).setCell ⟨g, 6, none⟩ b6).setCell ⟨g, 7, none⟩ b7).setCell ⟨g, 8, none⟩ b8).setCell ⟨g, 9, none⟩ b9).setCell ⟨g, 10, none⟩ b10).setCell ⟨g, 11, none⟩ b11).setCell ⟨g, 12, none⟩ b12).setCell ⟨g, 13, none⟩ b13).heap[g]? = some (.cells #[b0, b1, b2, b3, b4, b5, b6, b7, b8, b9, b10, b11, b12, b13] t (0, 0)) := by
  have h1 := (blk_set (off := 13) b13 (blk_set (off := 12) b12 (blk_set (off := 11) b11 (blk_set (off := 10) b10 (blk_set (off := 9) b9 (blk_set (off := 8) b8 (blk_set (off := 7) b7 (blk_set (off := 6) b6 (blk_set (off := 5) b5 (blk_set (off := 4) b4 (blk_set (off := 3) b3 (blk_set (off := 2) b2 (blk_set (off := 1) b1 (blk_set (off := 0) b0 h))))))))))))))
  simp only [List.setIfInBounds_toArray, List.set_cons_succ, List.set_cons_zero] at h1
  exact h1
/-- What the reference's loop reads: it goes on while there is no error. -/
def rdM {α : Type} (f : St → α × St) : Nat → List α → St → List α × St
  | 0, acc, st => (acc, st)
  | n + 1, acc, st => if st.2 = 0 then rdM f n (acc ++ [(f st).1]) (f st).2 else (acc, st)
theorem rdM_stop {α : Type} (f : St → α × St) (n : Nat) (acc : List α) (st : St) (h : st.2 ≠ 0) : rdM f n acc st = (acc, st) := by
  cases n with
  | zero => rfl
  | succ n => show (if _ then _ else _) = _; rw [if_neg h]
theorem rdM_L {α : Type} (f : St → α × St) (n : Nat) (acc : List α) (st : St) (h : st.2 = 0) : (rdM f n acc st).2 = (rdL f n acc st).2 ∧ ((rdM f n acc st).2.2 = 0 → rdM f n acc st = rdL f n acc st) := by
  induction n generalizing acc st with
  | zero => exact ⟨rfl, fun _ => rfl⟩
  | succ n ih =>
    have e1 : rdM f (n + 1) acc st = rdM f n (acc ++ [(f st).1]) (f st).2 := by show (if _ then _ else _) = _; rw [if_pos h]
    by_cases h2 : (f st).2.2 = 0
    · have e2 : rdL f (n + 1) acc st = rdL f n (acc ++ [(f st).1]) (f st).2 := by show (if _ then _ else _) = _; rw [if_pos h2]
      rw [e1, e2]
      exact ih _ _ h2
    · have e2 : rdL f (n + 1) acc st = ([], (f st).2) := by show (if _ then _ else _) = _; rw [if_neg h2]
      rw [e1, e2, rdM_stop f n _ _ h2]
      exact ⟨rfl, fun h3 => absurd h3 h2⟩
/-- What the reference reads as a list, and rdList. -/
theorem rdM_list {α : Type} (f : St → α × St) (s : ByteArray) (st : St) (n : Nat) (h1 : (rdG 0 (scanZ 4096 6) s st).1 = (n : Int)) (h3 : (rdG 0 (scanZ 4096 6) s st).2.2 ≠ 0 → n = 0) :
    (rdM f n [] (rdG 0 (scanZ 4096 6) s st).2).2 = (rdList f s st).2 ∧ ((rdList f s st).2.2 = 0 → (rdM f n [] (rdG 0 (scanZ 4096 6) s st).2).1 = (rdList f s st).1) := by
  have e : rdList f s st = rdL f n [] (rdG 0 (scanZ 4096 6) s st).2 := by unfold rdList; rw [h1]; rfl
  rw [e]
  by_cases h : (rdG 0 (scanZ 4096 6) s st).2.2 = 0
  · obtain ⟨a, b⟩ := rdM_L f n [] _ h
    exact ⟨a, fun hz => by rw [b (by rw [a]; exact hz)]⟩
  · obtain rfl := h3 h
    exact ⟨rfl, fun _ => rfl⟩
theorem rdL_err {α : Type} (f : St → α × St) (s : ByteArray) (st : St) (h : st.2 ≠ 0) : (rdList f s st).2 = st := by
  have e : rdG 0 (scanZ 4096 6) s st = (0, st) := by unfold rdG; rw [if_neg h]
  unfold rdList
  rw [e]; rfl
theorem own_slice {w : World} {base e n k : Nat} {v : Value} {xs : List Value} (h : w.ownsRow base e k v n xs) : ∃ A c, v = .slice A n c := by
  rcases h.2 with ⟨rfl, h0⟩ | ⟨g, cap, cur, rfl, hbase, hh, hnc, hcap, hsz, htake⟩
  · have h0' : n = 0 := h0
    rw [h0']; exact ⟨_, _, rfl⟩
  · exact ⟨_, _, rfl⟩
theorem own_far {w w' : World} {base e k n V : Nat} {v : Value} {xs : List Value} {t : TypeId} {cs : Array Value} (h : w.heap[V]? = some (.cells cs t (0, 0))) (hown : w.ownsRow base e k v n xs) (hg : w.grownBy w' v.ownBlock) (hV : V < base) : w'.heap[V]? = some (.cells cs t (0, 0)) := by
  refine (hg.block V (Array.getElem?_eq_some_iff.1 h).1 (fun e => ?_)).trans h
  rcases hown.2 with ⟨rfl, _⟩ | ⟨g, cap, cur, rfl, hbase, _⟩
  · simp [Value.ownBlock] at e
  · simp [Value.ownBlock] at e; omega
theorem own_gq2 {w w' : World} {b base e n k : Nat} {v : Value} {xs : List Value} (hb : b < base) (hown : w.ownsRow base e k v n xs) (g : Gq w w' (qb b)) : w'.ownsRow base e k v n xs := by
  refine ⟨hown.1, ?_⟩
  rcases hown.2 with h | ⟨c, cap, cur, rfl, hbase, hh, hr⟩
  · exact Or.inl h
  · exact Or.inr ⟨c, cap, cur, rfl, hbase, (g.block c (Array.getElem?_eq_some_iff.1 hh).1 (fun e => by have : c = b := (by simpa using e); omega)).trans hh, hr⟩
theorem own_set {w : World} {V o base e n k : Nat} {v u : Value} {xs : List Value} (hV : V < base) (hown : w.ownsRow base e k v n xs) : (w.setCell ⟨V, o, none⟩ u).ownsRow base e k v n xs := by
  refine ⟨hown.1, ?_⟩
  rcases hown.2 with h | ⟨c, cap, cur, rfl, hbase, hh, hr⟩
  · exact Or.inl h
  · exact Or.inr ⟨c, cap, cur, rfl, hbase, (Deep.blk_setCell_other _ _ _ _ (show c ≠ V by omega)).trans hh, hr⟩
theorem gq_own2 {a w w' : World} {b base e n k : Nat} {v : Value} {xs : List Value} (h : Gq a w (qb b)) (hown : w.ownsRow base e k v n xs) (hg : w.grownBy w' v.ownBlock) (hb : a.heap.size ≤ base) : Gq a w' (qb b) := by
  refine ⟨hg.os.trans h.os, hg.tape.trans h.tape, hg.output.trans h.output, Nat.le_trans h.size hg.size, fun c hc hne => (hg.block c (by have := h.size; omega) (fun e => ?_)).trans (h.block c hc hne)⟩
  rcases hown.2 with ⟨rfl, _⟩ | ⟨g, cap, cur, rfl, hbase, _⟩
  · simp [Value.ownBlock] at e
  · simp [Value.ownBlock] at e; omega

/-- The cells of a slice, all of them in a block from a bound on. -/
def Rl (w : World) (lo : Nat) (A : Option Addr) (cs : List Value) : Prop := ∀ j (h : j < cs.length), ∃ b off, A = some ⟨b, off, none⟩ ∧ lo ≤ b ∧ b < w.heap.size ∧ w.cell? ⟨b, off + j, none⟩ = some cs[j]
theorem Rl.set {w : World} {lo : Nat} {A : Option Addr} {cs : List Value} {b o : Nat} {v : Value} (h : Rl w lo A cs) (hb : b < lo) : Rl (w.setCell ⟨b, o, none⟩ v) lo A cs := fun j hj => by
  obtain ⟨g, off, e, hlo, hlt, hc⟩ := h j hj
  refine ⟨g, off, e, hlo, by simp [World.setCell]; omega, ?_⟩
  rw [World.cell?_of_block (Deep.blk_setCell_other _ _ _ _ (show g ≠ b by omega))]
  exact hc
theorem Rl.rs {w : World} {lo : Nat} {A : Option Addr} {cs : List Value} (h : Rl w lo A cs) : Rs w w.heap.size A cs := fun j hj => by
  obtain ⟨g, off, e, _, hlt, hc⟩ := h j hj
  exact ⟨g, off, e, hlt, hc⟩
theorem Rl.setRow {w : World} {lo g : Nat} {A : Option Addr} {cs : List Value} {c : Array Value} (h : Rl w lo A cs) (hb : g < lo) : Rl (w.setRow g c) lo A cs := fun j hj => by
  obtain ⟨b, off, e, hlo, hlt, hc⟩ := h j hj
  refine ⟨b, off, e, hlo, by rw [setRow_size]; exact hlt, ?_⟩
  rw [cell_setRow_other _ _ _ _ (show b ≠ g by omega)]
  exact hc
theorem rr_setRow {w : World} {b g : Nat} {s : ByteArray} {st : St} {c : Array Value} (h : RR w b s st) (hb : b ≠ g) : RR (w.setRow g c) b s st :=
  ⟨(setRow_other _ _ _ _ hb).trans h.1, h.2⟩
theorem gq_setRow {a w : World} {g : Nat} {q : Option Addr} {c : Array Value} (h : Gq a w q) (hg : a.heap.size ≤ g) : Gq a (w.setRow g c) q :=
  ⟨h.os, h.tape, h.output, by rw [setRow_size]; exact h.size, fun k hk hne => (setRow_other _ _ _ _ (by omega)).trans (h.block k hk hne)⟩
theorem zero_has' (w : World) (B : Nat) : spZ.Has w B (.slice none 0 0) (.slice none 0 0) := ⟨none, 0, none, 0, rfl, rfl, Rs.nil, Rs.nil⟩
theorem gq_drew {a w : World} {q : Option Addr} (h : Gq a w q) : Gq a w.drew q := ⟨h.os, h.tape, h.output, h.size, h.block⟩
theorem rr_own2 {w w' : World} {b base e n k : Nat} {s : ByteArray} {st : St} {v : Value} {xs : List Value} (h : RR w b s st) (hb : b < base) (hown : w.ownsRow base e k v n xs) (hg : w.grownBy w' v.ownBlock) : RR w' b s st :=
  ⟨own_far h.1 hown hg hb, h.2⟩
/-- Two rows of two types of elements lie in two blocks. -/
theorem own_grow2 {w w' : World} {base e e' n n' k k' : Nat} {v v' : Value} {xs xs' : List Value} (h : w.ownsRow base e k v n xs) (h' : w.ownsRow base e' k' v' n' xs') (hg : w.grownBy w' v'.ownBlock) (hne : e ≠ e') : w'.ownsRow base e k v n xs := by
  refine ⟨h.1, ?_⟩
  rcases h.2 with h0 | ⟨c, cap, cur, rfl, hbase, hh, hr⟩
  · exact Or.inl h0
  · refine Or.inr ⟨c, cap, cur, rfl, hbase, (hg.block c (Array.getElem?_eq_some_iff.1 hh).1 (fun ee => ?_)).trans hh, hr⟩
    rcases h'.2 with ⟨rfl, _⟩ | ⟨g, cap2, cur2, rfl, hbase2, hh2, _⟩
    · simp [Value.ownBlock] at ee
    · simp [Value.ownBlock] at ee
      subst ee
      rw [hh] at hh2
      simp at hh2
      exact hne hh2.2
theorem at_ne_ref : 91 ≠ 83 := by decide
theorem own_rs {w : World} {base e n k : Nat} {v : Value} {xs : List Value} (hown : w.ownsRow base e k v n xs) : ∃ A c, v = .slice A n c ∧ Rl w base A xs := by
  rcases hown.2 with ⟨rfl, h0⟩ | ⟨g, cap, cur, rfl, hbase, hh, hnc, hcap, hsz, htake⟩
  · have hn : n = 0 := h0
    have hx : xs = [] := List.eq_nil_of_length_eq_zero (by have := hown.1; rw [hn] at this; simpa using this)
    subst hx hn
    exact ⟨none, 0, rfl, fun j hj => absurd hj (by simp)⟩
  · refine ⟨some ⟨g, 0, none⟩, cap, rfl, fun j hj => ⟨g, 0, rfl, hbase, (Array.getElem?_eq_some_iff.1 hh).1, ?_⟩⟩
    rw [Nat.zero_add, cell_of_row w g j _ _ _ hh]
    have h2 := congrArg (fun l : List Value => l[j]?) htake
    rw [List.getElem?_take_of_lt (by rw [← hown.1]; exact hj), List.getElem?_eq_getElem hj] at h2
    rw [← Array.getElem?_toList]; exact h2
set_option maxRecDepth 100000 in
set_option maxHeartbeats 8000000 in
theorem rr_span (b : Nat) (s : ByteArray) (st : St) (hs : s.size ≤ 1000000) (w : World) (h : RR w b s st) :
    Calls Try.prog 36 #[.pointer (qb b)] w fun e w' => (∃ va vl, e = .returned (.agg ((rdspan s st).1.cells va vl)) ∧ (rdspan s st).1.Has w' w'.heap.size va vl) ∧ RR w' b s (rdspan s st).2 ∧ Gq w w' (qb b) := by
  obtain ⟨ia, hia, hza0, hza1, hza2⟩ := info_parts info_attrs
  obtain ⟨ir, hir, hzr0, hzr1, hzr2⟩ := info_parts info_refs
  have Hia := Lib.hid hia
  have Hza0 := Lib.hid hza0
  have Hza1 := Lib.hid hza1
  have Hza2 := Lib.hid hza2
  have Hir := Lib.hid hir
  have Hzr0 := Lib.hid hzr0
  have Hzr1 := Lib.hid hzr1
  have Hzr2 := Lib.hid hzr2
  clear hia hza0 hza1 hza2 hir hzr0 hzr1 hzr2
  obtain ⟨x1, hx1⟩ : ∃ x, x = rdG 0 scan s st := ⟨_, rfl⟩
  obtain ⟨x2, hx2⟩ : ∃ x, x = rdG 0 scan s x1.2 := ⟨_, rfl⟩
  obtain ⟨x3, hx3⟩ : ∃ x, x = rdG 0 scan s x2.2 := ⟨_, rfl⟩
  obtain ⟨x4, hx4⟩ : ∃ x, x = rdG 0 scan s x3.2 := ⟨_, rfl⟩
  obtain ⟨x5, hx5⟩ : ∃ x, x = rdG 0 scan s x4.2 := ⟨_, rfl⟩
  obtain ⟨x6, hx6⟩ : ∃ x, x = rdG 0 scan s x5.2 := ⟨_, rfl⟩
  obtain ⟨x7, hx7⟩ : ∃ x, x = rdG ByteArray.empty (scanT 4096) s x6.2 := ⟨_, rfl⟩
  obtain ⟨x8, hx8⟩ : ∃ x, x = rdG ByteArray.empty (scanT 4096) s x7.2 := ⟨_, rfl⟩
  obtain ⟨x9, hx9⟩ : ∃ x, x = rdG ByteArray.empty (scanT 4096) s x8.2 := ⟨_, rfl⟩
  obtain ⟨x10, hx10⟩ : ∃ x, x = rdG 0 scan s x9.2 := ⟨_, rfl⟩
  obtain ⟨x11, hx11⟩ : ∃ x, x = rdG 0 scan s x10.2 := ⟨_, rfl⟩
  obtain ⟨x12, hx12⟩ : ∃ x, x = rdG false scanB s x11.2 := ⟨_, rfl⟩
  obtain ⟨x13, hx13⟩ : ∃ x, x = rdList (rdattr s) s x12.2 := ⟨_, rfl⟩
  obtain ⟨x14, hx14⟩ : ∃ x, x = rdList (rdref s) s x13.2 := ⟨_, rfl⟩
  have e0 : rdspan s st = (if x14.2.2 = 0 then ⟨x1.1, x2.1, x3.1, x4.1, x5.1, x6.1, x7.1, x8.1, x9.1, x10.1, x11.1, x12.1, x13.1, x14.1⟩ else spZ, x14.2) := by rw [hx14, hx13, hx12, hx11, hx10, hx9, hx8, hx7, hx6, hx5, hx4, hx3, hx2, hx1]; rfl
  obtain ⟨n, hn1, hn2, hn3⟩ := cnt_nat s x12.2
  obtain ⟨n2, hm1, hm2, hm3⟩ := cnt_nat s x13.2
  have hl1 := rdM_list (rdattr s) s x12.2 n hn1 hn3
  have hl2 := rdM_list (rdref s) s x13.2 n2 hm1 hm3
  rw [← hx13] at hl1
  rw [← hx14] at hl2
  have her : x14.2.2 = 0 → x13.2.2 = 0 := fun hz => by
    by_cases h9 : x13.2.2 = 0
    · exact h9
    · have := rdL_err (rdref s) s x13.2 h9
      rw [← hx14] at this
      rw [this] at hz; exact hz
  obtain ⟨⟨k1, s1⟩, hk1⟩ : ∃ k, k = rdG 0 (scanZ 4096 6) s x12.2 := ⟨_, rfl⟩
  obtain ⟨⟨k2, s2⟩, hk2⟩ : ∃ k, k = rdG 0 (scanZ 4096 6) s x13.2 := ⟨_, rfl⟩
  rw [← hk1] at hn1 hl1
  rw [← hk2] at hm1 hl2
  dsimp only at hn1 hm1 hl1 hl2
  subst hn1 hm1
  obtain ⟨M1, hM1⟩ : ∃ M, M = rdM (rdattr s) n [] s1 := ⟨_, rfl⟩
  obtain ⟨M2, hM2⟩ : ∃ M, M = rdM (rdref s) n2 [] s2 := ⟨_, rfl⟩
  rw [← hM1] at hl1
  rw [← hM2] at hl2
  have HM1 := Lib.hid hM1
  have HM2 := Lib.hid hM2
  have HL1 := Lib.hid hl1
  have HL2 := Lib.hid hl2
  have Her := Lib.hid her
  have Hk1 := Lib.hid hk1
  have Hk2 := Lib.hid hk2
  clear hn3 hm3 hl1 hl2 her hk1 hk2 hM1 hM2
  obtain ⟨R, hR⟩ : ∃ R, R = rdspan s st := ⟨_, rfl⟩
  rw [← hR] at e0 ⊢
  have hlt := h.lt
  have hbR : b ≠ w.heap.size := by omega
  have hbV : b ≠ w.heap.size + 1 := by omega
  have HbR := Lib.hid hbR
  have HbV := Lib.hid hbV
  have E0 := Lib.hid e0
  have Hx1 := Lib.hid hx1
  have Hx2 := Lib.hid hx2
  have Hx3 := Lib.hid hx3
  have Hx4 := Lib.hid hx4
  have Hx5 := Lib.hid hx5
  have Hx6 := Lib.hid hx6
  have Hx7 := Lib.hid hx7
  have Hx8 := Lib.hid hx8
  have Hx9 := Lib.hid hx9
  have Hx10 := Lib.hid hx10
  have Hx11 := Lib.hid hx11
  have Hx12 := Lib.hid hx12
  have Hx13 := Lib.hid hx13
  have Hx14 := Lib.hid hx14
  have H0 : Hid (RR ((w.alloc (.cells #[.int .i64 0, .int .i64 0, .int .i64 0, .int .i64 0, .int .i64 0, .int .i64 0, .string ⟨#[]⟩, .string ⟨#[]⟩, .string ⟨#[]⟩, .int .i64 0, .int .i64 0, .bool false, .slice none 0 0, .slice none 0 0] 54)).alloc (.cells #[.int .i64 0, .int .i64 0, .int .i64 0, .int .i64 0, .int .i64 0, .int .i64 0, .string ⟨#[]⟩, .string ⟨#[]⟩, .string ⟨#[]⟩, .int .i64 0, .int .i64 0, .bool false, .slice none 0 0, .slice none 0 0] 54)) b s st) := Lib.hid (h.below (((Below.refl _ _).alloc (Nat.le_refl _) _).alloc (by simp) _))
  have G0 : Hid (Gq w ((w.alloc (.cells #[.int .i64 0, .int .i64 0, .int .i64 0, .int .i64 0, .int .i64 0, .int .i64 0, .string ⟨#[]⟩, .string ⟨#[]⟩, .string ⟨#[]⟩, .int .i64 0, .int .i64 0, .bool false, .slice none 0 0, .slice none 0 0] 54)).alloc (.cells #[.int .i64 0, .int .i64 0, .int .i64 0, .int .i64 0, .int .i64 0, .int .i64 0, .string ⟨#[]⟩, .string ⟨#[]⟩, .string ⟨#[]⟩, .int .i64 0, .int .i64 0, .bool false, .slice none 0 0, .slice none 0 0] 54)) (qb b)) := Lib.hid (gq_two w _ _ _)
  have V0 : Hid (((w.alloc (.cells #[.int .i64 0, .int .i64 0, .int .i64 0, .int .i64 0, .int .i64 0, .int .i64 0, .string ⟨#[]⟩, .string ⟨#[]⟩, .string ⟨#[]⟩, .int .i64 0, .int .i64 0, .bool false, .slice none 0 0, .slice none 0 0] 54)).alloc (.cells #[.int .i64 0, .int .i64 0, .int .i64 0, .int .i64 0, .int .i64 0, .int .i64 0, .string ⟨#[]⟩, .string ⟨#[]⟩, .string ⟨#[]⟩, .int .i64 0, .int .i64 0, .bool false, .slice none 0 0, .slice none 0 0] 54)).heap[w.heap.size + 1]? = some (.cells #[.int .i64 0, .int .i64 0, .int .i64 0, .int .i64 0, .int .i64 0, .int .i64 0, .string ⟨#[]⟩, .string ⟨#[]⟩, .string ⟨#[]⟩, .int .i64 0, .int .i64 0, .bool false, .slice none 0 0, .slice none 0 0] 54 (0, 0))) := Lib.hid (blk_second w _ _)
  have R0 : Hid (((w.alloc (.cells #[.int .i64 0, .int .i64 0, .int .i64 0, .int .i64 0, .int .i64 0, .int .i64 0, .string ⟨#[]⟩, .string ⟨#[]⟩, .string ⟨#[]⟩, .int .i64 0, .int .i64 0, .bool false, .slice none 0 0, .slice none 0 0] 54)).alloc (.cells #[.int .i64 0, .int .i64 0, .int .i64 0, .int .i64 0, .int .i64 0, .int .i64 0, .string ⟨#[]⟩, .string ⟨#[]⟩, .string ⟨#[]⟩, .int .i64 0, .int .i64 0, .bool false, .slice none 0 0, .slice none 0 0] 54)).heap[w.heap.size]? = some (.cells #[.int .i64 0, .int .i64 0, .int .i64 0, .int .i64 0, .int .i64 0, .int .i64 0, .string ⟨#[]⟩, .string ⟨#[]⟩, .string ⟨#[]⟩, .int .i64 0, .int .i64 0, .bool false, .slice none 0 0, .slice none 0 0] 54 (0, 0))) := Lib.hid (blk_first w _ _)
  clear h e0 hR hbR hbV hx1 hx2 hx3 hx4 hx5 hx6 hx7 hx8 hx9 hx10 hx11 hx12 hx13 hx14
  go_enter Try.func36, Try.ntmps36
  go_wp2_with fail
  have hc1 := rr_number b s st hs _ H0.out
  rw [← Hx1.out] at hc1
  refine hc1.mono ?_
  rintro e w1 ⟨rfl, h1, g1⟩
  have hv := gq_keep g1 V0.out (Ne.symm HbV.out)
  have hr := gq_keep g1 R0.out (Ne.symm HbR.out)
  have d0 := cell_of_row w1 (w.heap.size + 1) 0 _ _ _ hv
  have f0 := frozen_of_row w1 (w.heap.size + 1) 0 _ _ hv
  have V1 : Hid ((w1.setCell ⟨w.heap.size + 1, 0, none⟩ (.int .i64 x1.1)).heap[w.heap.size + 1]? = some (.cells #[.int .i64 x1.1, .int .i64 0, .int .i64 0, .int .i64 0, .int .i64 0, .int .i64 0, .string ⟨#[]⟩, .string ⟨#[]⟩, .string ⟨#[]⟩, .int .i64 0, .int .i64 0, .bool false, .slice none 0 0, .slice none 0 0] 54 (0, 0))) := Lib.hid (by have := (blk_set (off := 0) (.int .i64 x1.1) hv); exact this)
  have R1 : Hid ((w1.setCell ⟨w.heap.size + 1, 0, none⟩ (.int .i64 x1.1)).heap[w.heap.size]? = some (.cells #[.int .i64 0, .int .i64 0, .int .i64 0, .int .i64 0, .int .i64 0, .int .i64 0, .string ⟨#[]⟩, .string ⟨#[]⟩, .string ⟨#[]⟩, .int .i64 0, .int .i64 0, .bool false, .slice none 0 0, .slice none 0 0] 54 (0, 0))) := Lib.hid ((Deep.blk_setCell_other _ _ _ _ (show w.heap.size ≠ w.heap.size + 1 by omega)).trans hr)
  have H1 : Hid (RR (w1.setCell ⟨w.heap.size + 1, 0, none⟩ (.int .i64 x1.1)) b s x1.2) := Lib.hid (rr_set h1 HbV.out)
  have G1 : Hid (Gq w (w1.setCell ⟨w.heap.size + 1, 0, none⟩ (.int .i64 x1.1)) (qb b)) := Lib.hid (gq_set (Gq.trans G0.out g1) (Nat.le_succ _))
  clear h1 g1 hc1 hv hr
  go_wp2_with fail
  clear d0 f0
  have hc2 := rr_number b s x1.2 hs _ H1.out
  rw [← Hx2.out] at hc2
  refine hc2.mono ?_
  rintro e w2 ⟨rfl, h2, g2⟩
  have hv := gq_keep g2 V1.out (Ne.symm HbV.out)
  have hr := gq_keep g2 R1.out (Ne.symm HbR.out)
  have d1 := cell_of_row w2 (w.heap.size + 1) 1 _ _ _ hv
  have f1 := frozen_of_row w2 (w.heap.size + 1) 1 _ _ hv
  have V2 : Hid ((w2.setCell ⟨w.heap.size + 1, 1, none⟩ (.int .i64 x2.1)).heap[w.heap.size + 1]? = some (.cells #[.int .i64 x1.1, .int .i64 x2.1, .int .i64 0, .int .i64 0, .int .i64 0, .int .i64 0, .string ⟨#[]⟩, .string ⟨#[]⟩, .string ⟨#[]⟩, .int .i64 0, .int .i64 0, .bool false, .slice none 0 0, .slice none 0 0] 54 (0, 0))) := Lib.hid (by have := (blk_set (off := 1) (.int .i64 x2.1) hv); exact this)
  have R2 : Hid ((w2.setCell ⟨w.heap.size + 1, 1, none⟩ (.int .i64 x2.1)).heap[w.heap.size]? = some (.cells #[.int .i64 0, .int .i64 0, .int .i64 0, .int .i64 0, .int .i64 0, .int .i64 0, .string ⟨#[]⟩, .string ⟨#[]⟩, .string ⟨#[]⟩, .int .i64 0, .int .i64 0, .bool false, .slice none 0 0, .slice none 0 0] 54 (0, 0))) := Lib.hid ((Deep.blk_setCell_other _ _ _ _ (show w.heap.size ≠ w.heap.size + 1 by omega)).trans hr)
  have H2 : Hid (RR (w2.setCell ⟨w.heap.size + 1, 1, none⟩ (.int .i64 x2.1)) b s x2.2) := Lib.hid (rr_set h2 HbV.out)
  have G2 : Hid (Gq w (w2.setCell ⟨w.heap.size + 1, 1, none⟩ (.int .i64 x2.1)) (qb b)) := Lib.hid (gq_set (Gq.trans G1.out g2) (Nat.le_succ _))
  clear h2 g2 hc2 hv hr
  go_wp2_with fail
  clear d1 f1
  have hc3 := rr_number b s x2.2 hs _ H2.out
  rw [← Hx3.out] at hc3
  refine hc3.mono ?_
  rintro e w3 ⟨rfl, h3, g3⟩
  have hv := gq_keep g3 V2.out (Ne.symm HbV.out)
  have hr := gq_keep g3 R2.out (Ne.symm HbR.out)
  have d2 := cell_of_row w3 (w.heap.size + 1) 2 _ _ _ hv
  have f2 := frozen_of_row w3 (w.heap.size + 1) 2 _ _ hv
  have V3 : Hid ((w3.setCell ⟨w.heap.size + 1, 2, none⟩ (.int .i64 x3.1)).heap[w.heap.size + 1]? = some (.cells #[.int .i64 x1.1, .int .i64 x2.1, .int .i64 x3.1, .int .i64 0, .int .i64 0, .int .i64 0, .string ⟨#[]⟩, .string ⟨#[]⟩, .string ⟨#[]⟩, .int .i64 0, .int .i64 0, .bool false, .slice none 0 0, .slice none 0 0] 54 (0, 0))) := Lib.hid (by have := (blk_set (off := 2) (.int .i64 x3.1) hv); exact this)
  have R3 : Hid ((w3.setCell ⟨w.heap.size + 1, 2, none⟩ (.int .i64 x3.1)).heap[w.heap.size]? = some (.cells #[.int .i64 0, .int .i64 0, .int .i64 0, .int .i64 0, .int .i64 0, .int .i64 0, .string ⟨#[]⟩, .string ⟨#[]⟩, .string ⟨#[]⟩, .int .i64 0, .int .i64 0, .bool false, .slice none 0 0, .slice none 0 0] 54 (0, 0))) := Lib.hid ((Deep.blk_setCell_other _ _ _ _ (show w.heap.size ≠ w.heap.size + 1 by omega)).trans hr)
  have H3 : Hid (RR (w3.setCell ⟨w.heap.size + 1, 2, none⟩ (.int .i64 x3.1)) b s x3.2) := Lib.hid (rr_set h3 HbV.out)
  have G3 : Hid (Gq w (w3.setCell ⟨w.heap.size + 1, 2, none⟩ (.int .i64 x3.1)) (qb b)) := Lib.hid (gq_set (Gq.trans G2.out g3) (Nat.le_succ _))
  clear h3 g3 hc3 hv hr
  go_wp2_with fail
  clear d2 f2
  have hc4 := rr_number b s x3.2 hs _ H3.out
  rw [← Hx4.out] at hc4
  refine hc4.mono ?_
  rintro e w4 ⟨rfl, h4, g4⟩
  have hv := gq_keep g4 V3.out (Ne.symm HbV.out)
  have hr := gq_keep g4 R3.out (Ne.symm HbR.out)
  have d3 := cell_of_row w4 (w.heap.size + 1) 3 _ _ _ hv
  have f3 := frozen_of_row w4 (w.heap.size + 1) 3 _ _ hv
  have V4 : Hid ((w4.setCell ⟨w.heap.size + 1, 3, none⟩ (.int .i64 x4.1)).heap[w.heap.size + 1]? = some (.cells #[.int .i64 x1.1, .int .i64 x2.1, .int .i64 x3.1, .int .i64 x4.1, .int .i64 0, .int .i64 0, .string ⟨#[]⟩, .string ⟨#[]⟩, .string ⟨#[]⟩, .int .i64 0, .int .i64 0, .bool false, .slice none 0 0, .slice none 0 0] 54 (0, 0))) := Lib.hid (by have := (blk_set (off := 3) (.int .i64 x4.1) hv); exact this)
  have R4 : Hid ((w4.setCell ⟨w.heap.size + 1, 3, none⟩ (.int .i64 x4.1)).heap[w.heap.size]? = some (.cells #[.int .i64 0, .int .i64 0, .int .i64 0, .int .i64 0, .int .i64 0, .int .i64 0, .string ⟨#[]⟩, .string ⟨#[]⟩, .string ⟨#[]⟩, .int .i64 0, .int .i64 0, .bool false, .slice none 0 0, .slice none 0 0] 54 (0, 0))) := Lib.hid ((Deep.blk_setCell_other _ _ _ _ (show w.heap.size ≠ w.heap.size + 1 by omega)).trans hr)
  have H4 : Hid (RR (w4.setCell ⟨w.heap.size + 1, 3, none⟩ (.int .i64 x4.1)) b s x4.2) := Lib.hid (rr_set h4 HbV.out)
  have G4 : Hid (Gq w (w4.setCell ⟨w.heap.size + 1, 3, none⟩ (.int .i64 x4.1)) (qb b)) := Lib.hid (gq_set (Gq.trans G3.out g4) (Nat.le_succ _))
  clear h4 g4 hc4 hv hr
  go_wp2_with fail
  clear d3 f3
  have hc5 := rr_number b s x4.2 hs _ H4.out
  rw [← Hx5.out] at hc5
  refine hc5.mono ?_
  rintro e w5 ⟨rfl, h5, g5⟩
  have hv := gq_keep g5 V4.out (Ne.symm HbV.out)
  have hr := gq_keep g5 R4.out (Ne.symm HbR.out)
  have d4 := cell_of_row w5 (w.heap.size + 1) 4 _ _ _ hv
  have f4 := frozen_of_row w5 (w.heap.size + 1) 4 _ _ hv
  have V5 : Hid ((w5.setCell ⟨w.heap.size + 1, 4, none⟩ (.int .i64 x5.1)).heap[w.heap.size + 1]? = some (.cells #[.int .i64 x1.1, .int .i64 x2.1, .int .i64 x3.1, .int .i64 x4.1, .int .i64 x5.1, .int .i64 0, .string ⟨#[]⟩, .string ⟨#[]⟩, .string ⟨#[]⟩, .int .i64 0, .int .i64 0, .bool false, .slice none 0 0, .slice none 0 0] 54 (0, 0))) := Lib.hid (by have := (blk_set (off := 4) (.int .i64 x5.1) hv); exact this)
  have R5 : Hid ((w5.setCell ⟨w.heap.size + 1, 4, none⟩ (.int .i64 x5.1)).heap[w.heap.size]? = some (.cells #[.int .i64 0, .int .i64 0, .int .i64 0, .int .i64 0, .int .i64 0, .int .i64 0, .string ⟨#[]⟩, .string ⟨#[]⟩, .string ⟨#[]⟩, .int .i64 0, .int .i64 0, .bool false, .slice none 0 0, .slice none 0 0] 54 (0, 0))) := Lib.hid ((Deep.blk_setCell_other _ _ _ _ (show w.heap.size ≠ w.heap.size + 1 by omega)).trans hr)
  have H5 : Hid (RR (w5.setCell ⟨w.heap.size + 1, 4, none⟩ (.int .i64 x5.1)) b s x5.2) := Lib.hid (rr_set h5 HbV.out)
  have G5 : Hid (Gq w (w5.setCell ⟨w.heap.size + 1, 4, none⟩ (.int .i64 x5.1)) (qb b)) := Lib.hid (gq_set (Gq.trans G4.out g5) (Nat.le_succ _))
  clear h5 g5 hc5 hv hr
  go_wp2_with fail
  clear d4 f4
  have hc6 := rr_number b s x5.2 hs _ H5.out
  rw [← Hx6.out] at hc6
  refine hc6.mono ?_
  rintro e w6 ⟨rfl, h6, g6⟩
  have hv := gq_keep g6 V5.out (Ne.symm HbV.out)
  have hr := gq_keep g6 R5.out (Ne.symm HbR.out)
  have d5 := cell_of_row w6 (w.heap.size + 1) 5 _ _ _ hv
  have f5 := frozen_of_row w6 (w.heap.size + 1) 5 _ _ hv
  have V6 : Hid ((w6.setCell ⟨w.heap.size + 1, 5, none⟩ (.int .i64 x6.1)).heap[w.heap.size + 1]? = some (.cells #[.int .i64 x1.1, .int .i64 x2.1, .int .i64 x3.1, .int .i64 x4.1, .int .i64 x5.1, .int .i64 x6.1, .string ⟨#[]⟩, .string ⟨#[]⟩, .string ⟨#[]⟩, .int .i64 0, .int .i64 0, .bool false, .slice none 0 0, .slice none 0 0] 54 (0, 0))) := Lib.hid (by have := (blk_set (off := 5) (.int .i64 x6.1) hv); exact this)
  have R6 : Hid ((w6.setCell ⟨w.heap.size + 1, 5, none⟩ (.int .i64 x6.1)).heap[w.heap.size]? = some (.cells #[.int .i64 0, .int .i64 0, .int .i64 0, .int .i64 0, .int .i64 0, .int .i64 0, .string ⟨#[]⟩, .string ⟨#[]⟩, .string ⟨#[]⟩, .int .i64 0, .int .i64 0, .bool false, .slice none 0 0, .slice none 0 0] 54 (0, 0))) := Lib.hid ((Deep.blk_setCell_other _ _ _ _ (show w.heap.size ≠ w.heap.size + 1 by omega)).trans hr)
  have H6 : Hid (RR (w6.setCell ⟨w.heap.size + 1, 5, none⟩ (.int .i64 x6.1)) b s x6.2) := Lib.hid (rr_set h6 HbV.out)
  have G6 : Hid (Gq w (w6.setCell ⟨w.heap.size + 1, 5, none⟩ (.int .i64 x6.1)) (qb b)) := Lib.hid (gq_set (Gq.trans G5.out g6) (Nat.le_succ _))
  clear h6 g6 hc6 hv hr
  go_wp2_with fail
  clear d5 f5
  have hc7 := rr_text b s x6.2 hs 4096 _ H6.out
  rw [← Hx7.out] at hc7
  refine hc7.mono ?_
  rintro e w7 ⟨rfl, h7, g7⟩
  have hv := gq_keep g7 V6.out (Ne.symm HbV.out)
  have hr := gq_keep g7 R6.out (Ne.symm HbR.out)
  have d6 := cell_of_row w7 (w.heap.size + 1) 6 _ _ _ hv
  have f6 := frozen_of_row w7 (w.heap.size + 1) 6 _ _ hv
  have V7 : Hid ((w7.setCell ⟨w.heap.size + 1, 6, none⟩ (.string x7.1)).heap[w.heap.size + 1]? = some (.cells #[.int .i64 x1.1, .int .i64 x2.1, .int .i64 x3.1, .int .i64 x4.1, .int .i64 x5.1, .int .i64 x6.1, .string x7.1, .string ⟨#[]⟩, .string ⟨#[]⟩, .int .i64 0, .int .i64 0, .bool false, .slice none 0 0, .slice none 0 0] 54 (0, 0))) := Lib.hid (by have := (blk_set (off := 6) (.string x7.1) hv); exact this)
  have R7 : Hid ((w7.setCell ⟨w.heap.size + 1, 6, none⟩ (.string x7.1)).heap[w.heap.size]? = some (.cells #[.int .i64 0, .int .i64 0, .int .i64 0, .int .i64 0, .int .i64 0, .int .i64 0, .string ⟨#[]⟩, .string ⟨#[]⟩, .string ⟨#[]⟩, .int .i64 0, .int .i64 0, .bool false, .slice none 0 0, .slice none 0 0] 54 (0, 0))) := Lib.hid ((Deep.blk_setCell_other _ _ _ _ (show w.heap.size ≠ w.heap.size + 1 by omega)).trans hr)
  have H7 : Hid (RR (w7.setCell ⟨w.heap.size + 1, 6, none⟩ (.string x7.1)) b s x7.2) := Lib.hid (rr_set h7 HbV.out)
  have G7 : Hid (Gq w (w7.setCell ⟨w.heap.size + 1, 6, none⟩ (.string x7.1)) (qb b)) := Lib.hid (gq_set (Gq.trans G6.out g7) (Nat.le_succ _))
  clear h7 g7 hc7 hv hr
  go_wp2_with fail
  clear d6 f6
  have hc8 := rr_text b s x7.2 hs 4096 _ H7.out
  rw [← Hx8.out] at hc8
  refine hc8.mono ?_
  rintro e w8 ⟨rfl, h8, g8⟩
  have hv := gq_keep g8 V7.out (Ne.symm HbV.out)
  have hr := gq_keep g8 R7.out (Ne.symm HbR.out)
  have d7 := cell_of_row w8 (w.heap.size + 1) 7 _ _ _ hv
  have f7 := frozen_of_row w8 (w.heap.size + 1) 7 _ _ hv
  have V8 : Hid ((w8.setCell ⟨w.heap.size + 1, 7, none⟩ (.string x8.1)).heap[w.heap.size + 1]? = some (.cells #[.int .i64 x1.1, .int .i64 x2.1, .int .i64 x3.1, .int .i64 x4.1, .int .i64 x5.1, .int .i64 x6.1, .string x7.1, .string x8.1, .string ⟨#[]⟩, .int .i64 0, .int .i64 0, .bool false, .slice none 0 0, .slice none 0 0] 54 (0, 0))) := Lib.hid (by have := (blk_set (off := 7) (.string x8.1) hv); exact this)
  have R8 : Hid ((w8.setCell ⟨w.heap.size + 1, 7, none⟩ (.string x8.1)).heap[w.heap.size]? = some (.cells #[.int .i64 0, .int .i64 0, .int .i64 0, .int .i64 0, .int .i64 0, .int .i64 0, .string ⟨#[]⟩, .string ⟨#[]⟩, .string ⟨#[]⟩, .int .i64 0, .int .i64 0, .bool false, .slice none 0 0, .slice none 0 0] 54 (0, 0))) := Lib.hid ((Deep.blk_setCell_other _ _ _ _ (show w.heap.size ≠ w.heap.size + 1 by omega)).trans hr)
  have H8 : Hid (RR (w8.setCell ⟨w.heap.size + 1, 7, none⟩ (.string x8.1)) b s x8.2) := Lib.hid (rr_set h8 HbV.out)
  have G8 : Hid (Gq w (w8.setCell ⟨w.heap.size + 1, 7, none⟩ (.string x8.1)) (qb b)) := Lib.hid (gq_set (Gq.trans G7.out g8) (Nat.le_succ _))
  clear h8 g8 hc8 hv hr
  go_wp2_with fail
  clear d7 f7
  have hc9 := rr_text b s x8.2 hs 4096 _ H8.out
  rw [← Hx9.out] at hc9
  refine hc9.mono ?_
  rintro e w9 ⟨rfl, h9, g9⟩
  have hv := gq_keep g9 V8.out (Ne.symm HbV.out)
  have hr := gq_keep g9 R8.out (Ne.symm HbR.out)
  have d8 := cell_of_row w9 (w.heap.size + 1) 8 _ _ _ hv
  have f8 := frozen_of_row w9 (w.heap.size + 1) 8 _ _ hv
  have V9 : Hid ((w9.setCell ⟨w.heap.size + 1, 8, none⟩ (.string x9.1)).heap[w.heap.size + 1]? = some (.cells #[.int .i64 x1.1, .int .i64 x2.1, .int .i64 x3.1, .int .i64 x4.1, .int .i64 x5.1, .int .i64 x6.1, .string x7.1, .string x8.1, .string x9.1, .int .i64 0, .int .i64 0, .bool false, .slice none 0 0, .slice none 0 0] 54 (0, 0))) := Lib.hid (by have := (blk_set (off := 8) (.string x9.1) hv); exact this)
  have R9 : Hid ((w9.setCell ⟨w.heap.size + 1, 8, none⟩ (.string x9.1)).heap[w.heap.size]? = some (.cells #[.int .i64 0, .int .i64 0, .int .i64 0, .int .i64 0, .int .i64 0, .int .i64 0, .string ⟨#[]⟩, .string ⟨#[]⟩, .string ⟨#[]⟩, .int .i64 0, .int .i64 0, .bool false, .slice none 0 0, .slice none 0 0] 54 (0, 0))) := Lib.hid ((Deep.blk_setCell_other _ _ _ _ (show w.heap.size ≠ w.heap.size + 1 by omega)).trans hr)
  have H9 : Hid (RR (w9.setCell ⟨w.heap.size + 1, 8, none⟩ (.string x9.1)) b s x9.2) := Lib.hid (rr_set h9 HbV.out)
  have G9 : Hid (Gq w (w9.setCell ⟨w.heap.size + 1, 8, none⟩ (.string x9.1)) (qb b)) := Lib.hid (gq_set (Gq.trans G8.out g9) (Nat.le_succ _))
  clear h9 g9 hc9 hv hr
  go_wp2_with fail
  clear d8 f8
  have hc10 := rr_number b s x9.2 hs _ H9.out
  rw [← Hx10.out] at hc10
  refine hc10.mono ?_
  rintro e w10 ⟨rfl, h10, g10⟩
  have hv := gq_keep g10 V9.out (Ne.symm HbV.out)
  have hr := gq_keep g10 R9.out (Ne.symm HbR.out)
  have d9 := cell_of_row w10 (w.heap.size + 1) 9 _ _ _ hv
  have f9 := frozen_of_row w10 (w.heap.size + 1) 9 _ _ hv
  have V10 : Hid ((w10.setCell ⟨w.heap.size + 1, 9, none⟩ (.int .i64 x10.1)).heap[w.heap.size + 1]? = some (.cells #[.int .i64 x1.1, .int .i64 x2.1, .int .i64 x3.1, .int .i64 x4.1, .int .i64 x5.1, .int .i64 x6.1, .string x7.1, .string x8.1, .string x9.1, .int .i64 x10.1, .int .i64 0, .bool false, .slice none 0 0, .slice none 0 0] 54 (0, 0))) := Lib.hid (by have := (blk_set (off := 9) (.int .i64 x10.1) hv); exact this)
  have R10 : Hid ((w10.setCell ⟨w.heap.size + 1, 9, none⟩ (.int .i64 x10.1)).heap[w.heap.size]? = some (.cells #[.int .i64 0, .int .i64 0, .int .i64 0, .int .i64 0, .int .i64 0, .int .i64 0, .string ⟨#[]⟩, .string ⟨#[]⟩, .string ⟨#[]⟩, .int .i64 0, .int .i64 0, .bool false, .slice none 0 0, .slice none 0 0] 54 (0, 0))) := Lib.hid ((Deep.blk_setCell_other _ _ _ _ (show w.heap.size ≠ w.heap.size + 1 by omega)).trans hr)
  have H10 : Hid (RR (w10.setCell ⟨w.heap.size + 1, 9, none⟩ (.int .i64 x10.1)) b s x10.2) := Lib.hid (rr_set h10 HbV.out)
  have G10 : Hid (Gq w (w10.setCell ⟨w.heap.size + 1, 9, none⟩ (.int .i64 x10.1)) (qb b)) := Lib.hid (gq_set (Gq.trans G9.out g10) (Nat.le_succ _))
  clear h10 g10 hc10 hv hr
  go_wp2_with fail
  clear d9 f9
  have hc11 := rr_number b s x10.2 hs _ H10.out
  rw [← Hx11.out] at hc11
  refine hc11.mono ?_
  rintro e w11 ⟨rfl, h11, g11⟩
  have hv := gq_keep g11 V10.out (Ne.symm HbV.out)
  have hr := gq_keep g11 R10.out (Ne.symm HbR.out)
  have d10 := cell_of_row w11 (w.heap.size + 1) 10 _ _ _ hv
  have f10 := frozen_of_row w11 (w.heap.size + 1) 10 _ _ hv
  have V11 : Hid ((w11.setCell ⟨w.heap.size + 1, 10, none⟩ (.int .i64 x11.1)).heap[w.heap.size + 1]? = some (.cells #[.int .i64 x1.1, .int .i64 x2.1, .int .i64 x3.1, .int .i64 x4.1, .int .i64 x5.1, .int .i64 x6.1, .string x7.1, .string x8.1, .string x9.1, .int .i64 x10.1, .int .i64 x11.1, .bool false, .slice none 0 0, .slice none 0 0] 54 (0, 0))) := Lib.hid (by have := (blk_set (off := 10) (.int .i64 x11.1) hv); exact this)
  have R11 : Hid ((w11.setCell ⟨w.heap.size + 1, 10, none⟩ (.int .i64 x11.1)).heap[w.heap.size]? = some (.cells #[.int .i64 0, .int .i64 0, .int .i64 0, .int .i64 0, .int .i64 0, .int .i64 0, .string ⟨#[]⟩, .string ⟨#[]⟩, .string ⟨#[]⟩, .int .i64 0, .int .i64 0, .bool false, .slice none 0 0, .slice none 0 0] 54 (0, 0))) := Lib.hid ((Deep.blk_setCell_other _ _ _ _ (show w.heap.size ≠ w.heap.size + 1 by omega)).trans hr)
  have H11 : Hid (RR (w11.setCell ⟨w.heap.size + 1, 10, none⟩ (.int .i64 x11.1)) b s x11.2) := Lib.hid (rr_set h11 HbV.out)
  have G11 : Hid (Gq w (w11.setCell ⟨w.heap.size + 1, 10, none⟩ (.int .i64 x11.1)) (qb b)) := Lib.hid (gq_set (Gq.trans G10.out g11) (Nat.le_succ _))
  clear h11 g11 hc11 hv hr
  go_wp2_with fail
  clear d10 f10
  have hc12 := rr_bool b s x11.2 hs _ H11.out
  rw [← Hx12.out] at hc12
  refine hc12.mono ?_
  rintro e w12 ⟨rfl, h12, g12⟩
  have hv := gq_keep g12 V11.out (Ne.symm HbV.out)
  have hr := gq_keep g12 R11.out (Ne.symm HbR.out)
  have d11 := cell_of_row w12 (w.heap.size + 1) 11 _ _ _ hv
  have f11 := frozen_of_row w12 (w.heap.size + 1) 11 _ _ hv
  have V12 : Hid ((w12.setCell ⟨w.heap.size + 1, 11, none⟩ (.bool x12.1)).heap[w.heap.size + 1]? = some (.cells #[.int .i64 x1.1, .int .i64 x2.1, .int .i64 x3.1, .int .i64 x4.1, .int .i64 x5.1, .int .i64 x6.1, .string x7.1, .string x8.1, .string x9.1, .int .i64 x10.1, .int .i64 x11.1, .bool x12.1, .slice none 0 0, .slice none 0 0] 54 (0, 0))) := Lib.hid (by have := (blk_set (off := 11) (.bool x12.1) hv); exact this)
  have R12 : Hid ((w12.setCell ⟨w.heap.size + 1, 11, none⟩ (.bool x12.1)).heap[w.heap.size]? = some (.cells #[.int .i64 0, .int .i64 0, .int .i64 0, .int .i64 0, .int .i64 0, .int .i64 0, .string ⟨#[]⟩, .string ⟨#[]⟩, .string ⟨#[]⟩, .int .i64 0, .int .i64 0, .bool false, .slice none 0 0, .slice none 0 0] 54 (0, 0))) := Lib.hid ((Deep.blk_setCell_other _ _ _ _ (show w.heap.size ≠ w.heap.size + 1 by omega)).trans hr)
  have H12 : Hid (RR (w12.setCell ⟨w.heap.size + 1, 11, none⟩ (.bool x12.1)) b s x12.2) := Lib.hid (rr_set h12 HbV.out)
  have G12 : Hid (Gq w (w12.setCell ⟨w.heap.size + 1, 11, none⟩ (.bool x12.1)) (qb b)) := Lib.hid (gq_set (Gq.trans G11.out g12) (Nat.le_succ _))
  clear h12 g12 hc12 hv hr
  go_wp2_with fail
  clear d11 f11
  have hcc := rr_count b s x12.2 hs 4096 _ H12.out
  rw [← Hk1.out] at hcc
  refine hcc.mono ?_
  rintro e wa ⟨rfl, ha, ga⟩
  have hva := gq_keep ga V12.out (Ne.symm HbV.out)
  have hra := gq_keep ga R12.out (Ne.symm HbR.out)
  have HVa := Lib.hid hva
  have HRa := Lib.hid hra
  have HHa := Lib.hid ha
  have HGa := Lib.hid (Gq.trans G12.out ga)
  clear ha ga hva hra hcc
  go_upto_block 0 with fail
  go_cut [5] from 7 (fun _ wx => ∃ (acc1 : List At) (A1 : Option Addr) (c1 : Nat), acc1.length ≤ n ∧ Hid (RR wx b s x13.2) ∧ Hid (wx.heap[w.heap.size + 1]? = some (.cells #[.int .i64 x1.1, .int .i64 x2.1, .int .i64 x3.1, .int .i64 x4.1, .int .i64 x5.1, .int .i64 x6.1, .string x7.1, .string x8.1, .string x9.1, .int .i64 x10.1, .int .i64 x11.1, .bool x12.1, .slice A1 acc1.length c1, .slice none 0 0] 54 (0, 0))) ∧ Hid (wx.heap[w.heap.size]? = some (.cells #[.int .i64 0, .int .i64 0, .int .i64 0, .int .i64 0, .int .i64 0, .int .i64 0, .string ⟨#[]⟩, .string ⟨#[]⟩, .string ⟨#[]⟩, .int .i64 0, .int .i64 0, .bool false, .slice none 0 0, .slice none 0 0] 54 (0, 0))) ∧ Hid (wx.ownsRow (w.heap.size + 2) 91 4 (.slice A1 acc1.length c1) acc1.length (atCells acc1)) ∧ Hid (Gq w wx (qb b)) ∧ Hid (x13.2.2 = 0 → x13.1 = acc1))
  case first =>
    go_wp2_with fail
    go_loopw [5] (fun iv wr => ∃ (k1 : Nat) (sk1 : St) (acc1 : List At) (u1 : Value), k1 ≤ n ∧ iv = .int .i64 (k1 : Int) ∧ Hid (RR wr b s sk1) ∧ Hid (wr.heap[w.heap.size + 1]? = some (.cells #[.int .i64 x1.1, .int .i64 x2.1, .int .i64 x3.1, .int .i64 x4.1, .int .i64 x5.1, .int .i64 x6.1, .string x7.1, .string x8.1, .string x9.1, .int .i64 x10.1, .int .i64 x11.1, .bool x12.1, u1, .slice none 0 0] 54 (0, 0))) ∧ Hid (wr.heap[w.heap.size]? = some (.cells #[.int .i64 0, .int .i64 0, .int .i64 0, .int .i64 0, .int .i64 0, .int .i64 0, .string ⟨#[]⟩, .string ⟨#[]⟩, .string ⟨#[]⟩, .int .i64 0, .int .i64 0, .bool false, .slice none 0 0, .slice none 0 0] 54 (0, 0))) ∧ Hid (wr.ownsRow (w.heap.size + 2) 91 4 u1 acc1.length (atCells acc1)) ∧ Hid (Gq w wr (qb b)) ∧ Hid (M1 = rdM (rdattr s) (n - k1) acc1 sk1) ∧ acc1.length ≤ k1) (fun iv _ => n - (intOf iv).toNat)
    case atStart => exact ⟨0, s1, [], .slice none 0 0, Nat.zero_le _, rfl, HHa, HVa, HRa, Lib.hid ⟨rfl, Or.inl ⟨rfl, rfl⟩⟩, HGa, HM1, Nat.le_refl _⟩
    case round =>
      obtain ⟨k1, sk1, acc1, u1, hkn1, rfl, HR1, HV1, HRb1, HO1, HG1, HF1, hal1⟩ := hrel
      have hgs1 : w.heap.size ≤ wr.heap.size := HG1.out.size
      obtain ⟨A1, c1, rfl⟩ := own_slice HO1.out
      by_cases hlt1 : k1 < n
      · by_cases hE : sk1.2 = 0
        · have hce := rr_attr b s sk1 hs wr.drew HR1.out
          obtain ⟨⟨x, sx⟩, hx⟩ : ∃ x, x = rdattr s sk1 := ⟨_, rfl⟩
          obtain ⟨m, hm⟩ : ∃ m, n - k1 = m + 1 := ⟨n - k1 - 1, by omega⟩
          have hmk : m = n - (k1 + 1) := by omega
          have e1 : M1 = rdM (rdattr s) (n - (k1 + 1)) (acc1 ++ [x]) sx := by
            rw [HF1.out, hm, ← hmk]; show (if sk1.2 = 0 then _ else _) = _; rw [if_pos hE, ← hx]
          rw [← hx] at hce
          have E1 := Lib.hid e1
          clear hx hm hmk e1
          obtain ⟨key, kd, tx, nn⟩ := x
          dsimp only at hce
          have dl := cell_of_row wr (w.heap.size + 1) 12 _ _ _ HV1.out
          have hki : (k1 : Int) < (n : Int) := by omega
          have hE2 := cell_of_row wr b 2 _ _ _ HR1.out.1
          rw [hE] at hE2
          have hVlt : w.heap.size + 1 < wr.heap.size := (Array.getElem?_eq_some_iff.1 HV1.out).1
          go_wp2_with fail
          go_region_law ((first
            | (refine step_append_agg rfl (.tmp 58) (.tmp 61) 51 rfl (w.heap.size + 2) 91 ia _ 4 48 Try.underlying51 Hia.out Hza0.out Hza1.out Hza2.out rfl (by decide) (.slice A1 acc1.length c1) acc1.length (atCells acc1) (by simp [Act.eval]) (O2.out.alloc _) v2.heap.size 1 [.string key, .int .i64 kd, .string tx, .int .i64 nn] 91 rfl (by simp [Act.eval]) (Deep.blk_alloc_new v2 _) (by simp [Value.oneCell']) (by omega) (by omega) (by simp; omega) ?_; intro v4 w4 hown4 hg4; obtain ⟨A4, c4, rfl⟩ := own_slice hown4; have hv4 := own_far ((Deep.blk_alloc_lt _ _ _ (Array.getElem?_eq_some_iff.1 V2.out).1).trans V2.out) (O2.out.alloc _) hg4 (show w.heap.size + 1 < w.heap.size + 2 by omega); have d4 := cell_of_row w4 (w.heap.size + 1) 12 _ _ _ hv4; have f4 := frozen_of_row w4 (w.heap.size + 1) 12 _ _ hv4; have HV4 := Lib.hid hv4; have HR4 := Lib.hid (rr_own2 (R2.out.below ((Below.refl _ _).alloc (Nat.le_refl _) _)) (show b < w.heap.size + 2 by omega) (O2.out.alloc _) hg4); have HB4 := Lib.hid (own_far ((Deep.blk_alloc_lt _ _ _ (Array.getElem?_eq_some_iff.1 B2.out).1).trans B2.out) (O2.out.alloc _) hg4 (show w.heap.size < w.heap.size + 2 by omega)); have HG4 := Lib.hid (gq_own2 (Gq.trans G2.out (Gq.of_below ((Below.refl _ _).alloc (Nat.le_refl _) _) _)) (O2.out.alloc _) hg4 (show w.heap.size ≤ w.heap.size + 2 by omega)); have HO4 := Lib.hid hown4; clear hv4 hown4 hg4)
            | (go_simp; go_at_call 61; refine hce.mono ?_; rintro e v2 ⟨rfl, h2, g2⟩; have hv2 := gq_keep g2 (show wr.drew.heap[w.heap.size + 1]? = _ from HV1.out) (Ne.symm HbV.out); have d2 := cell_of_row v2 (w.heap.size + 1) 12 _ _ _ hv2; have V2 := Lib.hid hv2; have B2 := Lib.hid (gq_keep g2 (show wr.drew.heap[w.heap.size]? = _ from HRb1.out) (Ne.symm HbR.out)); have R2 := Lib.hid h2; have G2 := Lib.hid (Gq.trans (gq_drew HG1.out) g2); have O2 := Lib.hid (own_gq2 (show b < w.heap.size + 2 by omega) (show wr.drew.ownsRow _ _ _ _ _ _ from HO1.out.drew) g2); have hlt2 : w.heap.size + 1 < v2.heap.size := (Array.getElem?_eq_some_iff.1 V2.out).1; clear hv2 h2 g2)))
          all_goals
            go_wp2_with fail
            go_roundw
            case rel =>
              refine ⟨k1 + 1, sx, acc1 ++ [⟨key, kd, tx, nn⟩], .slice A4 (acc1.length + 1) c4, by omega, by go_num, Lib.hid (rr_set HR4.out HbV.out), Lib.hid ?_, Lib.hid ((Deep.blk_setCell_other _ _ _ _ (show w.heap.size ≠ w.heap.size + 1 by omega)).trans HB4.out), Lib.hid ?_, Lib.hid (gq_set HG4.out (Nat.le_succ _)), E1, by rw [List.length_append, List.length_singleton]; omega⟩
              · have := blk_set (off := 12) (.slice A4 (acc1.length + 1) c4) HV4.out
                exact this
              · have h := own_set (V := w.heap.size + 1) (o := 12) (u := .slice A4 (acc1.length + 1) c4) (show w.heap.size + 1 < w.heap.size + 2 by omega) HO4.out
                rw [atCells_snoc, List.length_append]
                exact h
            case measure => simp [intOf]; omega
        · have E2 : Hid (M1 = (acc1, sk1)) := Lib.hid (by rw [HF1.out, rdM_stop _ _ _ _ hE])
          have hki : (k1 : Int) < (n : Int) := by omega
          have hE2 := cell_of_row wr b 2 _ _ _ HR1.out.1
          have hEb : (sk1.2 == (0 : Int)) = false := by simpa using hE
          clear HF1
          have hss : sk1 = x13.2 := by have := HL1.out.1; rw [E2.out] at this; exact this
          have He1 : Hid (x13.2.2 = 0 → x13.1 = acc1) := Lib.hid (fun h => by have := HL1.out.2 h; rw [E2.out] at this; exact this.symm)
          have HR1x : Hid (RR wr b s x13.2) := Lib.hid (by rw [← hss]; exact HR1.out)
          clear hss
          go_wp2_with fail
          go_meet
          exact ⟨acc1, A1, c1, by omega, HR1x, HV1, HRb1, HO1, HG1, He1⟩
      · have E2 : Hid (M1 = (acc1, sk1)) := Lib.hid (by obtain rfl : k1 = n := (by omega); rw [HF1.out, Nat.sub_self]; rfl)
        have hki : ¬ (k1 : Int) < (n : Int) := by omega
        clear HF1
        have hss : sk1 = x13.2 := by have := HL1.out.1; rw [E2.out] at this; exact this
        have He1 : Hid (x13.2.2 = 0 → x13.1 = acc1) := Lib.hid (fun h => by have := HL1.out.2 h; rw [E2.out] at this; exact this.symm)
        have HR1x : Hid (RR wr b s x13.2) := Lib.hid (by rw [← hss]; exact HR1.out)
        clear hss
        go_wp2_with fail
        go_meet
        exact ⟨acc1, A1, c1, by omega, HR1x, HV1, HRb1, HO1, HG1, He1⟩
  case rest =>
    obtain ⟨acc1, A1, c1, hal1, HR1, HV1, HRb1, HO1, HG1, He1⟩ := hcut
    have hcc := rr_count b s x13.2 hs 4096 wc HR1.out
    rw [← Hk2.out] at hcc
    go_wp2_with fail
    refine hcc.mono ?_
    rintro e wb ⟨rfl, hb, gb⟩
    have HVb := Lib.hid (gq_keep gb HV1.out (Ne.symm HbV.out))
    have HRb := Lib.hid (gq_keep gb HRb1.out (Ne.symm HbR.out))
    have HHb := Lib.hid hb
    have HGb := Lib.hid (Gq.trans HG1.out gb)
    have HPb := Lib.hid (own_gq2 (show b < w.heap.size + 2 by omega) HO1.out gb)
    clear hb gb hcc
    go_upto_block 2 with fail
    go_cut [6] from 7 (fun _ wx => ∃ (acc2 : List (Int × Int)) (A2 : Option Addr) (c2 : Nat) (sk2 : St), Hid (sk2 = x14.2) ∧ Hid (RR wx b s sk2) ∧ Hid (wx.heap[w.heap.size + 1]? = some (.cells #[.int .i64 x1.1, .int .i64 x2.1, .int .i64 x3.1, .int .i64 x4.1, .int .i64 x5.1, .int .i64 x6.1, .string x7.1, .string x8.1, .string x9.1, .int .i64 x10.1, .int .i64 x11.1, .bool x12.1, .slice A1 acc1.length c1, .slice A2 acc2.length c2] 54 (0, 0))) ∧ Hid (wx.heap[w.heap.size]? = some (.cells #[.int .i64 0, .int .i64 0, .int .i64 0, .int .i64 0, .int .i64 0, .int .i64 0, .string ⟨#[]⟩, .string ⟨#[]⟩, .string ⟨#[]⟩, .int .i64 0, .int .i64 0, .bool false, .slice none 0 0, .slice none 0 0] 54 (0, 0))) ∧ Hid (wx.ownsRow (w.heap.size + 2) 91 4 (.slice A1 acc1.length c1) acc1.length (atCells acc1)) ∧ Hid (wx.ownsRow (w.heap.size + 2) 83 2 (.slice A2 acc2.length c2) acc2.length (rfCells acc2)) ∧ Hid (Gq w wx (qb b)) ∧ Hid (x14.2.2 = 0 → x14.1 = acc2) ∧ acc2.length ≤ n2)
    case first =>
      go_wp2_with fail
      go_loopw [6] (fun iv wr => ∃ (k2 : Nat) (sk2 : St) (acc2 : List (Int × Int)) (u2 : Value), k2 ≤ n2 ∧ iv = .int .i64 (k2 : Int) ∧ Hid (RR wr b s sk2) ∧ Hid (wr.heap[w.heap.size + 1]? = some (.cells #[.int .i64 x1.1, .int .i64 x2.1, .int .i64 x3.1, .int .i64 x4.1, .int .i64 x5.1, .int .i64 x6.1, .string x7.1, .string x8.1, .string x9.1, .int .i64 x10.1, .int .i64 x11.1, .bool x12.1, .slice A1 acc1.length c1, u2] 54 (0, 0))) ∧ Hid (wr.heap[w.heap.size]? = some (.cells #[.int .i64 0, .int .i64 0, .int .i64 0, .int .i64 0, .int .i64 0, .int .i64 0, .string ⟨#[]⟩, .string ⟨#[]⟩, .string ⟨#[]⟩, .int .i64 0, .int .i64 0, .bool false, .slice none 0 0, .slice none 0 0] 54 (0, 0))) ∧ Hid (wr.ownsRow (w.heap.size + 2) 83 2 u2 acc2.length (rfCells acc2)) ∧ Hid (Gq w wr (qb b)) ∧ Hid (M2 = rdM (rdref s) (n2 - k2) acc2 sk2) ∧ acc2.length ≤ k2 ∧ Hid (wr.ownsRow (w.heap.size + 2) 91 4 (.slice A1 acc1.length c1) acc1.length (atCells acc1))) (fun iv _ => n2 - (intOf iv).toNat)
      case atStart => exact ⟨0, s2, [], .slice none 0 0, Nat.zero_le _, rfl, HHb, HVb, HRb, Lib.hid ⟨rfl, Or.inl ⟨rfl, rfl⟩⟩, HGb, HM2, Nat.le_refl _, HPb⟩
      case round =>
        obtain ⟨k2, sk2, acc2, u2, hkn2, rfl, HR2, HV2, HRb2, HO2, HG2, HF2, hal2, HP⟩ := hrel
        have hgs2 : w.heap.size ≤ wr.heap.size := HG2.out.size
        obtain ⟨A2, c2, rfl⟩ := own_slice HO2.out
        by_cases hlt2 : k2 < n2
        · by_cases hE3 : sk2.2 = 0
          · have hce := rr_ref b s sk2 hs wr.drew HR2.out
            obtain ⟨⟨x, sx⟩, hx⟩ : ∃ x, x = rdref s sk2 := ⟨_, rfl⟩
            obtain ⟨m, hm⟩ : ∃ m, n2 - k2 = m + 1 := ⟨n2 - k2 - 1, by omega⟩
            have hmk : m = n2 - (k2 + 1) := by omega
            have e1 : M2 = rdM (rdref s) (n2 - (k2 + 1)) (acc2 ++ [x]) sx := by
              rw [HF2.out, hm, ← hmk]; show (if sk2.2 = 0 then _ else _) = _; rw [if_pos hE3, ← hx]
            rw [← hx] at hce
            have E1 := Lib.hid e1
            clear hx hm hmk e1
            obtain ⟨xa, xb⟩ := x
            dsimp only at hce
            have dl := cell_of_row wr (w.heap.size + 1) 13 _ _ _ HV2.out
            have hki : (k2 : Int) < (n2 : Int) := by omega
            have hE2 := cell_of_row wr b 2 _ _ _ HR2.out.1
            rw [hE3] at hE2
            have hVlt : w.heap.size + 1 < wr.heap.size := (Array.getElem?_eq_some_iff.1 HV2.out).1
            go_wp2_with fail
            go_region_law ((first
              | (refine step_append_agg rfl (.tmp 79) (.tmp 82) 52 rfl (w.heap.size + 2) 83 ir _ 2 16 Try.underlying52 Hir.out Hzr0.out Hzr1.out Hzr2.out rfl (by decide) (.slice A2 acc2.length c2) acc2.length (rfCells acc2) (by simp [Act.eval]) (O2.out.alloc _) v2.heap.size 1 [.int .i64 xa, .int .i64 xb] 83 rfl (by simp [Act.eval]) (Deep.blk_alloc_new v2 _) (by simp [Value.oneCell']) (by omega) (by omega) (by simp; omega) ?_; intro v4 w4 hown4 hg4; obtain ⟨A4, c4, rfl⟩ := own_slice hown4; have hv4 := own_far ((Deep.blk_alloc_lt _ _ _ (Array.getElem?_eq_some_iff.1 V2.out).1).trans V2.out) (O2.out.alloc _) hg4 (show w.heap.size + 1 < w.heap.size + 2 by omega); have d4 := cell_of_row w4 (w.heap.size + 1) 13 _ _ _ hv4; have f4 := frozen_of_row w4 (w.heap.size + 1) 13 _ _ hv4; have HV4 := Lib.hid hv4; have HR4 := Lib.hid (rr_own2 (R2.out.below ((Below.refl _ _).alloc (Nat.le_refl _) _)) (show b < w.heap.size + 2 by omega) (O2.out.alloc _) hg4); have HB4 := Lib.hid (own_far ((Deep.blk_alloc_lt _ _ _ (Array.getElem?_eq_some_iff.1 B2.out).1).trans B2.out) (O2.out.alloc _) hg4 (show w.heap.size < w.heap.size + 2 by omega)); have HG4 := Lib.hid (gq_own2 (Gq.trans G2.out (Gq.of_below ((Below.refl _ _).alloc (Nat.le_refl _) _) _)) (O2.out.alloc _) hg4 (show w.heap.size ≤ w.heap.size + 2 by omega)); have HO4 := Lib.hid hown4; have HP4 := Lib.hid (own_grow2 (P2.out.alloc _) (O2.out.alloc _) hg4 at_ne_ref); clear hv4 hown4 hg4)
              | (go_simp; go_at_call 62; refine hce.mono ?_; rintro e v2 ⟨rfl, h2, g2⟩; have hv2 := gq_keep g2 (show wr.drew.heap[w.heap.size + 1]? = _ from HV2.out) (Ne.symm HbV.out); have d2 := cell_of_row v2 (w.heap.size + 1) 13 _ _ _ hv2; have V2 := Lib.hid hv2; have B2 := Lib.hid (gq_keep g2 (show wr.drew.heap[w.heap.size]? = _ from HRb2.out) (Ne.symm HbR.out)); have R2 := Lib.hid h2; have G2 := Lib.hid (Gq.trans (gq_drew HG2.out) g2); have O2 := Lib.hid (own_gq2 (show b < w.heap.size + 2 by omega) (show wr.drew.ownsRow _ _ _ _ _ _ from HO2.out.drew) g2); have hlt2 : w.heap.size + 1 < v2.heap.size := (Array.getElem?_eq_some_iff.1 V2.out).1; have P2 := Lib.hid (own_gq2 (show b < w.heap.size + 2 by omega) (show wr.drew.ownsRow _ _ _ _ _ _ from HP.out.drew) g2); clear hv2 h2 g2)))
            all_goals
              go_wp2_with fail
              go_roundw
              case rel =>
                refine ⟨k2 + 1, sx, acc2 ++ [(xa, xb)], .slice A4 (acc2.length + 1) c4, by omega, by go_num, Lib.hid (rr_set HR4.out HbV.out), Lib.hid ?_, Lib.hid ((Deep.blk_setCell_other _ _ _ _ (show w.heap.size ≠ w.heap.size + 1 by omega)).trans HB4.out), Lib.hid ?_, Lib.hid (gq_set HG4.out (Nat.le_succ _)), E1, by rw [List.length_append, List.length_singleton]; omega, Lib.hid (own_set (show w.heap.size + 1 < w.heap.size + 2 by omega) HP4.out)⟩
                · have := blk_set (off := 13) (.slice A4 (acc2.length + 1) c4) HV4.out
                  exact this
                · have h := own_set (V := w.heap.size + 1) (o := 13) (u := .slice A4 (acc2.length + 1) c4) (show w.heap.size + 1 < w.heap.size + 2 by omega) HO4.out
                  rw [rfCells_snoc, List.length_append]
                  exact h
              case measure => simp [intOf]; omega
          · have E4 : Hid (M2 = (acc2, sk2)) := Lib.hid (by rw [HF2.out, rdM_stop _ _ _ _ hE3])
            have hki2 : (k2 : Int) < (n2 : Int) := by omega
            have hE4 : wr.cell? ⟨b, 2, none⟩ = some (.int .i64 sk2.2) := cell_of_row wr b 2 _ _ _ HR2.out.1
            have hEb2 : (sk2.2 == (0 : Int)) = false := by simpa using hE3
            have hs14 : sk2 = x14.2 := by have := HL2.out.1; rw [E4.out] at this; exact this
            have Hs14 := Lib.hid hs14
            clear hs14 HF2
            have He2 : Hid (x14.2.2 = 0 → x14.1 = acc2) := Lib.hid (fun h => by have := HL2.out.2 h; rw [E4.out] at this; exact this.symm)
            go_wp2_with fail
            go_meet
            exact ⟨acc2, A2, c2, sk2, Hs14, HR2, HV2, HRb2, HP, HO2, HG2, He2, by omega⟩
        · have E4 : Hid (M2 = (acc2, sk2)) := Lib.hid (by obtain rfl : k2 = n2 := (by omega); rw [HF2.out, Nat.sub_self]; rfl)
          have hki2 : ¬ (k2 : Int) < (n2 : Int) := by omega
          have hE4 : wr.cell? ⟨b, 2, none⟩ = some (.int .i64 sk2.2) := cell_of_row wr b 2 _ _ _ HR2.out.1
          have hs14 : sk2 = x14.2 := by have := HL2.out.1; rw [E4.out] at this; exact this
          have Hs14 := Lib.hid hs14
          clear hs14 HF2
          have He2 : Hid (x14.2.2 = 0 → x14.1 = acc2) := Lib.hid (fun h => by have := HL2.out.2 h; rw [E4.out] at this; exact this.symm)
          go_wp2_with fail
          go_meet
          exact ⟨acc2, A2, c2, sk2, Hs14, HR2, HV2, HRb2, HP, HO2, HG2, He2, by omega⟩
    case rest =>
      obtain ⟨acc2, A2, c2, sk2, Hs14, HR2, HV2, HRb2, HP, HO2, HG2, He2, hal2⟩ := hcut
      have hgs2 : w.heap.size ≤ wc.heap.size := HG2.out.size
      have hE4 : wc.cell? ⟨b, 2, none⟩ = some (.int .i64 sk2.2) := cell_of_row wc b 2 _ _ _ HR2.out.1
      clear Hx1 Hx2 Hx3 Hx4 Hx5 Hx6 Hx7 Hx8 Hx9 Hx10 Hx11 Hx12 Hx13 Hx14 V0 R0 H0 G0 V1 R1 H1 G1 V2 R2 H2 G2 V3 R3 H3 G3 V4 R4 H4 G4 V5 R5 H5 G5 V6 R6 H6 G6 V7 R7 H7 G7 V8 R8 H8 G8 V9 R9 H9 G9 V10 R10 H10 G10 V11 R11 H11 G11 V12 R12 H12 G12 HVa HRa HHa HGa HR1 HV1 HRb1 HO1 HG1 HVb HRb HHb HGb HPb HM1 HM2 HL1 HL2 Hk1 Hk2 Hia Hza0 Hza1 Hza2 Hir Hzr0 Hzr1 Hzr2
      have d0 : wc.cell? ⟨w.heap.size + 1, 0, none⟩ = some (.int .i64 x1.1) := cell_of_row wc (w.heap.size + 1) 0 _ _ _ HV2.out
      have z0 : wc.cell? ⟨w.heap.size, 0, none⟩ = some (.int .i64 0) := cell_of_row wc w.heap.size 0 _ _ _ HRb2.out
      have y0 := frozen_of_row wc w.heap.size 0 _ _ HRb2.out
      have d1 : wc.cell? ⟨w.heap.size + 1, 1, none⟩ = some (.int .i64 x2.1) := cell_of_row wc (w.heap.size + 1) 1 _ _ _ HV2.out
      have z1 : wc.cell? ⟨w.heap.size, 1, none⟩ = some (.int .i64 0) := cell_of_row wc w.heap.size 1 _ _ _ HRb2.out
      have y1 := frozen_of_row wc w.heap.size 1 _ _ HRb2.out
      have d2 : wc.cell? ⟨w.heap.size + 1, 2, none⟩ = some (.int .i64 x3.1) := cell_of_row wc (w.heap.size + 1) 2 _ _ _ HV2.out
      have z2 : wc.cell? ⟨w.heap.size, 2, none⟩ = some (.int .i64 0) := cell_of_row wc w.heap.size 2 _ _ _ HRb2.out
      have y2 := frozen_of_row wc w.heap.size 2 _ _ HRb2.out
      have d3 : wc.cell? ⟨w.heap.size + 1, 3, none⟩ = some (.int .i64 x4.1) := cell_of_row wc (w.heap.size + 1) 3 _ _ _ HV2.out
      have z3 : wc.cell? ⟨w.heap.size, 3, none⟩ = some (.int .i64 0) := cell_of_row wc w.heap.size 3 _ _ _ HRb2.out
      have y3 := frozen_of_row wc w.heap.size 3 _ _ HRb2.out
      have d4 : wc.cell? ⟨w.heap.size + 1, 4, none⟩ = some (.int .i64 x5.1) := cell_of_row wc (w.heap.size + 1) 4 _ _ _ HV2.out
      have z4 : wc.cell? ⟨w.heap.size, 4, none⟩ = some (.int .i64 0) := cell_of_row wc w.heap.size 4 _ _ _ HRb2.out
      have y4 := frozen_of_row wc w.heap.size 4 _ _ HRb2.out
      have d5 : wc.cell? ⟨w.heap.size + 1, 5, none⟩ = some (.int .i64 x6.1) := cell_of_row wc (w.heap.size + 1) 5 _ _ _ HV2.out
      have z5 : wc.cell? ⟨w.heap.size, 5, none⟩ = some (.int .i64 0) := cell_of_row wc w.heap.size 5 _ _ _ HRb2.out
      have y5 := frozen_of_row wc w.heap.size 5 _ _ HRb2.out
      have d6 : wc.cell? ⟨w.heap.size + 1, 6, none⟩ = some (.string x7.1) := cell_of_row wc (w.heap.size + 1) 6 _ _ _ HV2.out
      have z6 : wc.cell? ⟨w.heap.size, 6, none⟩ = some (.string ⟨#[]⟩) := cell_of_row wc w.heap.size 6 _ _ _ HRb2.out
      have y6 := frozen_of_row wc w.heap.size 6 _ _ HRb2.out
      have d7 : wc.cell? ⟨w.heap.size + 1, 7, none⟩ = some (.string x8.1) := cell_of_row wc (w.heap.size + 1) 7 _ _ _ HV2.out
      have z7 : wc.cell? ⟨w.heap.size, 7, none⟩ = some (.string ⟨#[]⟩) := cell_of_row wc w.heap.size 7 _ _ _ HRb2.out
      have y7 := frozen_of_row wc w.heap.size 7 _ _ HRb2.out
      have d8 : wc.cell? ⟨w.heap.size + 1, 8, none⟩ = some (.string x9.1) := cell_of_row wc (w.heap.size + 1) 8 _ _ _ HV2.out
      have z8 : wc.cell? ⟨w.heap.size, 8, none⟩ = some (.string ⟨#[]⟩) := cell_of_row wc w.heap.size 8 _ _ _ HRb2.out
      have y8 := frozen_of_row wc w.heap.size 8 _ _ HRb2.out
      have d9 : wc.cell? ⟨w.heap.size + 1, 9, none⟩ = some (.int .i64 x10.1) := cell_of_row wc (w.heap.size + 1) 9 _ _ _ HV2.out
      have z9 : wc.cell? ⟨w.heap.size, 9, none⟩ = some (.int .i64 0) := cell_of_row wc w.heap.size 9 _ _ _ HRb2.out
      have y9 := frozen_of_row wc w.heap.size 9 _ _ HRb2.out
      have d10 : wc.cell? ⟨w.heap.size + 1, 10, none⟩ = some (.int .i64 x11.1) := cell_of_row wc (w.heap.size + 1) 10 _ _ _ HV2.out
      have z10 : wc.cell? ⟨w.heap.size, 10, none⟩ = some (.int .i64 0) := cell_of_row wc w.heap.size 10 _ _ _ HRb2.out
      have y10 := frozen_of_row wc w.heap.size 10 _ _ HRb2.out
      have d11 : wc.cell? ⟨w.heap.size + 1, 11, none⟩ = some (.bool x12.1) := cell_of_row wc (w.heap.size + 1) 11 _ _ _ HV2.out
      have z11 : wc.cell? ⟨w.heap.size, 11, none⟩ = some (.bool false) := cell_of_row wc w.heap.size 11 _ _ _ HRb2.out
      have y11 := frozen_of_row wc w.heap.size 11 _ _ HRb2.out
      have d12 : wc.cell? ⟨w.heap.size + 1, 12, none⟩ = some (.slice A1 acc1.length c1) := cell_of_row wc (w.heap.size + 1) 12 _ _ _ HV2.out
      have z12 : wc.cell? ⟨w.heap.size, 12, none⟩ = some (.slice none 0 0) := cell_of_row wc w.heap.size 12 _ _ _ HRb2.out
      have y12 := frozen_of_row wc w.heap.size 12 _ _ HRb2.out
      have d13 : wc.cell? ⟨w.heap.size + 1, 13, none⟩ = some (.slice A2 acc2.length c2) := cell_of_row wc (w.heap.size + 1) 13 _ _ _ HV2.out
      have z13 : wc.cell? ⟨w.heap.size, 13, none⟩ = some (.slice none 0 0) := cell_of_row wc w.heap.size 13 _ _ _ HRb2.out
      have y13 := frozen_of_row wc w.heap.size 13 _ _ HRb2.out
      by_cases hz : sk2.2 = 0
      · have hz14 : x14.2.2 = 0 := by rw [← Hs14.out]; exact hz
        have ea : x13.1 = acc1 := He1.out (Her.out hz14)
        have er : x14.1 = acc2 := He2.out hz14
        have E5 : Hid (R = (⟨x1.1, x2.1, x3.1, x4.1, x5.1, x6.1, x7.1, x8.1, x9.1, x10.1, x11.1, x12.1, acc1, acc2⟩, sk2)) := Lib.hid (by rw [E0.out, if_pos hz14, ea, er, Hs14.out])
        clear ea er hz14
        have hz2 : (sk2.2 != (0 : Int)) = false := by simpa using hz
        go_wp2_with fail
        refine bodyPost_ret (v := .agg #[.int .i64 x1.1, .int .i64 x2.1, .int .i64 x3.1, .int .i64 x4.1, .int .i64 x5.1, .int .i64 x6.1, .string x7.1, .string x8.1, .string x9.1, .int .i64 x10.1, .int .i64 x11.1, .bool x12.1, .slice A1 acc1.length c1, .slice A2 acc2.length c2]) (results_cell_row rfl _ _ w.heap.size 54 #[.int .i64 x1.1, .int .i64 x2.1, .int .i64 x3.1, .int .i64 x4.1, .int .i64 x5.1, .int .i64 x6.1, .string x7.1, .string x8.1, .string x9.1, .int .i64 x10.1, .int .i64 x11.1, .bool x12.1, .slice A1 acc1.length c1, .slice A2 acc2.length c2] (0, 0) _ rfl (blk14' _ _ _ _ _ _ _ _ _ _ _ _ _ _ _ _ _ _ _ _ _ _ _ _ _ _ _ _ HRb2.out) Try.underlying54 rfl (by kernel_rfl)) rfl ⟨⟨.slice A1 acc1.length c1, .slice A2 acc2.length c2, ?_, ?_⟩, ?_, ?_⟩
        · rw [E5.out]; rfl
        · rw [E5.out]
          obtain ⟨A1', c1', e1, q1⟩ := own_rs HP.out
          obtain ⟨A2', c2', e2, q2⟩ := own_rs HO2.out
          refine ⟨A1', c1', A2', c2', e1, e2, ?_, ?_⟩
          · exact Rl.rs (Rl.set (Rl.set (Rl.set (Rl.set (Rl.set (Rl.set (Rl.set (Rl.set (Rl.set (Rl.set (Rl.set (Rl.set (Rl.set (Rl.set (q1) (show w.heap.size < w.heap.size + 2 by omega)) (show w.heap.size < w.heap.size + 2 by omega)) (show w.heap.size < w.heap.size + 2 by omega)) (show w.heap.size < w.heap.size + 2 by omega)) (show w.heap.size < w.heap.size + 2 by omega)) (show w.heap.size < w.heap.size + 2 by omega)) (show w.heap.size < w.heap.size + 2 by omega)) (show w.heap.size < w.heap.size + 2 by omega)) (show w.heap.size < w.heap.size + 2 by omega)) (show w.heap.size < w.heap.size + 2 by omega)) (show w.heap.size < w.heap.size + 2 by omega)) (show w.heap.size < w.heap.size + 2 by omega)) (show w.heap.size < w.heap.size + 2 by omega)) (show w.heap.size < w.heap.size + 2 by omega))
          · exact Rl.rs (Rl.set (Rl.set (Rl.set (Rl.set (Rl.set (Rl.set (Rl.set (Rl.set (Rl.set (Rl.set (Rl.set (Rl.set (Rl.set (Rl.set (q2) (show w.heap.size < w.heap.size + 2 by omega)) (show w.heap.size < w.heap.size + 2 by omega)) (show w.heap.size < w.heap.size + 2 by omega)) (show w.heap.size < w.heap.size + 2 by omega)) (show w.heap.size < w.heap.size + 2 by omega)) (show w.heap.size < w.heap.size + 2 by omega)) (show w.heap.size < w.heap.size + 2 by omega)) (show w.heap.size < w.heap.size + 2 by omega)) (show w.heap.size < w.heap.size + 2 by omega)) (show w.heap.size < w.heap.size + 2 by omega)) (show w.heap.size < w.heap.size + 2 by omega)) (show w.heap.size < w.heap.size + 2 by omega)) (show w.heap.size < w.heap.size + 2 by omega)) (show w.heap.size < w.heap.size + 2 by omega))
        · rw [E5.out]
          exact (rr_set (rr_set (rr_set (rr_set (rr_set (rr_set (rr_set (rr_set (rr_set (rr_set (rr_set (rr_set (rr_set (rr_set HR2.out HbR.out) HbR.out) HbR.out) HbR.out) HbR.out) HbR.out) HbR.out) HbR.out) HbR.out) HbR.out) HbR.out) HbR.out) HbR.out) HbR.out)
        · exact (gq_set (gq_set (gq_set (gq_set (gq_set (gq_set (gq_set (gq_set (gq_set (gq_set (gq_set (gq_set (gq_set (gq_set HG2.out (Nat.le_refl _)) (Nat.le_refl _)) (Nat.le_refl _)) (Nat.le_refl _)) (Nat.le_refl _)) (Nat.le_refl _)) (Nat.le_refl _)) (Nat.le_refl _)) (Nat.le_refl _)) (Nat.le_refl _)) (Nat.le_refl _)) (Nat.le_refl _)) (Nat.le_refl _)) (Nat.le_refl _))
      · have hz14 : x14.2.2 ≠ 0 := by rw [← Hs14.out]; exact hz
        have E5 : Hid (R = (spZ, sk2)) := Lib.hid (by rw [E0.out, if_neg hz14, Hs14.out])
        clear hz14
        have hz2 : (sk2.2 != (0 : Int)) = true := by simpa using hz
        go_wp2_with fail
        refine bodyPost_ret (v := .agg #[.int .i64 0, .int .i64 0, .int .i64 0, .int .i64 0, .int .i64 0, .int .i64 0, .string ⟨#[]⟩, .string ⟨#[]⟩, .string ⟨#[]⟩, .int .i64 0, .int .i64 0, .bool false, .slice none 0 0, .slice none 0 0]) (results_cell_row rfl _ _ w.heap.size 54 #[.int .i64 0, .int .i64 0, .int .i64 0, .int .i64 0, .int .i64 0, .int .i64 0, .string ⟨#[]⟩, .string ⟨#[]⟩, .string ⟨#[]⟩, .int .i64 0, .int .i64 0, .bool false, .slice none 0 0, .slice none 0 0] (0, 0) _ rfl (blk14' _ _ _ _ _ _ _ _ _ _ _ _ _ _ _ _ _ _ _ _ _ _ _ _ _ _ _ _ HRb2.out) Try.underlying54 rfl (by kernel_rfl)) rfl ⟨⟨.slice none 0 0, .slice none 0 0, ?_, ?_⟩, ?_, ?_⟩
        · rw [E5.out]; rfl
        · rw [E5.out]
          exact zero_has' _ _
        · rw [E5.out]
          exact (rr_set (rr_set (rr_set (rr_set (rr_set (rr_set (rr_set (rr_set (rr_set (rr_set (rr_set (rr_set (rr_set (rr_set HR2.out HbR.out) HbR.out) HbR.out) HbR.out) HbR.out) HbR.out) HbR.out) HbR.out) HbR.out) HbR.out) HbR.out) HbR.out) HbR.out) HbR.out)
        · exact (gq_set (gq_set (gq_set (gq_set (gq_set (gq_set (gq_set (gq_set (gq_set (gq_set (gq_set (gq_set (gq_set (gq_set HG2.out (Nat.le_refl _)) (Nat.le_refl _)) (Nat.le_refl _)) (Nat.le_refl _)) (Nat.le_refl _)) (Nat.le_refl _)) (Nat.le_refl _)) (Nat.le_refl _)) (Nat.le_refl _)) (Nat.le_refl _)) (Nat.le_refl _)) (Nat.le_refl _)) (Nat.le_refl _)) (Nat.le_refl _))
end Go.Proofs.Ytepcihfkkeahhaa
