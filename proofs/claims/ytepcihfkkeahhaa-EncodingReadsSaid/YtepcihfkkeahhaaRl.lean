/- readList of attributes, of references (written by wip/bin/gen_rl.py). -/
import Derived.Test.YtepcihfkkeahhaaRv
namespace Go.Proofs.Ytepcihfkkeahhaa
open Go.ChangeShapes Go.WideShapes Go.ChangeAt Go.RowKit En

section
variable {P : Program} {w : World}
/-- append of one element of some cells, which lies in a block of its own, to a row of the call's own. -/
theorem wpList_append_agg {ops : Array Oper} {rest : List Oper} {o : Oper} {a : Act} {Q : Exit → Act → World → Prop} (hg : o.guard = none) (s x : Operand) (t : TypeId)
    (ho : o.op = .call { callee := .builtin .append, args := #[s, x], argTypes := #[t, t] })
    (base : Nat) (e : TypeId) (i : TypeInfo) (z : Value) (size bytes : Nat) (ht : P.underlying t = some (.slice e)) (hi : P.info? e = some i) (hz : i.zero = some z)
    (hsize : i.size = size) (hby : i.bytes = bytes) (hzs : z.cells.size = size) (hsz : 0 < size)
    (v : Value) (n : Nat) (xs : List Value) (hs : a.eval s = v) (hown : w.ownsRow base e size v n xs)
    (g c : Nat) (news : List Value) (T : TypeId) (hl : news.length = size) (hx : a.eval x = .slice (some ⟨g, 0, none⟩) 1 c) (hblk : w.heap[g]? = some (.cells news.toArray T (0, 0))) (h1 : ∀ u ∈ news, u.oneCell' = true)
    (hn : n ≤ 100000) (hb : bytes ≤ 1000000) (hbase : base ≤ w.heap.size)
    (h : ∀ v' w', w'.ownsRow base e size v' (n + 1) (xs ++ news) → w.grownBy w' v.ownBlock → wpList P ops Q rest (a.put o.dst v') w') : wpList P ops Q (o :: rest) a w := by
  refine wpList_append_own w hg s x t ho base e i z size bytes ht hi hz hsize hby hzs hsz v n xs hs hown ⟨g, 0, none⟩ 1 c news hx (by omega) (fun j y hy => ?_) h1 (by unfold maxLen; omega) ?_ hbase (fun v' w' h2 h3 _ => h v' w' h2 h3)
  · rw [add_flat, Nat.zero_add, cell_of_row w g j _ _ _ hblk]
    simpa using hy
  · have := Nat.mul_le_mul (show n + 1 ≤ 100001 by omega) hb
    omega
end
/-- What one element after another reads, or nothing after an error. -/
def rdL {α : Type} (f : St → α × St) : Nat → List α → St → List α × St
  | 0, acc, st => (acc, st)
  | n + 1, acc, st => if (f st).2.2 = 0 then rdL f n (acc ++ [(f st).1]) (f st).2 else ([], (f st).2)
def rdList {α : Type} (f : St → α × St) (s : ByteArray) (st : St) : List α × St :=
  rdL f (rdG 0 (scanZ 4096 6) s st).1.toNat [] (rdG 0 (scanZ 4096 6) s st).2
theorem cnt_nat (s : ByteArray) (st : St) : ∃ n : Nat, (rdG 0 (scanZ 4096 6) s st).1 = (n : Int) ∧ n ≤ 4096 ∧ ((rdG 0 (scanZ 4096 6) s st).2.2 ≠ 0 → n = 0) := by
  unfold rdG
  by_cases h : st.2 = 0
  · rw [if_pos h]
    by_cases h2 : (scanZ 4096 6 (s.data.toList.drop st.1)).2.2 = 0
    · rw [if_pos h2]
      obtain ⟨n, k, e, h3, h4, _⟩ := scanZ_ok 4096 6 _ (by decide) h2
      exact ⟨n, by rw [e], by omega, fun hc => absurd rfl hc⟩
    · rw [if_neg h2]; exact ⟨0, rfl, by omega, fun _ => rfl⟩
  · rw [if_neg h]; exact ⟨0, rfl, by omega, fun _ => rfl⟩
/-- A block that holds no spans. -/
def NS (w : World) (b : Nat) : Prop := ∀ cs x, w.heap[b]? ≠ some (.cells cs 54 x)
/-- The cells of a slice, none of which lies in the block of a Reader, or below a bound, or beside spans. -/
def Rq (w : World) (lo : Nat) (q : Option Addr) (A : Option Addr) (cs : List Value) : Prop := ∀ j (h : j < cs.length), ∃ b off, A = some ⟨b, off, none⟩ ∧ lo ≤ b ∧ b < w.heap.size ∧ q.map Addr.block ≠ some b ∧ NS w b ∧ w.cell? ⟨b, off + j, none⟩ = some cs[j]
theorem Rq.gq {w w' : World} {lo : Nat} {q : Option Addr} {A : Option Addr} {cs : List Value} (h : Rq w lo q A cs) (g : Gq w w' q) : Rq w' lo q A cs := fun j hj => by
  obtain ⟨b, off, e, hlo, hlt, hne, hns, hc⟩ := h j hj
  refine ⟨b, off, e, hlo, Nat.lt_of_lt_of_le hlt g.size, hne, fun cs x => by rw [g.block b hlt (fun e => hne e.symm)]; exact hns cs x, ?_⟩
  rw [World.cell?_of_block (g.block b hlt (fun e => hne e.symm))]
  exact hc
theorem Rq.rs {w : World} {lo : Nat} {q : Option Addr} {A : Option Addr} {cs : List Value} (h : Rq w lo q A cs) : Rs w w.heap.size A cs := fun j hj => by
  obtain ⟨b, off, e, _, hlt, _, _, hc⟩ := h j hj
  exact ⟨b, off, e, hlt, hc⟩
theorem Rq.set {w : World} {lo : Nat} {q : Option Addr} {A : Option Addr} {cs : List Value} {b o : Nat} {v : Value} (h : Rq w lo q A cs) (hb : b < lo) : Rq (w.setCell ⟨b, o, none⟩ v) lo q A cs := fun j hj => by
  obtain ⟨g, off, e, hlo, hlt, hne, hns, hc⟩ := h j hj
  refine ⟨g, off, e, hlo, by simp [World.setCell]; omega, hne, fun cs x => by rw [Deep.blk_setCell_other _ _ _ _ (show g ≠ b by omega)]; exact hns cs x, ?_⟩
  rw [World.cell?_of_block (Deep.blk_setCell_other _ _ _ _ (show g ≠ b by omega))]
  exact hc
theorem Rq.low {w : World} {lo lo' : Nat} {q : Option Addr} {A : Option Addr} {cs : List Value} (h : Rq w lo q A cs) (hl : lo' ≤ lo) : Rq w lo' q A cs := fun j hj => by
  obtain ⟨g, off, e, hlo, hr⟩ := h j hj
  exact ⟨g, off, e, by omega, hr⟩
theorem Rq.nil {w : World} {lo : Nat} {q A : Option Addr} : Rq w lo q A [] := fun j hj => absurd hj (by simp)
theorem gq_own {a w w' : World} {q : Option Addr} {e n k : Nat} {v : Value} {xs : List Value} (h : Gq a w q) (hown : w.ownsRow a.heap.size e k v n xs) (hg : w.grownBy w' v.ownBlock) : Gq a w' q := by
  refine ⟨hg.os.trans h.os, hg.tape.trans h.tape, hg.output.trans h.output, Nat.le_trans h.size hg.size, fun b hb hne => (hg.block b (by have := h.size; omega) (fun e => ?_)).trans (h.block b hb hne)⟩
  rcases hown.2 with ⟨rfl, _⟩ | ⟨g, cap, cur, rfl, hbase, _⟩
  · simp [Value.ownBlock] at e
  · simp [Value.ownBlock] at e; omega
theorem rp_own {a w w' : World} {q : Option Addr} {s : ByteArray} {st : St} {e n k : Nat} {v : Value} {xs : List Value} (h : RP w q s st) (hq : ∀ g, q.map Addr.block = some g → g < a.heap.size) (hown : w.ownsRow a.heap.size e k v n xs) (hg : w.grownBy w' v.ownBlock) : RP w' q s st := by
  rcases h with h | ⟨r, e0, h⟩
  · exact Or.inl h
  · subst e0
    refine Or.inr ⟨r, rfl, (hg.block r h.lt (fun e => ?_)).trans h.1, h.2⟩
    have := hq r rfl
    rcases hown.2 with ⟨rfl, _⟩ | ⟨g, cap, cur, rfl, hbase, _⟩
    · simp [Value.ownBlock] at e
    · simp [Value.ownBlock] at e; omega
theorem rq_own {a w : World} {q : Option Addr} {e n k : Nat} {v : Value} {xs : List Value} (he : e ≠ 54) (hq : ∀ g, q.map Addr.block = some g → g < a.heap.size) (hown : w.ownsRow a.heap.size e k v n xs) :
    ∃ A c, v = .slice A n c ∧ Rq w a.heap.size q A xs := by
  rcases hown.2 with ⟨rfl, h0⟩ | ⟨g, cap, cur, rfl, hbase, hh, hnc, hcap, hsz, htake⟩
  · have hn : n = 0 := h0
    have hx : xs = [] := List.eq_nil_of_length_eq_zero (by have := hown.1; rw [hn] at this; simpa using this)
    subst hx hn
    exact ⟨none, 0, rfl, Rq.nil⟩
  · refine ⟨some ⟨g, 0, none⟩, cap, rfl, fun j hj => ⟨g, 0, rfl, hbase, (Array.getElem?_eq_some_iff.1 hh).1, fun e => ?_, fun cs x h2 => ?_, ?_⟩⟩
    · have := hq g e; omega
    · rw [hh] at h2
      simp only [Option.some.injEq, Obj.cells.injEq] at h2
      exact he h2.2.1
    · rw [Nat.zero_add, cell_of_row w g j _ _ _ hh]
      have h2 := congrArg (fun l : List Value => l[j]?) htake
      rw [List.getElem?_take_of_lt (by rw [← hown.1]; exact hj), List.getElem?_eq_getElem hj] at h2
      rw [← Array.getElem?_toList]; exact h2
theorem own_gq {a w w' : World} {q : Option Addr} {e n k : Nat} {v : Value} {xs : List Value} (hq : ∀ g, q.map Addr.block = some g → g < a.heap.size) (hown : w.ownsRow a.heap.size e k v n xs) (g : Gq w w' q) : w'.ownsRow a.heap.size e k v n xs := by
  refine ⟨hown.1, ?_⟩
  rcases hown.2 with h | ⟨b, cap, cur, rfl, hbase, hh, hr⟩
  · exact Or.inl h
  · exact Or.inr ⟨b, cap, cur, rfl, hbase, (g.block b (Array.getElem?_eq_some_iff.1 hh).1 (fun e => by have := hq b e.symm; omega)).trans hh, hr⟩

theorem info_attrs : (Try.prog.info? 91).map (fun i => (i.zero, i.size, i.bytes)) = some (some (.agg #[.string ⟨#[]⟩, .int .i64 0, .string ⟨#[]⟩, .int .i64 0]), 4, 48) := by kernel_rfl
theorem atCells_snoc (l : List At) (x : At) : atCells (l ++ [x]) = atCells l ++ x.cells := by simp [atCells]
set_option maxRecDepth 100000 in
set_option maxHeartbeats 1000000 in
theorem attrs_q (q : Option Addr) (s : ByteArray) (st : St) (hs : s.size ≤ 1000000) (w : World) (h : RP w q s st) :
    Calls Try.prog 104 #[.pointer q, .func (.func 45) #[.pointer q] #[]] w fun e w' => (∃ A c, Rq w' w.heap.size q A (atCells (rdList (rdattr s) s st).1) ∧ e = .returned (.slice A (rdList (rdattr s) s st).1.length c)) ∧ RP w' q s (rdList (rdattr s) s st).2 ∧ Gq w w' q := by
  obtain ⟨i0, hi0, hz0, hz1, hz2⟩ := info_parts info_attrs
  have Hi0 := Lib.hid hi0
  have Hz0 := Lib.hid hz0
  have Hz1 := Lib.hid hz1
  have Hz2 := Lib.hid hz2
  clear hi0 hz0 hz1 hz2
  have hcq := count_q q s st hs 4096 w h
  have hlt := Lib.hid h.lt
  obtain ⟨n, hn1, hn2, hn3⟩ := cnt_nat s st
  have e0 : rdList (rdattr s) s st = rdL (rdattr s) n [] (rdG 0 (scanZ 4096 6) s st).2 := by unfold rdList; rw [hn1]; rfl
  obtain ⟨⟨c1, st1⟩, hc⟩ : ∃ c, c = rdG 0 (scanZ 4096 6) s st := ⟨_, rfl⟩
  rw [← hc] at hcq hn1 hn3 e0
  dsimp only at hn1
  subst hn1
  obtain ⟨F, hF⟩ : ∃ F, F = rdList (rdattr s) s st := ⟨_, rfl⟩
  rw [← hF] at e0 ⊢
  have HF := Lib.hid e0
  have Hn3 := Lib.hid hn3
  clear hc h hF e0 hn3
  go_enter Try.func104, Try.ntmps104
  go_wp2_with fail
  refine hcq.mono ?_
  rintro e w1 ⟨rfl, h1, g1⟩
  have H1 := Lib.hid h1
  have G1 := Lib.hid g1
  clear h1 g1 hcq
  go_wp2_with fail
  go_loopw [5, 9] (fun u i wr => ∃ (k : Nat) (sk : St) (acc : List At), k ≤ n ∧ i = .int .i64 (k : Int) ∧ Hid (RP wr q s sk) ∧ Hid (wr.ownsRow w.heap.size 91 4 u acc.length (atCells acc)) ∧ Hid (Gq w wr q) ∧ Hid (F = rdL (rdattr s) (n - k) acc sk) ∧ acc.length ≤ k) (fun _ i _ => n - (intOf i).toNat)
  case atStart => exact ⟨0, st1, [], Nat.zero_le _, rfl, H1, Lib.hid ⟨rfl, Or.inl ⟨rfl, rfl⟩⟩, G1, HF, Nat.le_refl _⟩
  case round =>
    obtain ⟨k, sk, acc, hk, rfl, HR, HO, HG, HFF, hal⟩ := hrel
    have hgs := HG.out.size
    by_cases hlt2 : k < n
    · have hce := attr_q q s sk hs wr HR.out
      obtain ⟨⟨x, sx⟩, hx⟩ : ∃ x, x = rdattr s sk := ⟨_, rfl⟩
      obtain ⟨m, hm⟩ : ∃ m, n - k = m + 1 := ⟨n - k - 1, by omega⟩
      have hmk : m = n - (k + 1) := by omega
      have e1 : F = if sx.2 = 0 then rdL (rdattr s) (n - (k + 1)) (acc ++ [x]) sx else ([], sx) := by
        rw [HFF.out, hm, ← hmk]; show (if (rdattr s sk).2.2 = 0 then _ else _) = _; rw [← hx]
      rw [← hx] at hce
      have E1 := Lib.hid e1
      clear hx hm hmk e1
      obtain ⟨key, kd, tx, nn⟩ := x
      dsimp only at hce
      go_wp2_with fail
      refine hce.mono ?_
      rintro e w2 ⟨rfl, h2, g2⟩
      have H2 := Lib.hid h2
      have G2 := Lib.hid (Gq.trans HG.out g2)
      have O2 := Lib.hid (own_gq hlt.out HO.out g2)
      have hws : w.heap.size ≤ w2.heap.size := G2.out.size
      clear h2 g2 hce
      go_wp2_with fail
      by_cases hsx : sx.2 = 0
      · refine (err_q q s sx _ (H2.out.below ((Below.refl _ _).alloc (Nat.le_refl _) _))).mono ?_
        rintro e w3 ⟨rfl, rfl⟩
        rw [hsx]
        have E2 : Hid (F = rdL (rdattr s) (n - (k + 1)) (acc ++ [⟨key, kd, tx, nn⟩]) sx) := Lib.hid (by rw [E1.out, if_pos hsx])
        go_wp2_with (at_builtin; refine wpList_append_agg rfl (.tmp 16) (.tmp 18) 51 rfl w.heap.size 91 i0 _ 4 48 Try.underlying51 Hi0.out Hz0.out Hz1.out Hz2.out rfl (by decide) u5 acc.length _ rfl ((O2.out.alloc _).alloc _) (w2.heap.size + 1) 1 [.string key, .int .i64 kd, .string tx, .int .i64 nn] 91 rfl (by simp [go_sem]) (blk_second w2 _ _) (by simp [Value.oneCell']) (by omega) (by omega) (by simp; omega) ?_; intro v4 w4 hown4 hg4; have HO4 := Lib.hid hown4; have HG4 := Lib.hid (gq_own (Gq.trans G2.out (Gq.of_below (((Below.refl _ _).alloc (Nat.le_refl _) _).alloc (by simp) _) q)) ((O2.out.alloc _).alloc _) hg4); have HR4 := Lib.hid (rp_own (H2.out.below (((Below.refl _ _).alloc (Nat.le_refl _) _).alloc (by simp) _)) hlt.out ((O2.out.alloc _).alloc _) hg4); clear hown4 hg4)
        go_roundw
        case rel =>
          refine ⟨k + 1, sx, acc ++ [⟨key, kd, tx, nn⟩], by omega, by go_num, HR4, Lib.hid ?_, HG4, E2, by rw [List.length_append, List.length_singleton]; omega⟩
          have h := HO4.out
          rw [atCells_snoc, List.length_append]
          exact h
        case measure => simp [intOf]; omega
      · refine (err_q q s sx _ (H2.out.below ((Below.refl _ _).alloc (Nat.le_refl _) _))).mono ?_
        rintro e w3 ⟨rfl, rfl⟩
        have E2 : Hid (F = ([], sx)) := Lib.hid (by rw [E1.out, if_neg hsx])
        go_wp2_with fail
        go_ret
        rw [E2.out]
        exact ⟨⟨none, 0, Rq.nil, rfl⟩, H2.out.below ((Below.refl _ _).alloc (Nat.le_refl _) _), Gq.trans G2.out (Gq.of_below ((Below.refl _ _).alloc (Nat.le_refl _) _) q)⟩
    · obtain rfl : k = n := by omega
      have E2 : Hid (F = (acc, sk)) := Lib.hid (by rw [HFF.out, Nat.sub_self]; rfl)
      obtain ⟨A, c, rfl, hRq⟩ := rq_own (by decide) hlt.out HO.out
      have HRq := Lib.hid hRq
      clear hRq
      go_wp2_with fail
      go_ret
      rw [E2.out]
      exact ⟨⟨A, c, HRq.out, rfl⟩, HR.out, HG.out⟩

theorem info_refs : (Try.prog.info? 83).map (fun i => (i.zero, i.size, i.bytes)) = some (some (.agg #[.int .i64 0, .int .i64 0]), 2, 16) := by kernel_rfl
theorem rfCells_snoc (l : List (Int × Int)) (x : (Int × Int)) : rfCells (l ++ [x]) = rfCells l ++ rfC x := by simp [rfCells]
set_option maxRecDepth 100000 in
set_option maxHeartbeats 1000000 in
theorem refs_q (q : Option Addr) (s : ByteArray) (st : St) (hs : s.size ≤ 1000000) (w : World) (h : RP w q s st) :
    Calls Try.prog 105 #[.pointer q, .func (.func 46) #[.pointer q] #[]] w fun e w' => (∃ A c, Rq w' w.heap.size q A (rfCells (rdList (rdref s) s st).1) ∧ e = .returned (.slice A (rdList (rdref s) s st).1.length c)) ∧ RP w' q s (rdList (rdref s) s st).2 ∧ Gq w w' q := by
  obtain ⟨i0, hi0, hz0, hz1, hz2⟩ := info_parts info_refs
  have Hi0 := Lib.hid hi0
  have Hz0 := Lib.hid hz0
  have Hz1 := Lib.hid hz1
  have Hz2 := Lib.hid hz2
  clear hi0 hz0 hz1 hz2
  have hcq := count_q q s st hs 4096 w h
  have hlt := Lib.hid h.lt
  obtain ⟨n, hn1, hn2, hn3⟩ := cnt_nat s st
  have e0 : rdList (rdref s) s st = rdL (rdref s) n [] (rdG 0 (scanZ 4096 6) s st).2 := by unfold rdList; rw [hn1]; rfl
  obtain ⟨⟨c1, st1⟩, hc⟩ : ∃ c, c = rdG 0 (scanZ 4096 6) s st := ⟨_, rfl⟩
  rw [← hc] at hcq hn1 hn3 e0
  dsimp only at hn1
  subst hn1
  obtain ⟨F, hF⟩ : ∃ F, F = rdList (rdref s) s st := ⟨_, rfl⟩
  rw [← hF] at e0 ⊢
  have HF := Lib.hid e0
  have Hn3 := Lib.hid hn3
  clear hc h hF e0 hn3
  go_enter Try.func105, Try.ntmps105
  go_wp2_with fail
  refine hcq.mono ?_
  rintro e w1 ⟨rfl, h1, g1⟩
  have H1 := Lib.hid h1
  have G1 := Lib.hid g1
  clear h1 g1 hcq
  go_wp2_with fail
  go_loopw [5, 9] (fun u i wr => ∃ (k : Nat) (sk : St) (acc : List (Int × Int)), k ≤ n ∧ i = .int .i64 (k : Int) ∧ Hid (RP wr q s sk) ∧ Hid (wr.ownsRow w.heap.size 83 2 u acc.length (rfCells acc)) ∧ Hid (Gq w wr q) ∧ Hid (F = rdL (rdref s) (n - k) acc sk) ∧ acc.length ≤ k) (fun _ i _ => n - (intOf i).toNat)
  case atStart => exact ⟨0, st1, [], Nat.zero_le _, rfl, H1, Lib.hid ⟨rfl, Or.inl ⟨rfl, rfl⟩⟩, G1, HF, Nat.le_refl _⟩
  case round =>
    obtain ⟨k, sk, acc, hk, rfl, HR, HO, HG, HFF, hal⟩ := hrel
    have hgs := HG.out.size
    by_cases hlt2 : k < n
    · have hce := ref_q q s sk hs wr HR.out
      obtain ⟨⟨x, sx⟩, hx⟩ : ∃ x, x = rdref s sk := ⟨_, rfl⟩
      obtain ⟨m, hm⟩ : ∃ m, n - k = m + 1 := ⟨n - k - 1, by omega⟩
      have hmk : m = n - (k + 1) := by omega
      have e1 : F = if sx.2 = 0 then rdL (rdref s) (n - (k + 1)) (acc ++ [x]) sx else ([], sx) := by
        rw [HFF.out, hm, ← hmk]; show (if (rdref s sk).2.2 = 0 then _ else _) = _; rw [← hx]
      rw [← hx] at hce
      have E1 := Lib.hid e1
      clear hx hm hmk e1
      obtain ⟨xa, xb⟩ := x
      dsimp only at hce
      go_wp2_with fail
      refine hce.mono ?_
      rintro e w2 ⟨rfl, h2, g2⟩
      have H2 := Lib.hid h2
      have G2 := Lib.hid (Gq.trans HG.out g2)
      have O2 := Lib.hid (own_gq hlt.out HO.out g2)
      have hws : w.heap.size ≤ w2.heap.size := G2.out.size
      clear h2 g2 hce
      go_wp2_with fail
      by_cases hsx : sx.2 = 0
      · refine (err_q q s sx _ (H2.out.below ((Below.refl _ _).alloc (Nat.le_refl _) _))).mono ?_
        rintro e w3 ⟨rfl, rfl⟩
        rw [hsx]
        have E2 : Hid (F = rdL (rdref s) (n - (k + 1)) (acc ++ [(xa, xb)]) sx) := Lib.hid (by rw [E1.out, if_pos hsx])
        go_wp2_with (at_builtin; refine wpList_append_agg rfl (.tmp 16) (.tmp 18) 52 rfl w.heap.size 83 i0 _ 2 16 Try.underlying52 Hi0.out Hz0.out Hz1.out Hz2.out rfl (by decide) u5 acc.length _ rfl ((O2.out.alloc _).alloc _) (w2.heap.size + 1) 1 [.int .i64 xa, .int .i64 xb] 83 rfl (by simp [go_sem]) (blk_second w2 _ _) (by simp [Value.oneCell']) (by omega) (by omega) (by simp; omega) ?_; intro v4 w4 hown4 hg4; have HO4 := Lib.hid hown4; have HG4 := Lib.hid (gq_own (Gq.trans G2.out (Gq.of_below (((Below.refl _ _).alloc (Nat.le_refl _) _).alloc (by simp) _) q)) ((O2.out.alloc _).alloc _) hg4); have HR4 := Lib.hid (rp_own (H2.out.below (((Below.refl _ _).alloc (Nat.le_refl _) _).alloc (by simp) _)) hlt.out ((O2.out.alloc _).alloc _) hg4); clear hown4 hg4)
        go_roundw
        case rel =>
          refine ⟨k + 1, sx, acc ++ [(xa, xb)], by omega, by go_num, HR4, Lib.hid ?_, HG4, E2, by rw [List.length_append, List.length_singleton]; omega⟩
          have h := HO4.out
          rw [rfCells_snoc, List.length_append]
          exact h
        case measure => simp [intOf]; omega
      · refine (err_q q s sx _ (H2.out.below ((Below.refl _ _).alloc (Nat.le_refl _) _))).mono ?_
        rintro e w3 ⟨rfl, rfl⟩
        have E2 : Hid (F = ([], sx)) := Lib.hid (by rw [E1.out, if_neg hsx])
        go_wp2_with fail
        go_ret
        rw [E2.out]
        exact ⟨⟨none, 0, Rq.nil, rfl⟩, H2.out.below ((Below.refl _ _).alloc (Nat.le_refl _) _), Gq.trans G2.out (Gq.of_below ((Below.refl _ _).alloc (Nat.le_refl _) _) q)⟩
    · obtain rfl : k = n := by omega
      have E2 : Hid (F = (acc, sk)) := Lib.hid (by rw [HFF.out, Nat.sub_self]; rfl)
      obtain ⟨A, c, rfl, hRq⟩ := rq_own (by decide) hlt.out HO.out
      have HRq := Lib.hid hRq
      clear hRq
      go_wp2_with fail
      go_ret
      rw [E2.out]
      exact ⟨⟨A, c, HRq.out, rfl⟩, HR.out, HG.out⟩

end Go.Proofs.Ytepcihfkkeahhaa
