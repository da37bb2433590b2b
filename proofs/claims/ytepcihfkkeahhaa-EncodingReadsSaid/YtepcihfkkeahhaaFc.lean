/- readList of spans, of exchanges (written by wip/bin/gen_fc.py). -/
import Derived.Test.YtepcihfkkeahhaaFa
namespace Go.Proofs.Ytepcihfkkeahhaa
open Go.ChangeShapes Go.WideShapes Go.ChangeAt Go.RowKit En

theorem info_exchs : (Try.prog.info? 95).map (fun i => (i.zero, i.size, i.bytes)) = some (some (.agg #[.int .i64 0, .int .i64 0, .int .i64 0, .int .i64 0, .int .i64 0]), 5, 40) := by kernel_rfl
theorem exCells_snoc (l : List Ex) (x : Ex) : exCells (l ++ [x]) = exCells l ++ exC x := by simp [exCells]
set_option maxRecDepth 100000 in
set_option maxHeartbeats 1000000 in
theorem exchs_q (q : Option Addr) (s : ByteArray) (st : St) (hs : s.size ≤ 1000000) (w : World) (h : RP w q s st) :
    Calls Try.prog 84 #[.pointer q, .func (.func 47) #[.pointer q] #[]] w fun e w' => (∃ A c, Rq w' w.heap.size q A (exCells (rdList (rdexch s) s st).1) ∧ e = .returned (.slice A (rdList (rdexch s) s st).1.length c)) ∧ RP w' q s (rdList (rdexch s) s st).2 ∧ Gq w w' q := by
  obtain ⟨i0, hi0, hz0, hz1, hz2⟩ := info_parts info_exchs
  have Hi0 := Lib.hid hi0
  have Hz0 := Lib.hid hz0
  have Hz1 := Lib.hid hz1
  have Hz2 := Lib.hid hz2
  clear hi0 hz0 hz1 hz2
  have hcq := count_q q s st hs 4096 w h
  have hlt := Lib.hid h.lt
  obtain ⟨n, hn1, hn2, hn3⟩ := cnt_nat s st
  have e0 : rdList (rdexch s) s st = rdL (rdexch s) n [] (rdG 0 (scanZ 4096 6) s st).2 := by unfold rdList; rw [hn1]; rfl
  obtain ⟨⟨c1, st1⟩, hc⟩ : ∃ c, c = rdG 0 (scanZ 4096 6) s st := ⟨_, rfl⟩
  rw [← hc] at hcq hn1 hn3 e0
  dsimp only at hn1
  subst hn1
  obtain ⟨F, hF⟩ : ∃ F, F = rdList (rdexch s) s st := ⟨_, rfl⟩
  rw [← hF] at e0 ⊢
  have HF := Lib.hid e0
  have Hn3 := Lib.hid hn3
  clear hc h hF e0 hn3
  go_enter Try.func84, Try.ntmps84
  go_wp2_with fail
  refine hcq.mono ?_
  rintro e w1 ⟨rfl, h1, g1⟩
  have H1 := Lib.hid h1
  have G1 := Lib.hid g1
  clear h1 g1 hcq
  go_wp2_with fail
  go_loopw [5, 9] (fun u i wr => ∃ (k : Nat) (sk : St) (acc : List Ex), k ≤ n ∧ i = .int .i64 (k : Int) ∧ Hid (RP wr q s sk) ∧ Hid (wr.ownsRow w.heap.size 95 5 u acc.length (exCells acc)) ∧ Hid (Gq w wr q) ∧ Hid (F = rdL (rdexch s) (n - k) acc sk) ∧ acc.length ≤ k) (fun _ i _ => n - (intOf i).toNat)
  case atStart => exact ⟨0, st1, [], Nat.zero_le _, rfl, H1, Lib.hid ⟨rfl, Or.inl ⟨rfl, rfl⟩⟩, G1, HF, Nat.le_refl _⟩
  case round =>
    obtain ⟨k, sk, acc, hk, rfl, HR, HO, HG, HFF, hal⟩ := hrel
    have hgs := HG.out.size
    by_cases hlt2 : k < n
    · have hce := exch_q q s sk hs wr HR.out
      obtain ⟨⟨x, sx⟩, hx⟩ : ∃ x, x = rdexch s sk := ⟨_, rfl⟩
      obtain ⟨m, hm⟩ : ∃ m, n - k = m + 1 := ⟨n - k - 1, by omega⟩
      have hmk : m = n - (k + 1) := by omega
      have e1 : F = if sx.2 = 0 then rdL (rdexch s) (n - (k + 1)) (acc ++ [x]) sx else ([], sx) := by
        rw [HFF.out, hm, ← hmk]; show (if (rdexch s sk).2.2 = 0 then _ else _) = _; rw [← hx]
      rw [← hx] at hce
      have E1 := Lib.hid e1
      clear hx hm hmk e1
      obtain ⟨xf, xt, xs, xr, xm⟩ := x
      dsimp only at hce
      go_wp2_with fail
      refine hce.mono ?_
      rintro e w2 ⟨rfl, h2, g2⟩
      have H2 := Lib.hid h2
      have G2 := Lib.hid (Gq.trans HG.out g2)
      have O2 := Lib.hid (own_gq hlt.out HO.out g2)
      have hws : w.heap.size ≤ w2.heap.size := G2.out.size
      clear h2 g2 hce
      go_wp2_with fail
      by_cases hsx : sx.2 = 0
      · refine (err_q q s sx _ (H2.out.below ((Below.refl _ _).alloc (Nat.le_refl _) _))).mono ?_
        rintro e w3 ⟨rfl, rfl⟩
        rw [hsx]
        have E2 : Hid (F = rdL (rdexch s) (n - (k + 1)) (acc ++ [⟨xf, xt, xs, xr, xm⟩]) sx) := Lib.hid (by rw [E1.out, if_pos hsx])
        go_wp2_with (at_builtin; refine wpList_append_agg rfl (.tmp 16) (.tmp 18) 60 rfl w.heap.size 95 i0 _ 5 40 Try.underlying60 Hi0.out Hz0.out Hz1.out Hz2.out rfl (by decide) u5 acc.length _ rfl ((O2.out.alloc _).alloc _) (w2.heap.size + 1) 1 [.int .i64 xf, .int .i64 xt, .int .i64 xs, .int .i64 xr, .int .i64 xm] 95 rfl (by simp [go_sem]) (blk_second w2 _ _) (by simp [Value.oneCell']) (by omega) (by omega) (by simp; omega) ?_; intro v4 w4 hown4 hg4; have HO4 := Lib.hid hown4; have HG4 := Lib.hid (gq_own (Gq.trans G2.out (Gq.of_below (((Below.refl _ _).alloc (Nat.le_refl _) _).alloc (by simp) _) q)) ((O2.out.alloc _).alloc _) hg4); have HR4 := Lib.hid (rp_own (H2.out.below (((Below.refl _ _).alloc (Nat.le_refl _) _).alloc (by simp) _)) hlt.out ((O2.out.alloc _).alloc _) hg4); clear hown4 hg4)
        go_roundw
        case rel =>
          refine ⟨k + 1, sx, acc ++ [⟨xf, xt, xs, xr, xm⟩], by omega, by go_num, HR4, Lib.hid ?_, HG4, E2, by rw [List.length_append, List.length_singleton]; omega⟩
          have h := HO4.out
          rw [exCells_snoc, List.length_append]
          exact h
        case measure => simp [intOf]; omega
      · refine (err_q q s sx _ (H2.out.below ((Below.refl _ _).alloc (Nat.le_refl _) _))).mono ?_
        rintro e w3 ⟨rfl, rfl⟩
        have E2 : Hid (F = ([], sx)) := Lib.hid (by rw [E1.out, if_neg hsx])
        go_wp2_with fail
        go_ret
        rw [E2.out]
        exact ⟨⟨none, 0, Rq.nil, rfl⟩, H2.out.below ((Below.refl _ _).alloc (Nat.le_refl _) _), Gq.trans G2.out (Gq.of_below ((Below.refl _ _).alloc (Nat.le_refl _) _) q)⟩
    · obtain rfl : k = n := by omega
      have E2 : Hid (F = (acc, sk)) := Lib.hid (by rw [HFF.out, Nat.sub_self]; rfl)
      obtain ⟨A, c, rfl, hRq⟩ := rq_own (by decide) hlt.out HO.out
      have HRq := Lib.hid hRq
      clear hRq
      go_wp2_with fail
      go_ret
      rw [E2.out]
      exact ⟨⟨A, c, HRq.out, rfl⟩, HR.out, HG.out⟩

/-- The cells of a slice, none of which lies in the block of a Reader, or below a bound. -/
def Rqs (w : World) (lo : Nat) (q : Option Addr) (A : Option Addr) (cs : List Value) : Prop := ∀ j (h : j < cs.length), ∃ b off, A = some ⟨b, off, none⟩ ∧ lo ≤ b ∧ b < w.heap.size ∧ q.map Addr.block ≠ some b ∧ w.cell? ⟨b, off + j, none⟩ = some cs[j]
theorem Rqs.gq {w w' : World} {lo : Nat} {q : Option Addr} {A : Option Addr} {cs : List Value} (h : Rqs w lo q A cs) (g : Gq w w' q) : Rqs w' lo q A cs := fun j hj => by
  obtain ⟨b, off, e, hlo, hlt, hne, hc⟩ := h j hj
  refine ⟨b, off, e, hlo, Nat.lt_of_lt_of_le hlt g.size, hne, ?_⟩
  rw [World.cell?_of_block (g.block b hlt (fun e => hne e.symm))]
  exact hc
theorem Rqs.rs {w : World} {lo : Nat} {q : Option Addr} {A : Option Addr} {cs : List Value} (h : Rqs w lo q A cs) : Rs w w.heap.size A cs := fun j hj => by
  obtain ⟨b, off, e, _, hlt, _, hc⟩ := h j hj
  exact ⟨b, off, e, hlt, hc⟩
theorem Rqs.set {w : World} {lo : Nat} {q : Option Addr} {A : Option Addr} {cs : List Value} {b o : Nat} {v : Value} (h : Rqs w lo q A cs) (hb : b < lo) : Rqs (w.setCell ⟨b, o, none⟩ v) lo q A cs := fun j hj => by
  obtain ⟨g, off, e, hlo, hlt, hne, hc⟩ := h j hj
  refine ⟨g, off, e, hlo, by simp [World.setCell]; omega, hne, ?_⟩
  rw [World.cell?_of_block (Deep.blk_setCell_other _ _ _ _ (show g ≠ b by omega))]
  exact hc
theorem Rqs.low {w : World} {lo lo' : Nat} {q : Option Addr} {A : Option Addr} {cs : List Value} (h : Rqs w lo q A cs) (hl : lo' ≤ lo) : Rqs w lo' q A cs := fun j hj => by
  obtain ⟨g, off, e, hlo, hr⟩ := h j hj
  exact ⟨g, off, e, by omega, hr⟩
theorem Rqs.nil {w : World} {lo : Nat} {q A : Option Addr} : Rqs w lo q A [] := fun j hj => absurd hj (by simp)
theorem Rqs.none_ {w : World} {lo : Nat} {q A : Option Addr} {cs : List Value} (h : Rqs w lo q A cs) : Rqs w lo none A cs := fun j hj => by
  obtain ⟨b, off, e, h1, h2, _, h4⟩ := h j hj
  exact ⟨b, off, e, h1, h2, by simp, h4⟩
theorem Rq.toRqs {w : World} {lo : Nat} {q A : Option Addr} {cs : List Value} (h : Rq w lo q A cs) : Rqs w lo q A cs := fun j hj => by
  obtain ⟨b, off, e, h1, h2, h3, _, h4⟩ := h j hj
  exact ⟨b, off, e, h1, h2, h3, h4⟩
theorem rqs_own {a w : World} {q : Option Addr} {e n k : Nat} {v : Value} {xs : List Value} (hq : ∀ g, q.map Addr.block = some g → g < a.heap.size) (hown : w.ownsRow a.heap.size e k v n xs) :
    ∃ A c, v = .slice A n c ∧ Rqs w a.heap.size q A xs := by
  rcases hown.2 with ⟨rfl, h0⟩ | ⟨g, cap, cur, rfl, hbase, hh, hnc, hcap, hsz, htake⟩
  · have hn : n = 0 := h0
    have hx : xs = [] := List.eq_nil_of_length_eq_zero (by have := hown.1; rw [hn] at this; simpa using this)
    subst hx hn
    exact ⟨none, 0, rfl, Rqs.nil⟩
  · refine ⟨some ⟨g, 0, none⟩, cap, rfl, fun j hj => ⟨g, 0, rfl, hbase, (Array.getElem?_eq_some_iff.1 hh).1, fun e => ?_, ?_⟩⟩
    · have := hq g e; omega
    · rw [Nat.zero_add, cell_of_row w g j _ _ _ hh]
      have h2 := congrArg (fun l : List Value => l[j]?) htake
      rw [List.getElem?_take_of_lt (by rw [← hown.1]; exact hj), List.getElem?_eq_getElem hj] at h2
      rw [← Array.getElem?_toList]; exact h2
theorem Rq.own {w w' : World} {lo : Nat} {q A : Option Addr} {cs : List Value} {base n k : Nat} {v : Value} {xs : List Value} (h : Rq w lo q A cs) (hown : w.ownsRow base 54 k v n xs) (hg : w.grownBy w' v.ownBlock) : Rq w' lo q A cs := fun j hj => by
  obtain ⟨b, off, e, hlo, hlt, hne, hns, hc⟩ := h j hj
  have hv : v.ownBlock ≠ some b := by
    rcases hown.2 with ⟨rfl, _⟩ | ⟨g, cap, cur, rfl, hbase, hh, _⟩
    · simp [Value.ownBlock]
    · intro hb
      simp [Value.ownBlock] at hb
      subst hb
      exact hns _ _ hh
  have hk := hg.block b hlt (fun e => hv e.symm)
  refine ⟨b, off, e, hlo, Nat.lt_of_lt_of_le hlt hg.size, hne, fun cs x => by rw [hk]; exact hns cs x, ?_⟩
  rw [World.cell?_of_block hk]
  exact hc
theorem Sp.HasQ.own {w w' : World} {lo : Nat} {q : Option Addr} {s : Sp} {va vl : Value} {base n k : Nat} {v : Value} {xs : List Value} (h : s.HasQ w lo q va vl) (hown : w.ownsRow base 54 k v n xs) (hg : w.grownBy w' v.ownBlock) : s.HasQ w' lo q va vl := by
  obtain ⟨A, c, A2, c2, e1, e2, h1, h2⟩ := h
  exact ⟨A, c, A2, c2, e1, e2, h1.own hown hg, h2.own hown hg⟩
theorem Sp.HasQ.low {w : World} {lo lo' : Nat} {q : Option Addr} {s : Sp} {va vl : Value} (h : s.HasQ w lo q va vl) (hl : lo' ≤ lo) : s.HasQ w lo' q va vl := by
  obtain ⟨A, c, A2, c2, e1, e2, h1, h2⟩ := h
  exact ⟨A, c, A2, c2, e1, e2, h1.low hl, h2.low hl⟩
theorem Sp.HasQ.none_ {w : World} {lo : Nat} {q : Option Addr} {s : Sp} {va vl : Value} (h : s.HasQ w lo q va vl) : s.HasQ w lo none va vl := by
  obtain ⟨A, c, A2, c2, e1, e2, h1, h2⟩ := h
  exact ⟨A, c, A2, c2, e1, e2, h1.none_, h2.none_⟩
/-- Spans that a Reader has read. -/
def SvsQ (w : World) (lo : Nat) (q : Option Addr) (A : Option Addr) (L : List Sv) : Prop := Rqs w lo q A (spCells L) ∧ ∀ x ∈ L, x.1.HasQ w lo q x.2.1 x.2.2
theorem SvsQ.gq {w w' : World} {lo : Nat} {q A : Option Addr} {L : List Sv} (h : SvsQ w lo q A L) (g : Gq w w' q) : SvsQ w' lo q A L := ⟨h.1.gq g, fun x hx => (h.2 x hx).gq g⟩
theorem SvsQ.set {w : World} {lo : Nat} {q A : Option Addr} {L : List Sv} {b o : Nat} {v : Value} (h : SvsQ w lo q A L) (hb : b < lo) : SvsQ (w.setCell ⟨b, o, none⟩ v) lo q A L := ⟨h.1.set hb, fun x hx => (h.2 x hx).set hb⟩
theorem SvsQ.low {w : World} {lo lo' : Nat} {q A : Option Addr} {L : List Sv} (h : SvsQ w lo q A L) (hl : lo' ≤ lo) : SvsQ w lo' q A L := ⟨h.1.low hl, fun x hx => (h.2 x hx).low hl⟩
theorem SvsQ.none_ {w : World} {lo : Nat} {q A : Option Addr} {L : List Sv} (h : SvsQ w lo q A L) : SvsQ w lo none A L := ⟨h.1.none_, fun x hx => (h.2 x hx).none_⟩

theorem info_spans : (Try.prog.info? 54).map (fun i => (i.zero, i.size, i.bytes)) = some (some (.agg #[.int .i64 0, .int .i64 0, .int .i64 0, .int .i64 0, .int .i64 0, .int .i64 0, .string ⟨#[]⟩, .string ⟨#[]⟩, .string ⟨#[]⟩, .int .i64 0, .int .i64 0, .bool false, .slice none 0 0, .slice none 0 0]), 14, 168) := by kernel_rfl
theorem spCells_snoc (l : List Sv) (x : Sv) : spCells (l ++ [x]) = spCells l ++ spC x := by simp [spCells]
set_option maxRecDepth 100000 in
set_option maxHeartbeats 4000000 in
theorem spans_q (q : Option Addr) (s : ByteArray) (st : St) (hs : s.size ≤ 1000000) (w : World) (h : RP w q s st) :
    Calls Try.prog 83 #[.pointer q, .func (.func 49) #[.pointer q] #[]] w fun e w' => (∃ A c L, L.map Prod.fst = (rdList (rdspan s) s st).1 ∧ SvsQ w' w.heap.size q A L ∧ e = .returned (.slice A L.length c)) ∧ RP w' q s (rdList (rdspan s) s st).2 ∧ Gq w w' q := by
  obtain ⟨i0, hi0, hz0, hz1, hz2⟩ := info_parts info_spans
  have Hi0 := Lib.hid hi0
  have Hz0 := Lib.hid hz0
  have Hz1 := Lib.hid hz1
  have Hz2 := Lib.hid hz2
  clear hi0 hz0 hz1 hz2
  have hcq := count_q q s st hs 4096 w h
  have hlt := Lib.hid h.lt
  obtain ⟨n, hn1, hn2, hn3⟩ := cnt_nat s st
  have e0 : rdList (rdspan s) s st = rdL (rdspan s) n [] (rdG 0 (scanZ 4096 6) s st).2 := by unfold rdList; rw [hn1]; rfl
  obtain ⟨⟨c1, st1⟩, hc⟩ : ∃ c, c = rdG 0 (scanZ 4096 6) s st := ⟨_, rfl⟩
  rw [← hc] at hcq hn1 hn3 e0
  dsimp only at hn1
  subst hn1
  obtain ⟨F, hF⟩ : ∃ F, F = rdList (rdspan s) s st := ⟨_, rfl⟩
  rw [← hF] at e0 ⊢
  have HF := Lib.hid e0
  have Hn3 := Lib.hid hn3
  clear hc h hF e0 hn3
  go_enter Try.func83, Try.ntmps83
  go_wp2_with fail
  refine hcq.mono ?_
  rintro e w1 ⟨rfl, h1, g1⟩
  have H1 := Lib.hid h1
  have G1 := Lib.hid g1
  clear h1 g1 hcq
  go_wp2_with fail
  go_loopw [5, 9] (fun u i wr => ∃ (k : Nat) (sk : St) (acc : List Sv), k ≤ n ∧ i = .int .i64 (k : Int) ∧ Hid (RP wr q s sk) ∧ Hid (wr.ownsRow w.heap.size 54 14 u acc.length (spCells acc)) ∧ Hid (Gq w wr q) ∧ Hid (F = rdL (rdspan s) (n - k) (acc.map Prod.fst) sk) ∧ acc.length ≤ k ∧ Hid (∀ x ∈ acc, x.1.HasQ wr w.heap.size q x.2.1 x.2.2)) (fun _ i _ => n - (intOf i).toNat)
  case atStart => exact ⟨0, st1, [], Nat.zero_le _, rfl, H1, Lib.hid ⟨rfl, Or.inl ⟨rfl, rfl⟩⟩, G1, HF, Nat.le_refl _, Lib.hid (fun x hx => absurd hx (by simp))⟩
  case round =>
    obtain ⟨k, sk, acc, hk, rfl, HR, HO, HG, HFF, hal, HS⟩ := hrel
    have hgs := HG.out.size
    by_cases hlt2 : k < n
    · have hce := span_q q s sk hs wr HR.out
      obtain ⟨⟨x, sx⟩, hx⟩ : ∃ x, x = rdspan s sk := ⟨_, rfl⟩
      obtain ⟨m, hm⟩ : ∃ m, n - k = m + 1 := ⟨n - k - 1, by omega⟩
      have hmk : m = n - (k + 1) := by omega
      have e1 : F = if sx.2 = 0 then rdL (rdspan s) (n - (k + 1)) (acc.map Prod.fst ++ [x]) sx else ([], sx) := by
        rw [HFF.out, hm, ← hmk]; show (if (rdspan s sk).2.2 = 0 then _ else _) = _; rw [← hx]
      rw [← hx] at hce
      have E1 := Lib.hid e1
      clear hx hm hmk e1
      obtain ⟨t, i, p, r, c0, k0, sv, ve, op, stt, en, er, al, ls⟩ := x
      unfold Sp.cells at hce
      dsimp only at hce
      go_wp2_with fail
      refine hce.mono ?_
      rintro e w2 ⟨⟨va, vl, rfl, hq⟩, h2, g2⟩
      obtain ⟨A1, c1, A2, c2, rfl, rfl, q1, q2⟩ := hq
      have HQ2 : Hid (Sp.HasQ w2 w.heap.size q ⟨t, i, p, r, c0, k0, sv, ve, op, stt, en, er, al, ls⟩ (.slice A1 al.length c1) (.slice A2 ls.length c2)) := Lib.hid (Sp.HasQ.low (lo := wr.heap.size) ⟨A1, c1, A2, c2, rfl, rfl, q1, q2⟩ hgs)
      have HS2 : Hid (∀ x ∈ acc, x.1.HasQ w2 w.heap.size q x.2.1 x.2.2) := Lib.hid (fun x hx => (HS.out x hx).gq g2)
      dsimp only
      clear q1 q2
      have H2 := Lib.hid h2
      have G2 := Lib.hid (Gq.trans HG.out g2)
      have O2 := Lib.hid (own_gq hlt.out HO.out g2)
      have hws : w.heap.size ≤ w2.heap.size := G2.out.size
      clear h2 g2 hce
      go_wp2_with fail
      by_cases hsx : sx.2 = 0
      · refine (err_q q s sx _ (H2.out.below ((Below.refl _ _).alloc (Nat.le_refl _) _))).mono ?_
        rintro e w3 ⟨rfl, rfl⟩
        rw [hsx]
        have E2 : Hid (F = rdL (rdspan s) (n - (k + 1)) (acc.map Prod.fst ++ [⟨t, i, p, r, c0, k0, sv, ve, op, stt, en, er, al, ls⟩]) sx) := Lib.hid (by rw [E1.out, if_pos hsx])
        go_wp2_with (at_builtin; refine wpList_append_agg rfl (.tmp 16) (.tmp 18) 59 rfl w.heap.size 54 i0 _ 14 168 Try.underlying59 Hi0.out Hz0.out Hz1.out Hz2.out rfl (by decide) u5 acc.length _ rfl ((O2.out.alloc _).alloc _) (w2.heap.size + 1) 1 [.int .i64 t, .int .i64 i, .int .i64 p, .int .i64 r, .int .i64 c0, .int .i64 k0, .string sv, .string ve, .string op, .int .i64 stt, .int .i64 en, .bool er, .slice A1 al.length c1, .slice A2 ls.length c2] 54 rfl (by simp [go_sem]) (blk_second w2 _ _) (by simp [Value.oneCell']) (by omega) (by omega) (by simp; omega) ?_; intro v4 w4 hown4 hg4; have HO4 := Lib.hid hown4; have HG4 := Lib.hid (gq_own (Gq.trans G2.out (Gq.of_below (((Below.refl _ _).alloc (Nat.le_refl _) _).alloc (by simp) _) q)) ((O2.out.alloc _).alloc _) hg4); have HR4 := Lib.hid (rp_own (H2.out.below (((Below.refl _ _).alloc (Nat.le_refl _) _).alloc (by simp) _)) hlt.out ((O2.out.alloc _).alloc _) hg4); have HS4 : Hid (∀ x ∈ acc ++ [(⟨t, i, p, r, c0, k0, sv, ve, op, stt, en, er, al, ls⟩, .slice A1 al.length c1, .slice A2 ls.length c2)], x.1.HasQ w4 w.heap.size q x.2.1 x.2.2) := Lib.hid (fun x hx => (List.mem_append.1 hx).elim (fun hx => Sp.HasQ.own ((HS2.out x hx).gq (Gq.of_below (((Below.refl _ _).alloc (Nat.le_refl _) _).alloc (by simp) _) q)) ((O2.out.alloc _).alloc _) hg4) (fun hx => by rw [List.mem_singleton.1 hx]; exact Sp.HasQ.own (HQ2.out.gq (Gq.of_below (((Below.refl _ _).alloc (Nat.le_refl _) _).alloc (by simp) _) q)) ((O2.out.alloc _).alloc _) hg4)); clear hown4 hg4)
        go_roundw
        case rel =>
          refine ⟨k + 1, sx, acc ++ [(⟨t, i, p, r, c0, k0, sv, ve, op, stt, en, er, al, ls⟩, .slice A1 al.length c1, .slice A2 ls.length c2)], by omega, by go_num, HR4, Lib.hid ?_, HG4, Lib.hid (by rw [List.map_append]; exact E2.out), by rw [List.length_append, List.length_singleton]; omega, HS4⟩
          have h := HO4.out
          rw [spCells_snoc, List.length_append]
          exact h
        case measure => simp [intOf]; omega
      · refine (err_q q s sx _ (H2.out.below ((Below.refl _ _).alloc (Nat.le_refl _) _))).mono ?_
        rintro e w3 ⟨rfl, rfl⟩
        have E2 : Hid (F = ([], sx)) := Lib.hid (by rw [E1.out, if_neg hsx])
        go_wp2_with fail
        go_ret
        rw [E2.out]
        exact ⟨⟨none, 0, [], rfl, ⟨Rqs.nil, fun x hx => absurd hx (by simp)⟩, rfl⟩, H2.out.below ((Below.refl _ _).alloc (Nat.le_refl _) _), Gq.trans G2.out (Gq.of_below ((Below.refl _ _).alloc (Nat.le_refl _) _) q)⟩
    · obtain rfl : k = n := by omega
      have E2 : Hid (F = (acc.map Prod.fst, sk)) := Lib.hid (by rw [HFF.out, Nat.sub_self]; rfl)
      obtain ⟨A, c, rfl, hRq⟩ := rqs_own hlt.out HO.out
      have HRq := Lib.hid hRq
      clear hRq
      go_wp2_with fail
      go_ret
      rw [E2.out]
      exact ⟨⟨A, c, acc, rfl, ⟨HRq.out, HS.out⟩, rfl⟩, HR.out, HG.out⟩

end Go.Proofs.Ytepcihfkkeahhaa
