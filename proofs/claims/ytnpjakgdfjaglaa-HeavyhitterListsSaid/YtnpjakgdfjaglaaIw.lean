/- ranked of no counter; Top of whatever summary. ranked: the row that it returns is the call's own. Guaranteed's closure; IndexFunc with it. ranked of whatever counters; Top. clear over counters; DeleteFunc with Guaranteed's closure, of ranked counters. Guaranteed. Possible. -/
import Derived.Test.YtnpjakgdfjaglaaGq
import Derived.Deep.Onto
import Derived.BigQuiet
import Derived.Test.YtnpjakgdfjaglaaGs
import Derived.Test.YtnpjakgdfjaglaaGk
import Derived.Test.YtnpjakgdfjaglaaHt
import Derived.Lib.SliceRun
import Derived.Lib.LazyBuf
namespace Go.Proofs.Ytnpjakgdfjaglaa
section
open Go.ChangeShapes Go.WideShapes Go.ChangeAt Go.RowKit Go.Joins Go.Shelf

set_option maxRecDepth 100000 in
set_option maxHeartbeats 1000000 in
theorem insertionc_none (p : Option Addr) (cap : Nat) (w : World) :
    Calls Try.prog 76 #[.slice p 0 cap, .int .i64 0, .int .i64 0, .func (.func 57) #[] #[]] w fun e w' => e = .returned (.tuple #[]) ∧ w' = w := by
  go_enter Try.func76, Try.ntmps76
  go_wp2_with fail
  refine wp_loop_rounds 1 ?_
  rw [rounds_succ]
  go_wp2_with fail
  go_end0
  exact ⟨rfl, rfl⟩
set_option maxRecDepth 100000 in
set_option maxHeartbeats 1000000 in
theorem pdqc_none (p : Option Addr) (cap : Nat) (lim : Int) (w : World) :
    Calls Try.prog 72 #[.slice p 0 cap, .int .i64 0, .int .i64 0, .int .i64 lim, .func (.func 57) #[] #[]] w fun e w' => e = .returned (.tuple #[]) ∧ w' = w := by
  go_enter Try.func72, Try.ntmps72
  go_wp2_with fail
  refine wp_loop_rounds 1 ?_
  rw [rounds_succ]
  go_wp2_with fail
  refine (insertionc_none p cap _).mono ?_
  rintro e w' ⟨rfl, rfl⟩
  go_wp2_with fail
  (try simp only [Exit.inBlock, Exit.then]); refine bodyPost_ret (results_none rfl _ _ _) rfl ?_
  exact ⟨rfl, rfl⟩
set_option maxRecDepth 100000 in
set_option maxHeartbeats 1000000 in
theorem len64_none (w : World) : Calls Try.prog 85 #[.int .u64 0] w fun e w' => (∃ n, e = .returned (.int .i64 n)) ∧ w' = w := by
  go_enter Try.func85, Try.ntmps85
  go_wp2_with fail
  go_ret
  exact ⟨⟨_, rfl⟩, rfl⟩
set_option maxRecDepth 100000 in
set_option maxHeartbeats 1000000 in
theorem len_none (w : World) : Calls Try.prog 73 #[.int .u64 0] w fun e w' => (∃ n, e = .returned (.int .i64 n)) ∧ w' = w := by
  have hbl := Lib.hid (len64_none w)
  go_enter Try.func73, Try.ntmps73
  go_wp2_with fail
  refine hbl.out.mono ?_
  rintro e w1 ⟨⟨n, rfl⟩, rfl⟩
  go_wp2_with fail
  go_ret
  exact ⟨⟨_, rfl⟩, rfl⟩
set_option maxRecDepth 100000 in
set_option maxHeartbeats 1000000 in
theorem sortc_none (p : Option Addr) (cap : Nat) (w : World) :
    Calls Try.prog 64 #[.slice p 0 cap, .func (.func 57) #[] #[]] w fun e w' => e = .returned (.tuple #[]) ∧ w' = w := by
  have hbl := Lib.hid (len_none w)
  go_enter Try.func64, Try.ntmps64
  go_wp2_with fail
  refine hbl.out.mono ?_
  rintro e w1 ⟨⟨n, rfl⟩, rfl⟩
  go_wp2_with fail
  refine (pdqc_none p cap _ _).mono ?_
  rintro e w' ⟨rfl, rfl⟩
  go_wp2_with fail
  go_end0
  exact ⟨rfl, rfl⟩
set_option maxRecDepth 100000 in
set_option maxHeartbeats 1000000 in
theorem sortedc_none (Bs : Nat) (A : Option Addr) (c : Nat) (w : World) (hb : Bs < w.heap.size) (hBs : w.cell? ⟨Bs, 0, none⟩ = some (.slice A 0 c)) :
    Calls Try.prog 55 #[.func (.func 65) #[] #[.pointer (some ⟨Bs, 0, none⟩)], .func (.func 57) #[] #[]] w fun e W' => (∃ A' c', e = .returned (.slice A' 0 c') ∧ W'.ownsRow w.heap.size 27 2 (.slice A' 0 c') 0 (ctCells [])) ∧ Below w.heap.size w W' := by
  have HC := Lib.hid (collect_any Bs A c [] (by simp) w hb hBs CR.nil)
  have hw0 : 0 ≤ w.heap.size := Nat.zero_le _
  clear hBs
  go_enter Try.func55, Try.ntmps55
  go_wp2_with fail
  refine HC.out.mono ?_
  rintro e w1 ⟨v, rfl, h1, h2⟩
  obtain ⟨A', c', rfl, _, _, _⟩ := SlV.own h1
  have HB1 := Lib.hid h2
  have HO1 := Lib.hid h1
  clear h1 h2
  go_wp2_with fail
  refine (sortc_none A' c' w1).mono ?_
  rintro e w2 ⟨rfl, rfl⟩
  go_wp2_with fail
  go_ret
  exact ⟨⟨A', c', rfl, HO1.out⟩, HB1.out⟩
set_option maxRecDepth 100000 in
set_option maxHeartbeats 1000000 in
theorem ranked_none (A : Option Addr) (c : Nat) (w : World) :
    Calls Try.prog 49 #[.slice A 0 c] w fun e W' => (∃ A' c', e = .returned (.slice A' 0 c') ∧ W'.ownsRow w.heap.size 27 2 (.slice A' 0 c') 0 (ctCells [])) ∧ Below w.heap.size w W' := by
  have hBa : Below w.heap.size w (w.alloc (.cells #[.slice A 0 c] 22)) := (Below.refl _ _).alloc (Nat.le_refl _) _
  have HV := Lib.hid (values_any A 0 c w)
  have HS := Lib.hid (sortedc_none w.heap.size A c (w.alloc (.cells #[.slice A 0 c] 22)) (by simp) (cell_of_row _ _ 0 _ _ _ (Deep.blk_alloc_new w _)))
  have HB := Lib.hid hBa
  clear hBa
  go_enter Try.func49, Try.ntmps49
  go_wp2_with fail
  refine HV.out.mono ?_
  rintro e w1 ⟨rfl, rfl⟩
  go_wp2_with fail
  refine HS.out.mono ?_
  rintro e w2 ⟨⟨A', c', rfl, ho⟩, hb⟩
  have HB2 := Lib.hid (HB.out.trans (hb.mono HB.out.size))
  have HO2 := Lib.hid (ho.mono HB.out.size)
  clear hb ho
  go_wp2_with fail
  go_ret
  exact ⟨⟨A', c', rfl, HO2.out⟩, HB2.out⟩
end
section
open Go.ChangeShapes Go.WideShapes Go.ChangeAt Go.RowKit Go.Joins Go.Sort Go.Lib Go.Shelf

theorem own_sort {w : World} {base g cap n : Nat} {os : Array Obj} {L D : List Ct} (hown : w.ownsRow base 27 2 (.slice (some ⟨g, 0, none⟩) L.length cap) L.length (ctCells L)) (hl : D.length = L.length) :
    (sortWorldK ctC 2 w g 0 n D.toArray os).ownsRow base 27 2 (.slice (some ⟨g, 0, none⟩) L.length cap) L.length (ctCells D) := by
  rcases hown.2 with ⟨h, _⟩ | ⟨g', cap', cur, h, hb, hg, h1, h2, h3, _⟩
  · cases h
  · cases h
    have hlt : g < w.heap.size := (Array.getElem?_eq_some_iff.1 hg).1
    refine ⟨by rw [ct_len, hl], .inr ⟨g, cap, putCells id 0 (flatK ctC 2 D.toArray) cur, rfl, hb, ?_, h1, h2, by simp [putCells, h3], ?_⟩⟩
    · unfold sortWorldK putRowK
      rw [heap_grow_old _ _ (by simpa using hlt)]
      simp [putRow, mapBlock, Sort.ahead, Array.getElem?_modify, hg, onCells]
    · apply List.ext_getElem?
      intro j
      by_cases hj : j < L.length * 2
      · have h4 := flat_ct D j (by omega)
        have h5 : j < (flatK ctC 2 D.toArray).size := by simp; omega
        rw [List.getElem?_take_of_lt hj, Array.getElem?_toList, h4]
        have h6 : j < cur.size := by omega
        simp only [putCells, Array.getElem?_mapIdx, Array.getElem?_eq_getElem h6, Nat.zero_add, Option.map_some, Nat.zero_le, true_and, Nat.sub_zero, id]
        rw [if_pos h5]
      · rw [List.getElem?_take_eq_none (by omega), List.getElem?_eq_none (by rw [ct_len]; omega)]
set_option maxHeartbeats 1000000 in
theorem sortc_own (base : Nat) (g cap : Nat) (L : List Ct) (hl : L.length ≤ 1000000) (w : World) (hown : w.ownsRow base 27 2 (.slice (some ⟨g, 0, none⟩) L.length cap) L.length (ctCells L)) :
    Calls Try.prog 64 #[.slice (some ⟨g, 0, none⟩) L.length cap, .func (.func 57) #[] #[]] w fun e w' => e = .returned (.tuple #[]) ∧ ∃ D : List Ct, D.Perm L ∧ D.Pairwise (fun x y => rkl y x = false) ∧ w'.ownsRow base 27 2 (.slice (some ⟨g, 0, none⟩) L.length cap) L.length (ctCells D) ∧ w.grownBy w' (some g) := by
  have eg : ∀ args w, (callFunc 57 args).run Try.prog w = .ok (.enter 57 args) w := enters_of Try.func57 (by kernel_rfl) rfl
  obtain ⟨A, c, e, hnc, hR, _⟩ := rs_own hown
  injection e with e1 e2 e3
  subst e1 e3
  have hblk : g < w.heap.size := by
    rcases hown.2 with ⟨h, _⟩ | ⟨g', cap', cur, h, _, hg, _⟩
    · cases h
    · cases h; exact (Array.getElem?_eq_some_iff.1 hg).1
  have hH : HoldsK ctC 2 w g 0 L.toArray := fun j hj => by
    have hj2 : j < L.length * 2 := by simpa using hj
    have h1 := flat_ct L j hj2
    obtain ⟨hlt, he⟩ := List.getElem?_eq_some_iff.1 h1
    obtain ⟨b, off, eA, hb, hc⟩ := hR j hlt
    cases eA
    exact ⟨by rw [hc, he]; rfl, by rw [Nat.zero_add]; exact hown.frozenAt j⟩
  have hcmp : CmpLays Try.prog 57 #[] ctC 2 rkI g 0 L.toArray.size w := fun _ _ _ _ x y => rk_any x.2 y.2 x.1 y.1 _
  have hcon := AnyQ.slices_SortFunc Try.sortIv 2 Try.isAgg27 Try.sizeOf27 ctC (fun _ => rfl) (fun x v hv => by simp [ctC] at hv; rcases hv with rfl | rfl <;> rfl) rkI swo_rk 57 #[] g 0 cap L.toArray w eg hcmp hH hblk (by simp; omega)
  change Calls Try.prog 64 #[.slice (some ⟨g, 0, none⟩) L.toArray.size cap, .func (.func 57) #[] #[]] _ _ at hcon
  rw [List.size_toArray] at hcon
  refine hcon.mono ?_
  rintro e w' ⟨rfl, d', n, os, hp, hs, rfl⟩
  have hsz : d'.size = L.length := by have := hp.1; simpa using this
  refine ⟨rfl, d'.toList, ?_, ?_, ?_, grown_sort d'⟩
  · have h := hp.2.2
    have e : d'.toList.take L.length = d'.toList := List.take_of_length_le (by simp [hsz])
    simp at h
    rwa [e] at h
  · refine List.pairwise_iff_getElem.2 (fun i j hi hj hij => ?_)
    have h := hs i j (Nat.zero_le _) hij (by simpa [hsz] using hj)
    rw [lt_rk, getElem!_pos d' j (by simpa using hj), getElem!_pos d' i (by simpa using hi)] at h
    simpa using h
  · have h := own_sort (n := n) (os := os) (D := d'.toList) hown (by simp [hsz])
    rw [Array.toArray_toList] at h
    exact h
set_option maxRecDepth 100000 in
set_option maxHeartbeats 1000000 in
theorem sortedc_own (Bs : Nat) (A : Option Addr) (c : Nat) (L : List Ct) (hl : L.length ≤ 1000000) (h0 : 0 < L.length) (w : World) (hb : Bs < w.heap.size) (hBs : w.cell? ⟨Bs, 0, none⟩ = some (.slice A L.length c)) (hR : CR w A L) :
    Calls Try.prog 55 #[.func (.func 65) #[] #[.pointer (some ⟨Bs, 0, none⟩)], .func (.func 57) #[] #[]] w fun e W' => (∃ g cap D, e = .returned (.slice (some ⟨g, 0, none⟩) L.length cap) ∧ L.length ≤ cap ∧ Rkd D L ∧ W'.ownsRow w.heap.size 27 2 (.slice (some ⟨g, 0, none⟩) L.length cap) L.length (ctCells D)) ∧ Below w.heap.size w W' := by
  have HC := Lib.hid (collect_any Bs A c L hl w hb hBs hR)
  have hw0 : 0 ≤ w.heap.size := Nat.zero_le _
  clear hBs hR
  go_enter Try.func55, Try.ntmps55
  go_wp2_with fail
  refine HC.out.mono ?_
  rintro e w1 ⟨v, rfl, h1, h2⟩
  obtain ⟨g, cap, rfl⟩ := ownsRow_form h1 h0
  have hgl := (h1.lt g rfl).1
  obtain ⟨A', c', e', hcap, _, _⟩ := rs_own h1
  injection e' with e1 e2 e3
  subst e3
  have HS := Lib.hid (sortc_own w.heap.size g cap L hl w1 h1)
  have HB1 := Lib.hid h2
  clear h1 h2 e1 e2
  go_wp2_with fail
  refine HS.out.mono ?_
  rintro e w2 ⟨rfl, D, hp, hs, hr, hg⟩
  have HB2 := Lib.hid (below_turn HB1.out hg hgl (Nat.le_refl _))
  have HR2 := Lib.hid hr
  clear hr hg
  go_wp2_with fail
  go_ret
  exact ⟨⟨g, cap, D, rfl, hcap, ⟨hp, hs⟩, HR2.out⟩, HB2.out⟩
set_option maxRecDepth 100000 in
set_option maxHeartbeats 1000000 in
theorem ranked_own (A : Option Addr) (c : Nat) (L : List Ct) (hl : L.length ≤ 1000000) (h0 : 0 < L.length) (w : World) (hR : CR w A L) :
    Calls Try.prog 49 #[.slice A L.length c] w fun e W' => (∃ g cap D, e = .returned (.slice (some ⟨g, 0, none⟩) L.length cap) ∧ L.length ≤ cap ∧ Rkd D L ∧ W'.ownsRow w.heap.size 27 2 (.slice (some ⟨g, 0, none⟩) L.length cap) L.length (ctCells D)) ∧ Below w.heap.size w W' := by
  have hBa : Below w.heap.size w (w.alloc (.cells #[.slice A L.length c] 22)) := (Below.refl _ _).alloc (Nat.le_refl _) _
  have HV := Lib.hid (values_any A L.length c w)
  have HS := Lib.hid (sortedc_own w.heap.size A c L hl h0 (w.alloc (.cells #[.slice A L.length c] 22)) (by simp) (cell_of_row _ _ 0 _ _ _ (Deep.blk_alloc_new w _)) (hR.below hBa))
  have HB := Lib.hid hBa
  clear hBa hR
  go_enter Try.func49, Try.ntmps49
  go_wp2_with fail
  refine HV.out.mono ?_
  rintro e w1 ⟨rfl, rfl⟩
  go_wp2_with fail
  refine HS.out.mono ?_
  rintro e w2 ⟨⟨g, cap, D, rfl, h1, h2, h3⟩, hb⟩
  have HB2 := Lib.hid (HB.out.trans (hb.mono HB.out.size))
  have HR2 := Lib.hid (h3.mono HB.out.size)
  clear hb h3
  go_wp2_with fail
  go_ret
  exact ⟨⟨g, cap, D, rfl, h1, h2, HR2.out⟩, HB2.out⟩
end
section
open Go.ChangeShapes Go.WideShapes Go.ChangeAt Go.RowKit Go.Joins

theorem gd_cl (gk : Nat) (n m : Int) (s : ByteArray) (w : World) (hg : w.cell? ⟨gk, 0, none⟩ = some (.int .i64 n)) (hl : gk < w.heap.size) :
    Calls Try.prog 51 #[.agg #[.string s, .int .i64 m], .pointer (some ⟨gk, 0, none⟩)] w fun e w' => e = .returned (.bool (decide (m < n))) ∧ Below w.heap.size w w' := by
  have hg2 := ((Below.refl w.heap.size w).alloc (Nat.le_refl _) (.cells #[.string s, .int .i64 m] 27)).cell (p := ⟨gk, 0, none⟩) hl
  rw [hg] at hg2
  go_enter Try.func51, Try.ntmps51
  go_wp2_with fail
  go_ret
  exact ⟨rfl, (Below.refl _ _).alloc (Nat.le_refl _) _⟩
/-- The index of the first counter whose count is less than a number, or -1. -/
def ixG (L : List Ct) (n : Int) (k : Int) : Prop := (k = -1 ∧ ∀ i (hi : i < L.length), n ≤ L[i].2) ∨ ∃ j : Nat, ∃ h : j < L.length, k = (j : Int) ∧ (∀ i (hi : i < L.length), i < j → n ≤ L[i].2) ∧ L[j].2 < n
set_option maxRecDepth 100000 in
set_option maxHeartbeats 2000000 in
theorem indexg_any (gk : Nat) (n : Int) (A : Option Addr) (c : Nat) (L : List Ct) (hl : L.length ≤ 1000000) (w : World) (hR : CR w A L) (hg : w.cell? ⟨gk, 0, none⟩ = some (.int .i64 n)) (hgl : gk < w.heap.size) :
    Calls Try.prog 46 #[.slice A L.length c, .func (.func 51) #[] #[.pointer (some ⟨gk, 0, none⟩)]] w fun e w' => (∃ k : Int, e = .returned (.int .i64 k) ∧ ixG L n k) ∧ Below w.heap.size w w' := by
  have HR := Lib.hid hR
  have HC := Lib.hid (fun s m (W : World) (hW : Below w.heap.size w W) => gd_cl gk n m s W ((hW.cell (p := ⟨gk, 0, none⟩) hgl).trans hg) (Nat.lt_of_lt_of_le hgl hW.size))
  have HF : Hid (∀ j (hj : j < L.length), (∀ i (hi : i < L.length), i < j → n ≤ L[i].2) → L[j].2 < n → ixG L n (j : Int)) := Lib.hid (fun j hj h e => .inr ⟨j, hj, rfl, h, e⟩)
  have HP : Hid ((∀ i (hi : i < L.length), n ≤ L[i].2) → ixG L n (-1)) := Lib.hid (fun h => .inl ⟨rfl, h⟩)
  obtain ⟨G, hG⟩ : ∃ G, G = ixG L n := ⟨_, rfl⟩
  rw [← hG] at HF HP ⊢
  clear hR hg hgl hG
  go_enter Try.func46, Try.ntmps46
  go_wp2_with fail
  go_loopw [5, 8] (fun _v iv wr => ∃ j : Nat, j ≤ L.length ∧ iv = .int .i64 (j : Int) ∧ Hid (∀ i (hi : i < L.length), i < j → n ≤ L[i].2) ∧ Hid (Below w.heap.size w wr)) (fun _ iv _ => L.length - (intOf iv).toNat)
  case atStart => exact ⟨0, Nat.zero_le _, rfl, Lib.hid (fun i _ h => absurd h (by omega)), Lib.hid (Below.refl _ _)⟩
  case round =>
    obtain ⟨j, hj, rfl, HN, HB⟩ := hrel
    by_cases hlt : j < L.length
    · obtain ⟨b, off, rfl, hb, h0, h1⟩ := (HR.out.below HB.out).at j hlt
      have HFx := Lib.hid (HF.out j hlt HN.out)
      have HNx : Hid (∀ x, x = L[j] → n ≤ x.2 → ∀ i (hi : i < L.length), i < j + 1 → n ≤ L[i].2) := Lib.hid (fun x hx hne i hi h => by
        by_cases e : i = j
        · subst e; rw [← hx]; exact hne
        · exact HN.out i hi (by omega))
      obtain ⟨x, hx⟩ : ∃ x, x = L[j] := ⟨_, rfl⟩
      have HX := Lib.hid hx
      rw [← hx] at h0 h1 HFx
      clear hx
      obtain ⟨t, m⟩ := x
      dsimp only at h0 h1 HFx
      have HCx := Lib.hid (HC.out t m wr HB.out)
      have hjI : (j : Int) < (L.length : Int) := by omega
      have hj0 : (0 : Int) ≤ (j : Int) := by omega
      have hw1 : IntKind.i64.wrap ((j : Int) + 1) = (j : Int) + 1 := by simp only [IntKind.wrap_i64]; omega
      by_cases e : m < n
      · have he : decide (m < n) = true := by simpa using e
        rw [he] at HCx
        have HG := Lib.hid (HFx.out e)
        clear e he
        go_wp2_with fail
        go_at_call 51
        refine HCx.out.mono ?_
        rintro e w1 ⟨rfl, hb1⟩
        have HB1 := Lib.hid (HB.out.trans (hb1.mono HB.out.size))
        clear hb1
        go_wp2_with fail
        go_ret
        exact ⟨⟨_, rfl, HG.out⟩, HB1.out⟩
      · have he : decide (m < n) = false := by simpa using e
        rw [he] at HCx
        have HN2 := Lib.hid (HNx.out _ HX.out (by omega))
        clear e he
        go_wp2_with fail
        go_at_call 51
        refine HCx.out.mono ?_
        rintro e w1 ⟨rfl, hb1⟩
        have HB1 := Lib.hid (HB.out.trans (hb1.mono HB.out.size))
        clear hb1
        go_wp2_with fail
        go_roundw
        case rel => exact ⟨j + 1, by omega, by go_num, HN2, HB1⟩
        case measure => simp [intOf] <;> omega
    · have HG := Lib.hid (HP.out (fun i hi => HN.out i hi (by omega)))
      go_wp2_with fail
      go_ret
      exact ⟨⟨_, rfl, HG.out⟩, HB.out⟩
end
section
open Go.ChangeShapes Go.WideShapes Go.ChangeAt Go.RowKit Go.Joins

theorem ranked2_any (v : Value) (L : List Ct) (hl : L.length ≤ 1000000) (w : World) (hv : SlV w v L) :
    Calls Try.prog 49 #[v] w fun e W' => (∃ u, e = .returned u ∧ W'.ownsRow w.heap.size 27 2 u L.length (ctCells (rkS L))) ∧ Below w.heap.size w W' := by
  obtain ⟨A, c, rfl, _, _, hR⟩ := hv
  by_cases h0 : 0 < L.length
  · refine (ranked_own A c L hl h0 w hR).mono ?_
    rintro e w1 ⟨⟨g, cap, D, rfl, _, hD, ho⟩, hb⟩
    rw [rkd_uniq hD (rkS_ok L)] at ho
    exact ⟨⟨_, rfl, ho⟩, hb⟩
  · obtain rfl : L = [] := List.eq_nil_of_length_eq_zero (by omega)
    refine (ranked_none A c w).mono ?_
    rintro e w1 ⟨⟨A', c', rfl, ho⟩, hb⟩
    have e0 : rkS [] = [] := List.eq_nil_of_length_eq_zero (by rw [(rkS_ok []).1.length_eq]; rfl)
    rw [e0]
    exact ⟨⟨_, rfl, ho⟩, hb⟩
set_option maxRecDepth 100000 in
set_option maxHeartbeats 2000000 in
theorem top22_any (v : Value) (s : Su) (hl : s.cs.length ≤ 1000000) (w : World) (hv : SuV w v s) :
    Calls Try.prog 34 #[v] w fun e W' => (∃ u, e = .returned u ∧ W'.ownsRow w.heap.size 27 2 u s.cs.length (ctCells (rkS s.cs))) ∧ Below w.heap.size w W' := by
  obtain ⟨mo, to, lo, cs⟩ := s
  obtain ⟨x, rfl, hx⟩ := hv
  dsimp only at hl hx ⊢
  have HX := Lib.hid hx
  obtain ⟨A, c, rfl, _, _, _⟩ := hx
  have hB : Below w.heap.size w (w.alloc (.cells #[.int .i64 mo, .int .i64 to, .int .i64 lo, .slice A cs.length c] 24)) := (Below.refl _ _).alloc (Nat.le_refl _) _
  have HB := Lib.hid hB
  have HRk := Lib.hid (ranked2_any (.slice A cs.length c) cs hl (w.alloc (.cells #[.int .i64 mo, .int .i64 to, .int .i64 lo, .slice A cs.length c] 24)) (HX.out.below hB))
  obtain ⟨ln, hln⟩ : ∃ ln, ln = cs.length := ⟨_, rfl⟩
  rw [← hln] at HRk HB ⊢
  clear hl hB HX hln
  go_enter Try.func34, Try.ntmps34
  go_wp2_with fail
  refine HRk.out.mono ?_
  rintro e w1 ⟨⟨u, rfl, ho⟩, hb⟩
  have HB2 := Lib.hid (HB.out.trans (hb.mono HB.out.size))
  have HO2 := Lib.hid (ho.mono HB.out.size)
  clear hb ho
  go_wp2_with fail
  go_ret
  exact ⟨⟨_, rfl, HO2.out⟩, HB2.out⟩
end
section
open Go.ChangeShapes Go.WideShapes Go.ChangeAt Go.RowKit Go.Joins

theorem zero_of {P : Program} {t : TypeId} {i : TypeInfo} {z : Value} (h : P.info? t = some i) (hz : i.zero = some z) (w : World) : (zeroValue t).run P w = .ok z w := by simp [zeroValue, typeInfo, h, hz]
theorem run_clear_z {P : Program} (w : World) (t e ty : TypeId) (z : Value) (ht : P.underlying t = some (.slice e)) (hv : ∀ w, (zeroValue e).run P w = .ok z w) (b o n c : Nat) (hn : 0 < n) (vs : List Value) (hvs : (Builtin.zeroCells z.cells n).toList = vs)
    (hst : (storeCells ⟨b, o, none⟩ vs 0).run P w = .ok () (w.setCells b o vs)) : (Builtin.clear_ #[t] ty #[.slice (some ⟨b, o, none⟩) n c]).run P w = .ok (.tuple #[]) (w.setCells b o vs) := by
  obtain ⟨m, rfl⟩ : ∃ m, n = m + 1 := ⟨n - 1, by omega⟩
  simp [Builtin.clear_, run_underlying ht, hv, hvs, hst]
theorem run_clear_ct (w : World) (b o n c : Nat) (hn : 0 < n)
    (hc : ∀ j, j < n * 2 → (w.cell? ⟨b, o + j, none⟩).isSome = true) (hf : ∀ j, j < n * 2 → w.frozen? ⟨b, o + j, none⟩ = false) :
    ∃ zs : List Value, zs.length = n * 2 ∧ ∀ ty, (Builtin.clear_ #[22] ty #[.slice (some ⟨b, o, none⟩) n c]).run Try.prog w = .ok (.tuple #[]) (w.setCells b o zs) := by
  have hl : ((Builtin.zeroCells #[.string ByteArray.empty, .int .i64 0] n).toList).length = n * 2 := by simp [Builtin.zeroCells]
  have h1 : ∀ v ∈ (Builtin.zeroCells #[.string ByteArray.empty, .int .i64 0] n).toList, v.oneCell' = true := fun v hv => by
    simp [Builtin.zeroCells] at hv
    obtain ⟨k, _, rfl⟩ := hv
    rcases Nat.mod_two_eq_zero_or_one k with h | h <;> rw [h] <;> rfl
  have hst := Go.run_storeCells_cells (P := Try.prog) b o (Builtin.zeroCells #[.string ByteArray.empty, .int .i64 0] n).toList 0 w (by rw [hl]; simpa using hc) (by rw [hl]; simpa using hf) h1
  simp only [Nat.add_zero] at hst
  obtain ⟨i0, hi0, hz0, _, _⟩ := info_parts2 ct_info
  exact ⟨_, hl, fun ty => run_clear_z w _ _ ty _ Try.underlying22 (zero_of hi0 hz0) b o n c hn _ rfl hst⟩
theorem own_blw {w w' : World} {base g n cap : Nat} {T : TypeId} {xs : List Value} (h : w.ownsRow base T 2 (.slice (some ⟨g, 0, none⟩) n cap) n xs) (hb : Below w.heap.size w w') : w'.ownsRow base T 2 (.slice (some ⟨g, 0, none⟩) n cap) n xs := by
  have hlt := (h.lt g rfl).2
  refine ⟨h.1, ?_⟩
  rcases h.2 with ⟨h', _⟩ | ⟨g', cap', cur, h', k1, k2, k3⟩
  · cases h'
  · cases h'
    exact .inr ⟨g, cap, cur, rfl, k1, (hb.block g hlt).trans k2, k3⟩
theorem own_cut {w : World} {base g n cap j : Nat} {T : TypeId} {ys : List Value} (h : w.ownsRow base T 2 (.slice (some ⟨g, 0, none⟩) n cap) n ys) (hj : j ≤ n) : w.ownsRow base T 2 (.slice (some ⟨g, 0, none⟩) j cap) j (ys.take (j * 2)) := by
  have hl := h.1
  rcases h.2 with ⟨h', _⟩ | ⟨g', cap', cur, h', k1, k2, k3, k4, k5, k6⟩
  · cases h'
  · cases h'
    refine ⟨by rw [List.length_take]; omega, .inr ⟨g, cap, cur, rfl, k1, k2, by omega, k4, k5, ?_⟩⟩
    rw [← k6, List.take_take]
    congr 1
    omega
theorem own_set {base g n cap : Nat} {T : TypeId} : ∀ (zs : List Value) (o : Nat) (w : World) (ys : List Value), w.ownsRow base T 2 (.slice (some ⟨g, 0, none⟩) n cap) n ys → ∃ ys', (w.setCells g o zs).ownsRow base T 2 (.slice (some ⟨g, 0, none⟩) n cap) n ys' ∧ ys'.take o = ys.take o
  | [], _, _, ys, h => ⟨ys, h, rfl⟩
  | z :: zs, o, w, ys, h => by
    obtain ⟨h1, _⟩ := h.stored o z
    obtain ⟨ys', h2, h3⟩ := own_set zs (o + 1) _ _ h1
    refine ⟨ys', h2, ?_⟩
    have e : ys'.take o = (ys'.take (o + 1)).take o := by rw [List.take_take, Nat.min_eq_left (by omega)]
    rw [e, h3, List.take_take, Nat.min_eq_left (by omega)]
    first | exact List.take_set_of_le (Nat.le_refl _) | (rw [List.take_set_of_le (Nat.le_refl _)]) | (rw [List.take_set, List.set_eq_of_length_le (by rw [List.length_take]; omega)])
set_option maxRecDepth 100000 in
set_option maxHeartbeats 4000000 in
theorem delf_any (gk : Nat) (n : Int) (base g cap : Nat) (D : List Ct) (hl : D.length ≤ 1000) (hs : D.Pairwise fun x y => rkl y x = false) (w : World) (hown : w.ownsRow base 27 2 (.slice (some ⟨g, 0, none⟩) D.length cap) D.length (ctCells D)) (hg : w.cell? ⟨gk, 0, none⟩ = some (.int .i64 n)) (hgl : gk < base) (hbw : base ≤ w.heap.size) :
    Calls Try.prog 50 #[.slice (some ⟨g, 0, none⟩) D.length cap, .func (.func 51) #[] #[.pointer (some ⟨gk, 0, none⟩)]] w fun e w' => (∃ u, e = .returned u ∧ SlV w' u (lsW D n)) ∧ Below base w w' := by
  have hgw : gk < w.heap.size := by omega
  obtain ⟨A, c, e, hcap, _, hR⟩ := SlV.own hown
  injection e with e1 e2 e3
  subst e1 e3
  have HI := Lib.hid (indexg_any gk n (some ⟨g, 0, none⟩) cap D (by omega) w hR hg hgw)
  have HC := Lib.hid (fun s m (W : World) (hW : Below w.heap.size w W) => gd_cl gk n m s W ((hW.cell (p := ⟨gk, 0, none⟩) hgw).trans hg) (Nat.lt_of_lt_of_le hgw hW.size))
  have HO := Lib.hid hown
  have HR := Lib.hid hR
  have HS := Lib.hid hs
  have HBw := Lib.hid hbw
  have HGb := Lib.hid ((hown.lt g rfl).1)
  obtain ⟨ln, hln⟩ : ∃ ln, ln = D.length := ⟨_, rfl⟩
  have HLn := Lib.hid hln
  rw [← hln] at HI hl hcap HO ⊢
  clear hown hR hs hg hgl hbw hgw e2 hln
  go_enter Try.func50, Try.ntmps50
  go_wp2_with fail
  refine HI.out.mono ?_
  rintro e w1 ⟨⟨k, rfl, hk⟩, hB⟩
  have HB := Lib.hid hB
  clear hB
  rcases hk with ⟨rfl, hall⟩ | ⟨j, hj, rfl, hlow, hat⟩
  · have HF : Hid (lsW D n = D) := Lib.hid (by
      rw [ls_take n D.length (Nat.le_refl _) (fun i hi _ => hall i hi) (fun h => absurd h (by omega))]
      exact List.take_length)
    clear hall
    go_wp2_with fail
    go_ret
    refine ⟨⟨_, rfl, ?_⟩, HB.out.mono HBw.out⟩
    rw [HF.out]
    exact ⟨some ⟨g, 0, none⟩, cap, by rw [HLn.out]; rfl, by rw [← HLn.out]; exact hcap, (fun h => nomatch h), HR.out.below HB.out⟩
  · have HF : Hid (lsW D n = D.take j) := Lib.hid (ls_take n j (by omega) hlow (fun _ => hat))
    have HT : Hid (∀ i (hi : i < D.length), j < i → D[i].2 < n) := Lib.hid (fun i hi h => by
      have := rk_counts (List.pairwise_iff_getElem.1 HS.out j i hj hi h)
      omega)
    have hjl : j < ln := by rw [HLn.out]; exact hj
    have hj0 : (0 : Int) ≤ (j : Int) := by omega
    have hjn : ¬ (j : Int) = -1 := by omega
    have hwj : IntKind.i64.wrap ((j : Int) + 1) = (j : Int) + 1 := by simp only [IntKind.wrap_i64]; omega
    clear hlow hat hj
    go_wp2_with fail
    go_loopw [5, 6, 7] (fun jv iv _bv wr => ∃ m : Nat, j < m ∧ m ≤ ln ∧ jv = .int .i64 (j : Int) ∧ iv = .int .i64 (m : Int) ∧ Hid (Below w.heap.size w wr)) (fun _ iv _ _ => ln - (intOf iv).toNat)
    case atStart => exact ⟨j + 1, by omega, by omega, rfl, by go_num, HB⟩
    case round =>
      obtain ⟨m, hm, hml, rfl, rfl, HBq⟩ := hrel
      have hcj : ¬ cap = j := by omega
      have hjm : j ≤ m := by omega
      have hjc : j ≤ cap := by omega
      have hm0 : (0 : Int) ≤ (m : Int) := by omega
      by_cases hlt : m < ln
      · have hmI : (m : Int) < (ln : Int) := by omega
        have hmD : m < D.length := by rw [← HLn.out]; exact hlt
        obtain ⟨b, off, e, hb, f0, f1⟩ := (HR.out.below HBq.out).at m hmD
        injection e with e
        injection e with e1 e2
        subst e1 e2
        rw [Nat.zero_add] at f0 f1
        have hT := HT.out m hmD hm
        obtain ⟨x, hx⟩ : ∃ x, x = D[m] := ⟨_, rfl⟩
        rw [← hx] at f0 f1 hT
        clear hx hmD
        obtain ⟨s, q⟩ := x
        dsimp only at f0 f1 hT
        have hdq : decide (q < n) = true := by simpa using hT
        have hw1 : IntKind.i64.wrap ((m : Int) + 1) = (m : Int) + 1 := by simp only [IntKind.wrap_i64]; omega
        clear hT
        go_wp2_with fail
        have hBc := (HBq.out.alloc HBq.out.size (.cells #[.string s, .int .i64 q] 27)).mono (Nat.le_refl _)
        refine (HC.out s q _ hBc).mono ?_
        rintro e w2 ⟨rfl, hb2⟩
        have HB2 := Lib.hid (hBc.trans (hb2.mono hBc.size))
        rw [hdq]
        clear hb2 hBc
        go_wp2_with fail
        go_roundw
        case rel => exact ⟨_, _, _, _, _, _, _, _, _, _, _, _, _, _, _, _, _, _, _, _, _, _, _, ⟨m + 1, by omega, by omega, rfl, by go_num, HB2⟩, rfl⟩
        case measure => simp [intOf] <;> omega
      · obtain rfl : m = ln := by omega
        have hmI : ¬ (m : Int) < (m : Int) := by omega
        have hoq := own_blw HO.out HBq.out
        obtain ⟨zs, hzl, hcl⟩ := run_clear_ct wr g (j * 2) (m - j) (cap - j) (by omega) (fun t ht => by
          have hlt : j * 2 + t < (ctCells D).length := by rw [ct_len, ← HLn.out]; omega
          have h := hoq.cells rfl (j * 2 + t) _ (List.getElem?_eq_getElem hlt)
          rw [add_flat, Nat.zero_add] at h
          rw [h]; rfl) (fun t _ => hoq.frozenAt _)
        have HZ := Lib.hid hzl
        clear hzl hoq
        go_wp2_with fail
        go_ret
        refine ⟨⟨_, rfl, ?_⟩, ?_⟩
        · rw [HF.out]
          obtain ⟨ys, o1, o2⟩ := own_set zs (j * 2) wr _ (own_blw HO.out HBq.out)
          have o3 := own_cut o1 hjm
          rw [o2, show (ctCells D).take (j * 2) = ctCells (D.take j) by
            conv => lhs; rw [← List.take_append_drop j D, ct_app]
            rw [List.take_left' (by rw [ct_len, List.length_take, ← HLn.out]; omega)]] at o3
          exact SlV.own o3
        · exact Go.below_setCells HGb.out _ _ _ (HBq.out.mono HBw.out)
end
section
open Go.ChangeShapes Go.WideShapes Go.ChangeAt Go.RowKit Go.Joins

set_option maxRecDepth 100000 in
set_option maxHeartbeats 2000000 in
theorem delf_none (gk : Nat) (n : Int) (w : World) (hg : w.cell? ⟨gk, 0, none⟩ = some (.int .i64 n)) (hgl : gk < w.heap.size) :
    Calls Try.prog 50 #[.slice none 0 0, .func (.func 51) #[] #[.pointer (some ⟨gk, 0, none⟩)]] w fun e w' => e = .returned (.slice none 0 0) ∧ Below w.heap.size w w' := by
  have HI := Lib.hid (indexg_any gk n none 0 [] (by simp) w CR.nil hg hgl)
  clear hg hgl
  go_enter Try.func50, Try.ntmps50
  go_wp2_with fail
  refine HI.out.mono ?_
  rintro e w1 ⟨⟨k, rfl, hk⟩, hB⟩
  obtain rfl : k = -1 := by
    rcases hk with ⟨h, _⟩ | ⟨j, hj, _⟩
    · exact h
    · simp at hj
  have HB := Lib.hid hB
  clear hB hk
  go_wp2_with fail
  go_ret
  exact ⟨rfl, HB.out⟩
theorem delf2_any (gk : Nat) (n : Int) (base : Nat) (u : Value) (D : List Ct) (hl : D.length ≤ 1000) (hs : D.Pairwise fun x y => rkl y x = false) (w : World) (hown : w.ownsRow base 27 2 u D.length (ctCells D)) (hg : w.cell? ⟨gk, 0, none⟩ = some (.int .i64 n)) (hgl : gk < base) (hbw : base ≤ w.heap.size) :
    Calls Try.prog 50 #[u, .func (.func 51) #[] #[.pointer (some ⟨gk, 0, none⟩)]] w fun e w' => (∃ u, e = .returned u ∧ SlV w' u (lsW D n)) ∧ Below base w w' := by
  rcases hown.2 with ⟨rfl, h0⟩ | ⟨g, cap, cur, rfl, _⟩
  · obtain rfl : D = [] := List.eq_nil_of_length_eq_zero h0
    refine (delf_none gk n w hg (by omega)).mono ?_
    rintro e w' ⟨rfl, hb⟩
    exact ⟨⟨_, rfl, none, 0, rfl, Nat.le_refl _, (fun _ => rfl), CR.nil⟩, hb.mono hbw⟩
  · exact delf_any gk n base g cap D hl hs w hown hg hgl hbw
set_option maxRecDepth 100000 in
set_option maxHeartbeats 4000000 in
theorem guar_any (v : Value) (s : Su) (n : Int) (hl : s.cs.length ≤ 1000) (w : World) (hv : SuV w v s) :
    Calls Try.prog 30 #[v, .int .i64 n] w fun e W' => (∃ u, e = .returned u ∧ SlV W' u (lsW (rkS s.cs) n)) ∧ Below w.heap.size w W' := by
  obtain ⟨W0, hW0⟩ : ∃ W0 : World, W0 = (w.alloc (.cells v.cells 24)).alloc (.cells #[.int .i64 n] 3) := ⟨_, rfl⟩
  have HB0 : Hid (Below w.heap.size w W0) := Lib.hid (by rw [hW0]; exact ((Below.refl _ _).alloc (Nat.le_refl _) _).alloc (by simp) _)
  have g0 : W0.heap[w.heap.size]? = some (.cells v.cells 24 (0, 0)) := by rw [hW0]; exact blk_under _ _ _
  have g1 : W0.heap[w.heap.size + 1]? = some (.cells #[.int .i64 n] 3 (0, 0)) := by rw [hW0]; exact blk_over _ _ _
  have hz0 : W0.heap.size = w.heap.size + 2 := by rw [hW0]; simp
  have HT := Lib.hid (top22_any v s (by omega) W0 (hv.below HB0.out))
  have hlr : (rkS s.cs).length = s.cs.length := (rkS_ok s.cs).1.length_eq
  have HD := Lib.hid (fun (u : Value) (W : World) (hb : Below W0.heap.size W0 W) (ho : W.ownsRow W0.heap.size 27 2 u s.cs.length (ctCells (rkS s.cs))) =>
    delf2_any (w.heap.size + 1) n W0.heap.size u (rkS s.cs) (by rw [hlr]; exact hl) (rkS_ok s.cs).2 W (by rw [hlr]; exact ho) ((hb.cell (p := ⟨w.heap.size + 1, 0, none⟩) (by simp; omega)).trans (cell_of_row _ _ 0 _ _ _ g1)) (by omega) hb.size)
  obtain ⟨mo, to, lo, cs⟩ := s
  obtain ⟨x, rfl, hx⟩ := hv
  dsimp only at HT HD hl hlr ⊢
  have hc : (Value.agg #[.int .i64 mo, .int .i64 to, .int .i64 lo, x]).cells = #[.int .i64 mo, .int .i64 to, .int .i64 lo, x] := rfl
  rw [hc] at hW0 g0
  have HG0 := Lib.hid g0
  have HW := Lib.hid hW0
  clear hx hl hlr hc hW0 g0 g1
  go_enter Try.func30, Try.ntmps30
  go_wp2_with fail
  rw [← HW.out]
  refine HT.out.mono ?_
  rintro e w1 ⟨⟨u, rfl, ho⟩, hb⟩
  have HDx := Lib.hid (HD.out u w1 hb ho)
  have HB1 := Lib.hid (HB0.out.trans (hb.mono HB0.out.size))
  have HZ := Lib.hid HB0.out.size
  clear hb ho
  go_wp2_with fail
  refine HDx.out.mono ?_
  rintro e w2 ⟨⟨u2, rfl, ho2⟩, hb2⟩
  have HB2 := Lib.hid (HB1.out.trans (hb2.mono HZ.out))
  have HO2 := Lib.hid ho2
  clear hb2 ho2
  go_wp2_with fail
  go_ret
  exact ⟨⟨_, rfl, HO2.out⟩, HB2.out⟩
end
section
open Go.ChangeShapes Go.WideShapes Go.ChangeAt Go.RowKit Go.Joins

set_option maxRecDepth 100000 in
set_option maxHeartbeats 4000000 in
theorem poss_any (v : Value) (s : Su) (n : Int) (hl : s.cs.length ≤ 1000) (hn : ¬ n ≤ s.lo → -9223372036854775808 ≤ n - s.lo ∧ n - s.lo ≤ 9223372036854775807) (w : World) (hv : SuV w v s) :
    Calls Try.prog 31 #[v, .int .i64 n] w fun e W' => (if n ≤ s.lo then e = .returned (.tuple #[.slice none 0 0, .int .i64 23]) else ∃ u, e = .returned (.tuple #[u, .int .i64 0]) ∧ SlV W' u (lsW (rkS s.cs) (n - s.lo))) ∧ Below w.heap.size w W' := by
  have hB0 : Below w.heap.size w (w.alloc (.cells v.cells 24)) := (Below.refl _ _).alloc (Nat.le_refl _) _
  have HG := Lib.hid (fun W (hW : Below w.heap.size w W) => guar_any v s (n - s.lo) hl W (hv.below hW))
  have HB0 := Lib.hid hB0
  obtain ⟨mo, to, lo, cs⟩ := s
  obtain ⟨x, rfl, hx⟩ := hv
  dsimp only at HG hl hn ⊢
  have hc : (Value.agg #[.int .i64 mo, .int .i64 to, .int .i64 lo, x]).cells = #[.int .i64 mo, .int .i64 to, .int .i64 lo, x] := rfl
  rw [hc] at HB0
  clear hx hl hc hB0
  by_cases hle : n ≤ lo
  · have hd : decide (n ≤ lo) = true := by simpa using hle
    simp only [if_pos hle]
    clear hn
    go_enter Try.func31, Try.ntmps31
    go_wp2_with fail
    refine bodyPost_ret (results_tmp2 rfl _ _ _) rfl ⟨rfl, HB0.out⟩
  · have hd : decide (n ≤ lo) = false := by simpa using hle
    have hwn : IntKind.i64.wrap (n - lo) = n - lo := by have := hn hle; simp only [IntKind.wrap_i64]; omega
    simp only [if_neg hle]
    clear hn
    go_enter Try.func31, Try.ntmps31
    go_wp2_with fail
    refine (HG.out _ HB0.out).mono ?_
    rintro e w2 ⟨⟨u, rfl, ho⟩, hb⟩
    have HB1 := Lib.hid (HB0.out.trans (hb.mono HB0.out.size))
    have HO := Lib.hid ho
    clear hb ho
    go_wp2_with fail
    refine bodyPost_ret (results_tmp2 rfl _ _ _) rfl ⟨⟨_, rfl, HO.out⟩, HB1.out⟩
end
end Go.Proofs.Ytnpjakgdfjaglaa
