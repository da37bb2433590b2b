/- Slices of keys in memory; slices.BinarySearchFunc of keys. -/
import Derived.Test.YtajainkaomkbjaaBc
namespace Go.Proofs.Ytajainkaomkbjaa
open Go.ChangeShapes Go.WideShapes Go.ChangeAt Go.RowKit Go.Joins Bt

def kyC (x : Ky) : List Value := [.int .i64 x.1, .string x.2]
def kyCells (L : List Ky) : List Value := L.flatMap kyC
theorem ky_len (L : List Ky) : (kyCells L).length = L.length * 2 := flat_len kyC 2 (fun _ => rfl) L
theorem ky_app (L M : List Ky) : kyCells (L ++ M) = kyCells L ++ kyCells M := by simp [kyCells]
theorem ky_get (L : List Ky) (j : Nat) (h : j < L.length) : (kyCells L)[j * 2]? = some (.int .i64 L[j].1) ∧ (kyCells L)[j * 2 + 1]? = some (.string L[j].2) :=
  ⟨flat_get kyC 2 (fun _ => rfl) L j h 0 (by decide), flat_get kyC 2 (fun _ => rfl) L j h 1 (by decide)⟩
theorem ky_one (L : List Ky) : ∀ u ∈ kyCells L, u.oneCell' = true := fun u hu => by
  obtain ⟨x, _, hx⟩ := List.mem_flatMap.1 hu
  simp only [kyC, List.mem_cons, List.not_mem_nil, or_false] at hx
  rcases hx with rfl | rfl <;> rfl
/-- The slice at A reads as the keys L; it lies in a block of keys. -/
def KR (w : World) (A : Option Addr) (L : List Ky) : Prop :=
  ∀ j (h : j < L.length), ∃ b off cs, A = some ⟨b, off, none⟩ ∧ w.heap[b]? = some (.cells cs 50 (0, 0)) ∧ cs[off + j * 2]? = some (.int .i64 L[j].1) ∧ cs[off + j * 2 + 1]? = some (.string L[j].2)
theorem KR.nil {w : World} {A : Option Addr} : KR w A [] := fun j hj => absurd hj (by simp)
theorem KR.keep {w w' : World} {A : Option Addr} {L : List Ky} (h : KR w A L) (hk : ∀ (b : Nat) (cs : Array Value), w.heap[b]? = some (.cells cs 50 (0, 0)) → w'.heap[b]? = w.heap[b]?) : KR w' A L := fun j hj => by
  obtain ⟨b, off, cs, e, h1, h2, h3⟩ := h j hj
  exact ⟨b, off, cs, e, (hk b cs h1).trans h1, h2, h3⟩
theorem KR.below {w w' : World} {A : Option Addr} {L : List Ky} (h : KR w A L) (hb : Below w.heap.size w w') : KR w' A L :=
  h.keep fun b _ h1 => hb.block b (Array.getElem?_eq_some_iff.1 h1).1
theorem KR.grown {w w' : World} {A : Option Addr} {L : List Ky} {g : Nat} {cs : Array Value} {T : TypeId} {fz : Nat × Nat} (h : KR w A L) (hg : w.grownBy w' (some g)) (hb : w.heap[g]? = some (.cells cs T fz)) (hT : T ≠ 50) : KR w' A L :=
  h.keep fun b cs2 h1 => hg.block b (Array.getElem?_eq_some_iff.1 h1).1 (fun e => by
    injection e with e
    subst e
    rw [h1] at hb
    injection hb with hb
    injection hb with _ hb
    exact hT hb.symm)
theorem KR.at {w : World} {A : Option Addr} {L : List Ky} (h : KR w A L) (j : Nat) (hj : j < L.length) :
    ∃ b off, A = some ⟨b, off, none⟩ ∧ b < w.heap.size ∧ w.cell? ⟨b, off + j * 2, none⟩ = some (.int .i64 L[j].1) ∧ w.cell? ⟨b, off + j * 2 + 1, none⟩ = some (.string L[j].2) := by
  obtain ⟨b, off, cs, e, h1, h2, h3⟩ := h j hj
  exact ⟨b, off, e, (Array.getElem?_eq_some_iff.1 h1).1, by rw [cell_of_row w b _ _ _ _ h1]; exact h2, by rw [cell_of_row w b _ _ _ _ h1]; exact h3⟩
theorem KR.take {w : World} {A : Option Addr} {L : List Ky} (h : KR w A L) (n : Nat) : KR w A (L.take n) := fun j hj => by
  rw [List.length_take] at hj
  obtain ⟨b, off, cs, e, h1, h2, h3⟩ := h j (by omega)
  exact ⟨b, off, cs, e, h1, by rw [List.getElem_take]; exact h2, by rw [List.getElem_take]; exact h3⟩
theorem KR.own {w : World} {base n c : Nat} {A : Option Addr} {L : List Ky} (h : w.ownsRow base 50 2 (.slice A n c) n (kyCells L)) : KR w A L := fun j hj => by
  have hl := h.1
  rw [ky_len] at hl
  obtain rfl : n = L.length := by omega
  rcases h.2 with ⟨_, h0⟩ | ⟨g, cap, cur, hv, hbase, hg, hn, hcap, hsz, htake⟩
  · omega
  · injection hv with h1 h2 h3
    subst h1
    obtain ⟨k1, k2⟩ := ky_get L j hj
    have ht : ∀ i v, (kyCells L)[i]? = some v → cur[i]? = some v := fun i v hi => by
      have := (List.getElem?_eq_some_iff.1 hi).1
      rw [ky_len] at this
      rw [← Array.getElem?_toList, ← hi, ← htake, List.getElem?_take_of_lt this]
    exact ⟨g, 0, cur, rfl, hg, by rw [Nat.zero_add]; exact ht _ _ k1, by rw [Nat.zero_add]; exact ht _ _ k2⟩
set_option maxRecDepth 100000 in
set_option maxHeartbeats 4000000 in
theorem bsf_any (A : Option Addr) (c : Nat) (L : List Ky) (kh : Int) (kt : ByteArray) (hS : Srt L) (hL : L.length ≤ 1000000) (w : World) (hR : KR w A L) :
    Calls Try.prog 68 #[.slice A L.length c, .agg #[.int .i64 kh, .string kt], .func (.func 47) #[] #[]] w fun e w' => e = .returned (.tuple #[.int .i64 ((lw L (kh, kt) : Nat) : Int), .bool (decide (L[lw L (kh, kt)]? = some (kh, kt)))]) ∧ Below w.heap.size w w' := by
  have HR := Lib.hid hR
  have HS := Lib.hid hS
  have HG0 := Lib.hid (Deep.blk_alloc_new w (.cells #[.int .i64 kh, .string kt] 50))
  obtain ⟨ln, hln⟩ : ∃ ln, ln = L.length := ⟨_, rfl⟩
  have Hln := Lib.hid hln
  rw [← hln] at hL ⊢
  obtain ⟨r1, hr1⟩ : ∃ r1, r1 = lw L (kh, kt) := ⟨_, rfl⟩
  obtain ⟨r2, hr2⟩ : ∃ r2, r2 = decide (L[lw L (kh, kt)]? = some (kh, kt)) := ⟨_, rfl⟩
  rw [← hr2, ← hr1]
  have H1 := Lib.hid hr1
  have H2 := Lib.hid hr2
  clear hln hr1 hr2 hR hS
  go_enter Try.func68, Try.ntmps68
  go_wp2_with fail
  go_loopw [9, 10] (fun iv jv wr => ∃ lo hi : Nat, iv = .int .i64 (lo : Int) ∧ jv = .int .i64 (hi : Int) ∧ lo ≤ hi ∧ hi ≤ ln ∧ Hid (lo ≤ r1 ∧ r1 ≤ hi) ∧ Hid (wr.heap[w.heap.size]? = some (.cells #[.int .i64 kh, .string kt] 50 (0, 0))) ∧ Hid (Below w.heap.size w wr)) (fun iv jv _ => (intOf jv).toNat - (intOf iv).toNat)
  case atStart => exact ⟨0, ln, rfl, rfl, Nat.zero_le _, Nat.le_refl _, Lib.hid ⟨Nat.zero_le _, by rw [H1.out, Hln.out]; exact lw_le _ _⟩, HG0, Lib.hid ((Below.refl _ _).alloc (Nat.le_refl _) _)⟩
  case round =>
    obtain ⟨lo, hi, rfl, rfl, hle, hhi, HI, HG, HB⟩ := hrel
    have g0 := cell_of_row wr w.heap.size 0 _ _ _ HG.out
    have g1 := cell_of_row wr w.heap.size 1 _ _ _ HG.out
    simp at g0 g1
    by_cases hlt : lo < hi
    · obtain ⟨m, hmm⟩ : ∃ m, m = (lo + hi) / 2 := ⟨_, rfl⟩
      have hm : m < L.length := by have := Hln.out; omega
      have hm1 : lo ≤ m ∧ m < hi := by omega
      have hm2 : ((lo : Int) + (hi : Int)) / 2 = (m : Int) := by omega
      obtain ⟨b, off, rfl, hb, h0, h1⟩ := (HR.out.below HB.out).at m hm
      have Hlt := @ck_lt L[m] (kh, kt)
      have Hlw := srt_low HS.out (kh, kt) m hm
      rw [← H1.out] at Hlw
      obtain ⟨x, hx⟩ : ∃ x, x = L[m] := ⟨_, rfl⟩
      rw [← hx] at h0 h1 Hlt Hlw
      obtain ⟨x1, x2⟩ := x
      dsimp only at h0 h1
      have Hc := Lib.hid (fun W => compare_any x1 kh x2 kt W)
      obtain ⟨r, hr⟩ : ∃ r, r = ckI (x1, x2) (kh, kt) := ⟨_, rfl⟩
      rw [← hr] at Hc Hlt
      rw [Bool.eq_iff_iff, ← Hlt, decide_eq_true_iff] at Hlw
      have hmI : (m : Int) < (ln : Int) := by omega
      have hmI0 : (0 : Int) ≤ (m : Int) := by omega
      have hw1 : IntKind.i64.wrap ((m : Int) + 1) = (m : Int) + 1 := by simp only [IntKind.wrap_i64]; omega
      clear hx hm hmm hr Hlt
      have HC := Lib.hid (And.intro h0 (And.intro h1 (And.intro g0 g1)))
      have HP := Lib.hid (fun (W : World) (o k : Nat) (hB : Below wr.heap.size wr W) (ho : o < wr.heap.size) => hB.cell (p := ⟨o, k, none⟩) ho)
      have hwl := (Array.getElem?_eq_some_iff.1 HG.out).1
      have HD : Hid (Below wr.heap.size wr wr.drew) := Lib.hid (Below.refl _ _).drew
      by_cases hr0 : r < 0
      · have hd : decide (r < 0) = true := by simpa using hr0
        have hml : m < r1 := Hlw.1 hr0
        clear Hlw
        go_wp2_with fail
        go_region_held3 (fun W => W.cell? ⟨b, off + m * 2, none⟩ = some (.int .i64 x1) ∧ W.cell? ⟨b, off + m * 2 + 1, none⟩ = some (.string x2) ∧ W.cell? ⟨w.heap.size, 0, none⟩ = some (.int .i64 kh) ∧ W.cell? ⟨w.heap.size, 1, none⟩ = some (.string kt))
          (first | exact HC.out | exact ⟨(HP.out _ _ _ HD1.out hb).trans HC.out.1, (HP.out _ _ _ HD1.out hb).trans HC.out.2.1, (HP.out _ _ _ HD1.out hwl).trans HC.out.2.2.1, (HP.out _ _ _ HD1.out hwl).trans HC.out.2.2.2⟩)
          ((first
            | (go_at_call 47; (with_reducible refine (Hc.out _).mono ?_); rintro e w1 ⟨rfl, hb1⟩; have HD1 : Hid (Below wr.heap.size wr w1) := Lib.hid (HD.out.trans (hb1.mono HD.out.size)); clear hb1)
            | fail))
        clear h0 h1 g0 g1 hm2
        go_wp2_with fail
        go_roundw
        case rel => exact ⟨m + 1, hi, by go_num, rfl, by omega, hhi, Lib.hid ⟨hml, HI.out.2⟩, Lib.hid ((HD1.out.block _ hwl).trans HG.out), Lib.hid (HB.out.trans (HD1.out.mono HB.out.size))⟩
        case measure => simp [intOf] <;> omega
      · have hd : decide (r < 0) = false := by simpa using hr0
        have hml : ¬ m < r1 := fun h => hr0 (Hlw.2 h)
        clear Hlw
        go_wp2_with fail
        go_region_held3 (fun W => W.cell? ⟨b, off + m * 2, none⟩ = some (.int .i64 x1) ∧ W.cell? ⟨b, off + m * 2 + 1, none⟩ = some (.string x2) ∧ W.cell? ⟨w.heap.size, 0, none⟩ = some (.int .i64 kh) ∧ W.cell? ⟨w.heap.size, 1, none⟩ = some (.string kt))
          (first | exact HC.out | exact ⟨(HP.out _ _ _ HD1.out hb).trans HC.out.1, (HP.out _ _ _ HD1.out hb).trans HC.out.2.1, (HP.out _ _ _ HD1.out hwl).trans HC.out.2.2.1, (HP.out _ _ _ HD1.out hwl).trans HC.out.2.2.2⟩)
          ((first
            | (go_at_call 47; (with_reducible refine (Hc.out _).mono ?_); rintro e w1 ⟨rfl, hb1⟩; have HD1 : Hid (Below wr.heap.size wr w1) := Lib.hid (HD.out.trans (hb1.mono HD.out.size)); clear hb1)
            | fail))
        clear h0 h1 g0 g1 hm2
        go_wp2_with fail
        go_roundw
        case rel => exact ⟨lo, m, rfl, rfl, by omega, by omega, Lib.hid ⟨HI.out.1, Nat.le_of_not_lt hml⟩, Lib.hid ((HD1.out.block _ hwl).trans HG.out), Lib.hid (HB.out.trans (HD1.out.mono HB.out.size))⟩
        case measure => simp [intOf] <;> omega
    · obtain rfl : lo = hi := by omega
      obtain rfl : r1 = lo := by have := HI.out; omega
      by_cases hl : r1 < ln
      · have hm : r1 < L.length := by have := Hln.out; omega
        obtain ⟨b, off, rfl, hb, h0, h1⟩ := (HR.out.below HB.out).at r1 hm
        have Hz := @ck_zero L[r1] (kh, kt)
        have H3 := H2.out
        rw [← H1.out, List.getElem?_eq_getElem hm] at H3
        obtain ⟨x, hx⟩ : ∃ x, x = L[r1] := ⟨_, rfl⟩
        rw [← hx] at h0 h1 Hz H3
        obtain ⟨x1, x2⟩ := x
        dsimp only at h0 h1
        have Hc := Lib.hid (fun W => compare_any x1 kh x2 kt W)
        obtain ⟨r, hr⟩ : ∃ r, r = ckI (x1, x2) (kh, kt) := ⟨_, rfl⟩
        rw [← hr] at Hc Hz
        have hrr : (r == 0) = r2 := by
          rw [H3, Bool.eq_iff_iff, beq_iff_eq, decide_eq_true_iff, Hz]
          exact ⟨fun h => by rw [h], fun h => by injection h⟩
        have hmI : (r1 : Int) < (ln : Int) := by omega
        have hmI0 : (0 : Int) ≤ (r1 : Int) := by omega
        have hd : decide ((r1 : Int) < (ln : Int)) = true := by simpa using hl
        clear hx hm hr Hz H3 hle hhi hlt
        have HC := Lib.hid (And.intro h0 (And.intro h1 (And.intro g0 g1)))
        have HP := Lib.hid (fun (W : World) (o k : Nat) (hB : Below wr.heap.size wr W) (ho : o < wr.heap.size) => hB.cell (p := ⟨o, k, none⟩) ho)
        have hwl := (Array.getElem?_eq_some_iff.1 HG.out).1
        have HD : Hid (Below wr.heap.size wr wr.drew) := Lib.hid (Below.refl _ _).drew
        go_wp2_with fail
        go_region_held3 (fun W => W.cell? ⟨b, off + r1 * 2, none⟩ = some (.int .i64 x1) ∧ W.cell? ⟨b, off + r1 * 2 + 1, none⟩ = some (.string x2) ∧ W.cell? ⟨w.heap.size, 0, none⟩ = some (.int .i64 kh) ∧ W.cell? ⟨w.heap.size, 1, none⟩ = some (.string kt))
          (first | exact HC.out | exact ⟨(HP.out _ _ _ HD1.out hb).trans HC.out.1, (HP.out _ _ _ HD1.out hb).trans HC.out.2.1, (HP.out _ _ _ HD1.out hwl).trans HC.out.2.2.1, (HP.out _ _ _ HD1.out hwl).trans HC.out.2.2.2⟩)
          ((first
            | (go_at_call 47; (with_reducible refine (Hc.out _).mono ?_); rintro e w1 ⟨rfl, hb1⟩; have HD1 : Hid (Below wr.heap.size wr w1) := Lib.hid (HD.out.trans (hb1.mono HD.out.size)); clear hb1)
            | fail))
        go_wp2_with fail
        go_ret2
        exact ⟨rfl, HB.out.trans (HD1.out.mono HB.out.size)⟩
      · have H3 := H2.out
        rw [← H1.out, List.getElem?_eq_none (by have := Hln.out; omega)] at H3
        have hd : decide ((r1 : Int) < (ln : Int)) = false := by simpa using hl
        simp at H3
        subst H3
        clear hle hhi hlt
        go_wp2_with fail
        go_quiet (fail)
        go_wp2_with fail
        go_ret2
        exact ⟨rfl, below_drewN HB.out _⟩
end Go.Proofs.Ytajainkaomkbjaa
