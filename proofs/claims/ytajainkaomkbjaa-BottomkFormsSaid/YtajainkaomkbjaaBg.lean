/- A sketch in memory: keep. -/
import Derived.Test.YtajainkaomkbjaaBf
namespace Go.Proofs.Ytajainkaomkbjaa
open Go.ChangeShapes Go.WideShapes Go.ChangeAt Go.RowKit Go.Joins Bt

theorem SlV.keep {w w' : World} {v : Value} {L : List Ky} (h : SlV w v L) (hk : ∀ (b : Nat) (cs : Array Value), w.heap[b]? = some (.cells cs 50 (0, 0)) → w'.heap[b]? = w.heap[b]?) : SlV w' v L := by
  obtain ⟨A, c, e, h1, h2, h3⟩ := h
  exact ⟨A, c, e, h1, h2, h3.keep hk⟩
theorem SlV.below {w w' : World} {v : Value} {L : List Ky} (h : SlV w v L) (hb : Below w.heap.size w w') : SlV w' v L := by
  obtain ⟨A, c, e, h1, h2, h3⟩ := h
  exact ⟨A, c, e, h1, h2, h3.below hb⟩
/-- Only the sketch in block g has turned. -/
def Gs (g : Nat) (w w' : World) : Prop := w.grownBy w' (some g)
theorem Gs.refl (g : Nat) (w : World) : Gs g w w := ⟨rfl, rfl, rfl, Nat.le_refl _, fun _ _ _ => rfl⟩
theorem Gs.trans {g : Nat} {a b c : World} (h : Gs g a b) (k : Gs g b c) : Gs g a c :=
  ⟨k.os.trans h.os, k.tape.trans h.tape, k.output.trans h.output, Nat.le_trans h.size k.size, fun i hi hn => (k.block i (Nat.lt_of_lt_of_le hi h.size) hn).trans (h.block i hi hn)⟩
theorem Gs.of {g : Nat} {a b : World} (h : Below a.heap.size a b) : Gs g a b := ⟨h.os, h.tape, h.output, h.size, fun i hi _ => h.block i hi⟩
theorem Gs.set {g i : Nat} {a b : World} (h : Gs g a b) (v : Value) : Gs g a (b.setCell ⟨g, i, none⟩ v) := grown_set h v
/-- A change of a sketch that the call itself made. -/
theorem below_gs {B g : Nat} {a b c : World} (h : Below B a b) (k : Gs g b c) (hg : B ≤ g) (hB : B ≤ a.heap.size) : Below B a c :=
  ⟨k.os.trans h.os, k.tape.trans h.tape, k.output.trans h.output, Nat.le_trans h.size k.size, fun i hi => (k.block i (by have := h.size; omega) (fun e => by injection e with e; omega)).trans (h.block i hi)⟩
theorem SlV.gs {w w' : World} {v : Value} {L : List Ky} {g : Nat} {cs : Array Value} {fz : Nat × Nat} (h : SlV w v L) (k : Gs g w w') (hb : w.heap[g]? = some (.cells cs 59 fz)) : SlV w' v L := by
  obtain ⟨A, c, e, h1, h2, h3⟩ := h
  exact ⟨A, c, e, h1, h2, h3.grown k hb (by decide)⟩
/-- A sketch in block g: its size, its seed, its keys and whether there are more. -/
def Sk (w : World) (g : Nat) (n sd : Int) (x : List Ky × Bool) : Prop := ∃ v, SlV w v x.1 ∧ w.heap[g]? = some (.cells #[.int .i64 n, .int .i64 sd, v, .bool x.2] 59 (0, 0))
theorem Sk.lt {w : World} {g : Nat} {n sd : Int} {x : List Ky × Bool} (h : Sk w g n sd x) : g < w.heap.size := by
  obtain ⟨_, _, h⟩ := h
  exact (Array.getElem?_eq_some_iff.1 h).1
theorem Sk.below {w w' : World} {g : Nat} {n sd : Int} {x : List Ky × Bool} (h : Sk w g n sd x) (hb : Below w.heap.size w w') : Sk w' g n sd x := by
  obtain ⟨v, h1, h2⟩ := h
  exact ⟨v, h1.below hb, (hb.block g (Array.getElem?_eq_some_iff.1 h2).1).trans h2⟩
theorem Sk.gs {w w' : World} {g g2 : Nat} {n sd n2 sd2 : Int} {x x2 : List Ky × Bool} (h : Sk w g n sd x) (h2 : Sk w g2 n2 sd2 x2) (k : Gs g2 w w') (hne : g ≠ g2) : Sk w' g n sd x := by
  obtain ⟨v, h1, h3⟩ := h
  obtain ⟨v2, _, h4⟩ := h2
  exact ⟨v, h1.gs k h4, (k.block g (Array.getElem?_eq_some_iff.1 h3).1 (fun e => hne (by injection e))).trans h3⟩
set_option maxRecDepth 100000 in
set_option maxHeartbeats 1000000 in
theorem keep_any (g n : Nat) (sd : Int) (hn : n ≤ 1024) (m : Bool) (v0 v : Value) (L : List Ky) (hL : L.length ≤ 1000000) (w : World) (hg : w.heap[g]? = some (.cells #[.int .i64 (n : Int), .int .i64 sd, v0, .bool m] 59 (0, 0))) (hv : SlV w v L) :
    Calls Try.prog 45 #[.pointer (some ⟨g, 0, none⟩), v] w fun e w' => e = .returned (.tuple #[]) ∧ Sk w' g n sd (kep n L m) ∧ Gs g w w' := by
  obtain ⟨A, c, rfl, hlc, hnl, hR⟩ := hv
  have c0 := cell_of_row w g 0 _ _ _ hg
  have c2 := cell_of_row w g 2 _ _ _ hg
  have c3 := cell_of_row w g 3 _ _ _ hg
  have f2 := frozen_of_row w g 2 _ _ hg
  have f3 := frozen_of_row w g 3 _ _ hg
  have hgl := (Array.getElem?_eq_some_iff.1 hg).1
  simp at c0 c2 c3
  have HG := Lib.hid hg
  have HR := Lib.hid hR
  have HNl := Lib.hid hnl
  have HK1 : Hid (∀ W v', Gs g w W → SlV W v' (L.take n) → n < L.length → W.heap[g]? = some (.cells #[.int .i64 (n : Int), .int .i64 sd, v', .bool true] 59 (0, 0)) → Sk W g n sd (kep n L m)) := Lib.hid (fun W v' hG hs hl h => by unfold kep; rw [if_pos hl]; exact ⟨v', hs, h⟩)
  have HK2 : Hid (∀ W v', Gs g w W → SlV W v' L → ¬ n < L.length → W.heap[g]? = some (.cells #[.int .i64 (n : Int), .int .i64 sd, v', .bool m] 59 (0, 0)) → Sk W g n sd (kep n L m)) := Lib.hid (fun W v' hG hs hl h => by unfold kep; rw [if_neg hl]; exact ⟨v', hs, h⟩)
  obtain ⟨l, hl⟩ : ∃ l, L.length = l := ⟨_, rfl⟩
  have HL := Lib.hid hl
  rw [hl] at hL hlc ⊢
  clear hg hR hnl hl
  by_cases hlt : n < l
  · have hnc : n ≤ c := by omega
    have hl0 : (0 : Int) ≤ (n : Int) := by omega
    have hlI : (n : Int) < (l : Int) := by omega
    have hcI : (n : Int) ≤ (c : Int) := by omega
    go_enter Try.func45, Try.ntmps45
    go_wp2_with fail
    refine bodyPost_end (results_none rfl _ _ _) rfl ⟨rfl, ?_, ?_⟩
    · have hG : Gs g w ((w.setCell ⟨g, 3, none⟩ (.bool true)).setCell ⟨g, 2, none⟩ (.slice A n c)) := ((Gs.refl g w).set _).set _
      refine HK1.out _ _ hG ⟨A, c, by rw [List.length_take, HL.out, Nat.min_eq_left (by omega)], by rw [List.length_take]; omega, HNl.out, (HR.out.take n).grown hG HG.out (by decide)⟩ (by rw [HL.out]; omega) ?_
      rw [blk_set _ (blk_set _ HG.out)]
      simp
    · exact ((Gs.refl g w).set _).set _
  · have hl0 : ¬ (n : Int) < (l : Int) := by omega
    go_enter Try.func45, Try.ntmps45
    go_wp2_with fail
    refine bodyPost_end (results_none rfl _ _ _) rfl ⟨rfl, ?_, ?_⟩
    · have hG : Gs g w (w.setCell ⟨g, 2, none⟩ (.slice A l c)) := (Gs.refl g w).set _
      refine HK2.out _ _ hG ⟨A, c, by rw [HL.out], by rw [HL.out]; omega, HNl.out, HR.out.grown hG HG.out (by decide)⟩ (by rw [HL.out]; omega) ?_
      rw [blk_set _ HG.out]
      simp
    · exact (Gs.refl g w).set _
end Go.Proofs.Ytajainkaomkbjaa
