/- EncodingReads: the call. -/
import Derived.Test.YtepcihfkkeahhaaRk
import Derived.Test.YtepcihfkkeahhaaDg
namespace Go.Proofs.Ytepcihfkkeahhaa
open Go.ChangeShapes Go.WideShapes Go.ChangeAt Go.RowKit En

def opC (o : Nat × Int) : List Value := [.int .u8 (o.1 : Int), .int .i64 o.2]
theorem Two.bel {w w' : World} {r b : Nat} {s : ByteArray} {st : St} (h : Two w w' r b s st) (hr : w.heap.size ≤ r) (hb : w.heap.size ≤ b) : Below w.heap.size w w' :=
  ⟨h.os, h.tape, h.output, h.size, fun i hi => h.block i hi (by omega) (by omega)⟩
set_option maxRecDepth 100000 in
set_option maxHeartbeats 8000000 in
theorem readsl_any (s : ByteArray) (hs : s.size ≤ 200) (A : Option Addr) (c : Nat) (L : List (Nat × Int)) (hL : L.length ≤ 20) (w : World) (hR : Rs w w.heap.size A (L.flatMap opC)) :
    Calls Try.prog 5 #[.string s, .slice A L.length c] w fun e w' => e = .returned (.bool true) ∧ Below w.heap.size w w' := by
  have hs' : ¬ (200 : Int) < (s.size : Int) := by omega
  have hL' : ¬ (20 : Int) < (L.length : Int) := by omega
  have HR := Lib.hid hR
  clear hR
  go_enter Try.func5, Try.ntmps5
  go_wp2_with fail
  refine (known_any w).mono ?_
  rintro e w1 ⟨rfl, hb⟩
  have HB1 := Lib.hid hb
  have hs1 := hb.size
  clear hb
  go_wp2_with fail
  refine (new_reader s w1).mono ?_
  rintro e w2 ⟨rfl, hr2, hb⟩
  obtain ⟨r, hr⟩ : ∃ r, r = w1.heap.size := ⟨_, rfl⟩
  obtain ⟨b, hbb⟩ : ∃ b, b = w2.heap.size := ⟨_, rfl⟩
  have hrb : r < b := by rw [hr, hbb]; exact hr2.lt
  have hwr : w.heap.size ≤ r := by omega
  have hA2 : Below w2.heap.size w2 (w2.alloc (.cells #[.string s, .int .i64 0, .int .i64 0] 37)) := (Below.refl _ _).alloc (Nat.le_refl _) _
  have hB2 : Below w.heap.size w (w2.alloc (.cells #[.string s, .int .i64 0, .int .i64 0] 37)) := HB1.out.trans ((hb.trans (hA2.mono hb.size)).mono hs1)
  have HT2 : Hid (Two w (w2.alloc (.cells #[.string s, .int .i64 0, .int .i64 0] 37)) r b s (0, 0)) := Lib.hid ⟨Or.inr ⟨r, rfl, by rw [hr]; exact hr2.below hA2⟩, ⟨by rw [hbb]; exact Deep.blk_alloc_new w2 _, Nat.zero_le _⟩, hB2.os, hB2.tape, hB2.output, hB2.size, fun i hi _ _ => hB2.block i hi⟩
  rw [← hr]
  clear hb hr2 hA2 hB2 hr
  go_wp2_with fail
  rw [← hbb]
  clear hbb
  go_loopw [7] (fun iv wr => ∃ (j : Nat) (st : St), j ≤ L.length ∧ iv = .int .i64 (j : Int) ∧ Hid (Two w wr r b s st)) (fun iv _ => L.length - (intOf iv).toNat)
  case atStart => exact ⟨0, (0, 0), Nat.zero_le _, rfl, HT2⟩
  case round =>
    obtain ⟨j, st, hj, rfl, HT⟩ := hrel
    have hBr := HT.out.bel hwr (by omega)
    by_cases hlt : j < L.length
    · obtain ⟨g, off, rfl, hg, hcs⟩ := rows_at (C := opC) (k := 2) (by decide) (fun _ => rfl) (HR.out.below hBr) j hlt
      have h0 := hcs 0 (by decide)
      have h1 := hcs 1 (by decide)
      obtain ⟨⟨kd, m⟩, hx⟩ : ∃ x, x = L[j] := ⟨_, rfl⟩
      rw [← hx] at h0 h1
      simp only [opC, Nat.add_zero, List.getElem?_cons_succ, List.getElem?_cons_zero] at h0 h1
      have hce := reads_any r b (by omega) s (by omega) st kd m w wr.drew (HT.out.below (Below.drew (Below.refl _ _)))
      have Hce := Lib.hid hce
      have hszr : w.heap.size ≤ wr.heap.size := hBr.size
      clear hcs hx hce hBr
      go_wp2_with fail
      go_region_law ((first
        | (go_simp; go_at_call 21; refine Hce.out.mono ?_; rintro e w3 ⟨rfl, ⟨p2, e2⟩, hT⟩; have HT3 := Lib.hid hT; have q1 := cell_of_row w3 b 1 _ _ _ hT.rr.1; have q2 := cell_of_row w3 b 2 _ _ _ hT.rr.1; have hp2 : p2 ≤ s.size := hT.rr.2; obtain ⟨d, hd⟩ : ∃ d : Nat, d = s.size - p2 := ⟨_, rfl⟩; have hd1 : (s.size : Int) - (p2 : Int) = (d : Int) := (by omega); have hd2 : IntKind.i64.wrap (d : Int) = (d : Int) := (by simp only [IntKind.wrap_i64]; omega); have hl3 := left_q (qb r) s (p2, e2) (by omega); rw [← hd] at hl3; have Hl3 := Lib.hid hl3; have Hd := Lib.hid hd; dsimp only at q1 q2; clear hT hl3 hd)
        | (go_simp; go_at_call 22; refine (err_q (qb r) s (p2, e2) _ HT3.out.rp).mono ?_; rintro e w4 ⟨rfl, rfl⟩)
        | (go_simp; go_at_call 20; refine (Hl3.out _ HT3.out.rp).mono ?_; rintro e w5 ⟨rfl, hb⟩; have HT5 := Lib.hid (HT3.out.below hb); have q51 := cell_of_row w5 b 1 _ _ _ HT5.out.rr.1; dsimp only at q51; clear hb)
        | (go_simp; go_at_call 19; refine (end_q (qb r) s (p2, e2) (by omega) _ HT5.out.rp).mono ?_; rintro e w6 ⟨rfl, hb⟩; have HT6 := Lib.hid (HT5.out.below hb); clear hb)
        | (go_simp; go_at_call 23; refine (rr_end b s (p2, e2) (by omega) _ HT6.out.rr).mono ?_; rintro e w7 ⟨rfl, hb⟩; have HT7 := Lib.hid (HT6.out.below hb); clear hb)))
      all_goals
        go_wp2_with fail
        go_roundw
        case rel => exact ⟨j + 1, (p2, e2), by omega, by go_num, HT7⟩
        case measure => simp [intOf]; omega
    · go_wp2_with fail
      go_ret
      exact ⟨rfl, HT.out.bel hwr (by omega)⟩
end Go.Proofs.Ytepcihfkkeahhaa
