/- The law's exact; what a summary says of each key. -/
import Derived.Test.YtnpjakgdfjaglaaHu
namespace Go.Proofs.Ytnpjakgdfjaglaa
open Go.ChangeShapes Go.WideShapes Go.ChangeAt Go.RowKit Go.Joins

theorem ex_take (L : List It) (key : ByteArray) {j : Nat} (hj : j < L.length) : exL (L.take (j + 1)) key = exL (L.take j) key + if key = kyI L[j].1 then wtI L[j] else 0 := by
  rw [List.take_succ_eq_append_getElem hj, exL_snoc]
theorem ex_small (L : List It) (key : ByteArray) (j : Nat) (hj : j ≤ 60) : 0 ≤ exL (L.take j) key ∧ exL (L.take j) key ≤ 1920 := by
  have h1 := exL_bd (L.take j) key
  have h2 := toL_bd (L.take j)
  rw [List.length_take] at h2
  omega
set_option maxRecDepth 100000 in
set_option maxHeartbeats 4000000 in
theorem exact_any (A : Option Addr) (c : Nat) (L : List It) (hL : L.length ≤ 9223372036854775807) (hI : ∀ x ∈ L, ItOk x) (key : ByteArray) (w : World) (hR : IR w A L) :
    Calls Try.prog 25 #[.slice A L.length c, .string key] w fun e w' => e = .returned (.int .i64 (exL (L.take 60) key)) ∧ Below w.heap.size w w' := by
  have HR := Lib.hid hR
  have HI := Lib.hid hI
  have HEx := Lib.hid (fun j hj => ex_small L key j hj)
  have H0 : Hid (exL (L.take 0) key = 0) := Lib.hid (by rw [List.take_zero]; rfl)
  obtain ⟨ln, hln⟩ : ∃ ln, ln = L.length := ⟨_, rfl⟩
  have HLn := Lib.hid hln
  rw [← hln] at hL ⊢
  clear hR hI hln
  go_enter Try.func25, Try.ntmps25
  go_wp2_with fail
  go_loopw [5, 6] (fun nv iv wr => ∃ (j : Nat) (z : Int), j ≤ ln ∧ j ≤ 60 ∧ iv = .int .i64 (j : Int) ∧ nv = .int .i64 z ∧ Hid (z = exL (L.take j) key) ∧ Hid (Below w.heap.size w wr)) (fun _ iv _ => 60 - (intOf iv).toNat)
  case atStart => exact ⟨0, 0, Nat.zero_le _, Nat.zero_le _, rfl, rfl, Lib.hid H0.out.symm, Lib.hid (Below.refl _ _)⟩
  case round =>
    obtain ⟨j, z, hj, hj6, rfl, rfl, HZ, HB⟩ := hrel
    have hj0 : (0 : Int) ≤ (j : Int) := by omega
    by_cases hlt : j < ln ∧ j < 60
    · obtain ⟨hlt, hlt6⟩ := hlt
      have hj2 : j < L.length := by rw [← HLn.out]; exact hlt
      obtain ⟨b, off, rfl, hb, h0, h1⟩ := (HR.out.below HB.out) j hj2
      have hok := HI.out _ (List.getElem_mem hj2)
      have HT := Lib.hid (ex_take L key hj2)
      have hzb : 0 ≤ z ∧ z ≤ 1920 := by rw [HZ.out]; exact HEx.out j hj6
      obtain ⟨x, hx⟩ : ∃ x, x = L[j] := ⟨_, rfl⟩
      rw [← hx] at h0 h1 hok HT
      clear hx hj2
      have HKy := Lib.hid (fun W => key_any x hok.1 W)
      have HWt := Lib.hid (fun W => weight_any x hok.2 W)
      have hwb := wt_bd x
      obtain ⟨y, hy⟩ : ∃ y, y = kyI x.1 := ⟨_, rfl⟩
      obtain ⟨q, hq⟩ : ∃ q, q = wtI x := ⟨_, rfl⟩
      rw [← hy] at HKy HT
      rw [← hq] at HWt HT hwb
      clear hy hq hok
      obtain ⟨k, n⟩ := x
      dsimp only at h0 h1
      have hjI : (j : Int) < (ln : Int) := by omega
      have hjI6 : (j : Int) < 60 := by omega
      have hw1 : IntKind.i64.wrap ((j : Int) + 1) = (j : Int) + 1 := by simp only [IntKind.wrap_i64]; omega
      obtain ⟨g, hg⟩ : ∃ g, g = z + q := ⟨_, rfl⟩
      have hw2 : IntKind.i64.wrap (z + q) = g := by rw [hg]; simp only [IntKind.wrap_i64]; omega
      have HG := Lib.hid hg
      clear hg hzb hwb
      go_wp2_with fail
      refine (HKy.out _).mono ?_
      rintro e w1 ⟨rfl, hb1⟩
      have HB1 := Lib.hid (HB.out.trans (hb1.mono HB.out.size))
      have g0 := (hb1.cell (p := ⟨b, off + j * 2, none⟩) hb).trans h0
      have g1 := (hb1.cell (p := ⟨b, off + j * 2 + 1, none⟩) hb).trans h1
      have hb9 := Nat.lt_of_lt_of_le hb hb1.size
      clear hb1 h0 h1 hb
      by_cases e : key = y
      · have he : (y.toList == key.toList) = true := by rw [e]; simp
        have HT2 : Hid (g = exL (L.take (j + 1)) key) := Lib.hid (by rw [HT.out, if_pos e, ← HZ.out, HG.out])
        clear e
        go_wp2_with fail
        refine (HWt.out _).mono ?_
        rintro e w2 ⟨rfl, hb2⟩
        have HB2 := Lib.hid (HB1.out.trans (hb2.mono HB1.out.size))
        clear hb2
        go_wp2_with fail
        go_roundw
        case rel => exact ⟨j + 1, g, by omega, by omega, by go_num, rfl, HT2, HB2⟩
        case measure => simp [intOf] <;> omega
      · have he : (y.toList == key.toList) = false := (Lib.bytes_beq_false_iff y key).2 (fun h => e h.symm)
        have HT2 : Hid (z = exL (L.take (j + 1)) key) := Lib.hid (by rw [HT.out, if_neg e, ← HZ.out, Int.add_zero])
        clear e
        go_wp2_with fail
        go_roundw
        case rel => exact ⟨j + 1, z, by omega, by omega, by go_num, rfl, HT2, HB1⟩
        case measure => simp [intOf] <;> omega
    · have HT : Hid (L.take j = L.take 60) := Lib.hid (by
        by_cases e : j = 60
        · rw [e]
        · rw [List.take_of_length_le (by rw [← HLn.out]; omega), List.take_of_length_le (by rw [← HLn.out]; omega)])
      have HZ2 : Hid (z = exL (L.take 60) key) := Lib.hid (by rw [HZ.out, HT.out])
      by_cases h1 : j < ln
      · have hjI : (j : Int) < (ln : Int) := by omega
        have hjI6 : ¬ (j : Int) < 60 := by omega
        clear hlt h1
        go_wp2_with fail
        go_ret
        exact ⟨by rw [← HZ2.out]; rfl, HB.out⟩
      · have hjI : ¬ (j : Int) < (ln : Int) := by omega
        clear hlt h1
        go_wp2_with fail
        go_ret
        exact ⟨by rw [← HZ2.out]; rfl, HB.out⟩
end Go.Proofs.Ytnpjakgdfjaglaa
