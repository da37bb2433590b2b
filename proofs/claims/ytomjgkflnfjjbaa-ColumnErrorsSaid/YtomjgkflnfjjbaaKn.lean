/- The four forms under one word; shortestForm (written by wip/bin/gen_kn.py). -/
import Derived.Test.YtomjgkflnfjjbaaKm
namespace Go.Proofs.Ytomjgkflnfjjbaa
open Go.ChangeShapes Go.WideShapes Go.ChangeAt Go.RowKit En

/-- The parts of the form of a kind. -/
def ptF (k : Int) (L : List Int) : List (List UInt8) :=
  if k = 1 then prL L.length L [num 1] L.length
  else if k = 2 then prL L.length (dlL 0 L) [num 2] L.length
  else if k = 3 then prR (rlF L L.length) [num 3] (rlF L L.length).length
  else prK L [num 4]
/-- The form of a kind. -/
def fmB (k : Int) (L : List Int) : ByteArray := ⟨(whole (ptF k L)).toArray⟩
theorem form_packed (A : Option Addr) (c : Nat) (L : List Int) (hl : L.length ≤ 4096) (hL : Vs L) (w : World) (hR : Rd (Value.int .i64) w A L) :
    Calls Try.prog 29 #[.agg (layV 4), .slice A L.length c] w fun e w' => e = .returned (.string ⟨(whole (prK L [num 4])).toArray⟩) ∧ Below w.heap.size w w' := by
  have ht := num_small 4 (by omega)
  have hb1 := lsF_bd hL
  have hw := wdF_le hL
  have hsz := szF_le L.length (wdF L) hl hw
  have n1 := num_bounds (4 : Int) (by omega) (by omega)
  have n2 := num_bounds (L.length : Int) (by omega) (by omega)
  have n3 := num_bounds (lsF L) (by omega) (by omega)
  have n4 := num_bounds ((wdF L : Nat) : Int) (by omega) (by omega)
  have n5 := num_bounds (((pkB L).length : Nat) : Int) (by rw [pkB_len]; omega) (by rw [pkB_len]; omega)
  have ht5 : (text ⟨(pkB L).toArray⟩).length = (num ((pkB L).length : Int)).length + (pkB L).length := by
    rw [text_len]; rfl
  have hb5 := pkB_len L
  refine form_any 62 63 4 (by omega) _ ?_ ?_ A L.length c w
    (fun g W hg hB hW => write_packed w g hg [num 4] A c L hl hL (by omega) W hB hW hR) (enters_of Try.func62 (by kernel_rfl) rfl)
  · intro f hf
    simp only [prK, List.mem_cons, List.not_mem_nil, or_false] at hf
    rcases hf with rfl | rfl | rfl | rfl | rfl <;> omega
  · simp only [prK, total_cons]
    rw [show total [] = 0 from rfl]
    omega
theorem form_of (k : Int) (hk : 1 ≤ k ∧ k ≤ 4) (A : Option Addr) (c : Nat) (L : List Int) (hl : L.length ≤ 4096) (hL : Vs L) (w : World) (hR : Rd (Value.int .i64) w A L) :
    Calls Try.prog 29 #[.agg (layV k), .slice A L.length c] w fun e w' => e = .returned (.string (fmB k L)) ∧ Below w.heap.size w w' := by
  rcases (by omega : k = 1 ∨ k = 2 ∨ k = 3 ∨ k = 4) with rfl | rfl | rfl | rfl
  · exact form_plain A c L hl hL w hR
  · exact form_delta A c L hl hL w hR
  · exact form_runs A c L hl hL w hR
  · exact form_packed A c L hl hL w hR
/-- The shortest one of the first j kinds, and its kind. -/
def bsF (L : List Int) : Nat → Int × ByteArray
  | 0 => (0, ⟨#[]⟩)
  | j + 1 => if j = 0 ∨ (fmB ((j : Int) + 1) L).size < (bsF L j).2.size then ((j : Int) + 1, fmB ((j : Int) + 1) L) else bsF L j
theorem bsF_kind (L : List Int) (j : Nat) : 1 ≤ (bsF L (j + 1)).1 ∧ (bsF L (j + 1)).1 ≤ (j : Int) + 1 := by
  induction j with
  | zero =>
    have e : bsF L (0 + 1) = _ := if_pos (Or.inl rfl)
    rw [e]; simp
  | succ j ih =>
    by_cases h : j + 1 = 0 ∨ (fmB (((j + 1 : Nat) : Int) + 1) L).size < (bsF L (j + 1)).2.size
    · have e : bsF L (j + 1 + 1) = _ := if_pos h
      rw [e]; dsimp only; omega
    · have e : bsF L (j + 1 + 1) = _ := if_neg h
      rw [e]; omega
set_option maxRecDepth 100000 in
set_option maxHeartbeats 4000000 in
theorem shortest_any (A : Option Addr) (c : Nat) (L : List Int) (hl : L.length ≤ 4096) (hL : Vs L) (w : World) (hR : Rd (Value.int .i64) w A L) :
    Calls Try.prog 34 #[.slice A L.length c] w fun e w' => e = .returned (.tuple #[.int .i64 (bsF L 4).1, .string (bsF L 4).2]) ∧ Below w.heap.size w w' := by
  have HF := Lib.hid (fun (k : Int) (hk : 1 ≤ k ∧ k ≤ 4) (W : World) (hb : Below w.heap.size w W) => form_of k hk A c L hl hL W (hR.below hb))
  have HK := Lib.hid (bsF_kind L)
  have HS : Hid (∀ j, bsF L (j + 1) = if j = 0 ∨ (fmB ((j : Int) + 1) L).size < (bsF L j).2.size then ((j : Int) + 1, fmB ((j : Int) + 1) L) else bsF L j) := Lib.hid (fun _ => rfl)
  clear hL hR
  go_enter Try.func34, Try.ntmps34
  go_wp2_with fail
  refine (layouts_any _).mono ?_
  rintro e w1 ⟨rfl, hb⟩
  have HB1 : Hid (Below w.heap.size w w1) := Lib.hid hb
  clear hb
  go_wp2_with fail
  go_loopw [4, 5, 10] (fun kv sv iv wr => ∃ j : Nat, j ≤ 4 ∧ iv = .int .i64 (j : Int) ∧ kv = .int .i64 (bsF L j).1 ∧ sv = .string (bsF L j).2 ∧ Hid (Below w.heap.size w wr)) (fun _ _ iv _ => 4 - (intOf iv).toNat)
  case atStart => exact ⟨0, Nat.zero_le _, rfl, rfl, rfl, HB1⟩
  case round =>
    obtain ⟨j, hj, rfl, rfl, rfl, HB⟩ := hrel
    have hj5 : j = 0 ∨ j = 1 ∨ j = 2 ∨ j = 3 ∨ j = 4 := by omega
    have hsz := HB.out.size
    rcases hj5 with rfl | rfl | rfl | rfl | rfl
    · have H1 := Lib.hid (HF.out 1 (by omega) (wr.alloc (.cells #[.int .i64 1, .func (.func 56) #[] #[], .func (.func 57) #[] #[]] 61)) (HB.out.alloc hsz _))
      have HB2 := Lib.hid (HB.out.alloc hsz (.cells #[.int .i64 1, .func (.func 56) #[] #[], .func (.func 57) #[] #[]] 61))
      have HK1 : Hid (((wr.alloc (.cells #[.int .i64 1, .func (.func 56) #[] #[], .func (.func 57) #[] #[]] 61))).heap[wr.heap.size]? = some (.cells #[.int .i64 1, .func (.func 56) #[] #[], .func (.func 57) #[] #[]] 61 (0, 0))) := Lib.hid (Deep.blk_alloc_new wr _)
      have HN := HS.out 0
      rw [if_pos (Or.inl rfl)] at HN
      obtain ⟨S, hS⟩ : ∃ S, S = fmB 1 L := ⟨_, rfl⟩
      rw [show (((0 : Nat) : Int) + 1) = 1 from rfl, ← hS] at HN
      rw [← hS] at H1
      clear hS
      have HN0 : Hid ((bsF L 0) = (0, ⟨#[]⟩)) := Lib.hid rfl
      rw [HN0.out]
      rw [show (((0 : Nat) : Int)) = 0 from rfl]
      have i0 := fun W => index_lay0 W
      go_wp2_with fail
      refine H1.out.mono ?_
      rintro e w3 ⟨rfl, hb⟩
      have HB3 := Lib.hid (HB2.out.trans (hb.mono HB2.out.size))
      have HK3 := Lib.hid ((hb.block wr.heap.size (by simp)).trans HK1.out)
      have hlt3 : wr.heap.size < w3.heap.size := (Array.getElem?_eq_some_iff.1 HK3.out).1
      have hc3 : w3.cell? ⟨wr.heap.size, 0, none⟩ = some (.int .i64 1) := cell_of_row w3 wr.heap.size 0 #[.int .i64 1, .func (.func 56) #[] #[], .func (.func 57) #[] #[]] _ _ HK3.out
      clear hb
      go_wp2_with fail
      go_roundw
      case rel => exact ⟨1, by omega, by go_num, by rw [HN], by rw [HN], HB3⟩
      case measure => simp [intOf]
    · have H1 := Lib.hid (HF.out 2 (by omega) (wr.alloc (.cells #[.int .i64 2, .func (.func 58) #[] #[], .func (.func 59) #[] #[]] 61)) (HB.out.alloc hsz _))
      have HB2 := Lib.hid (HB.out.alloc hsz (.cells #[.int .i64 2, .func (.func 58) #[] #[], .func (.func 59) #[] #[]] 61))
      have HK1 : Hid (((wr.alloc (.cells #[.int .i64 2, .func (.func 58) #[] #[], .func (.func 59) #[] #[]] 61))).heap[wr.heap.size]? = some (.cells #[.int .i64 2, .func (.func 58) #[] #[], .func (.func 59) #[] #[]] 61 (0, 0))) := Lib.hid (Deep.blk_alloc_new wr _)
      have HN := HS.out 1
      obtain ⟨S, hS⟩ : ∃ S, S = fmB 2 L := ⟨_, rfl⟩
      rw [show (((1 : Nat) : Int) + 1) = 2 from rfl, ← hS] at HN
      rw [← hS] at H1
      clear hS
      have hk0 := HK.out 0
      rw [show 0 + 1 = 1 from rfl] at hk0
      obtain ⟨kk, hkk⟩ : ∃ kk, kk = (bsF L 1).1 := ⟨_, rfl⟩
      obtain ⟨T, hT⟩ : ∃ T, T = (bsF L 1).2 := ⟨_, rfl⟩
      rw [← hT] at HN
      rw [← hkk] at hk0
      rw [← hkk, ← hT]
      have HkT : Hid (kk = (bsF L 1).1 ∧ T = (bsF L 1).2) := Lib.hid ⟨hkk, hT⟩
      have hke : (kk == 0) = false := by simp; omega
      clear hkk hT
      rw [show (((1 : Nat) : Int)) = 1 from rfl]
      have i0 := fun W => index_lay1 W
      by_cases hsT : S.size < T.size
      · rw [if_pos (Or.inr hsT)] at HN
        have HN1 := Lib.hid HN
        clear HN
        go_wp2_with fail
        refine H1.out.mono ?_
        rintro e w3 ⟨rfl, hb⟩
        have HB3 := Lib.hid (HB2.out.trans (hb.mono HB2.out.size))
        have HK3 := Lib.hid ((hb.block wr.heap.size (by simp)).trans HK1.out)
        have hlt3 : wr.heap.size < w3.heap.size := (Array.getElem?_eq_some_iff.1 HK3.out).1
        have hc3 : w3.cell? ⟨wr.heap.size, 0, none⟩ = some (.int .i64 2) := cell_of_row w3 wr.heap.size 0 #[.int .i64 2, .func (.func 58) #[] #[], .func (.func 59) #[] #[]] _ _ HK3.out
        clear hb
        go_wp2_with fail
        go_roundw
        case rel => exact ⟨2, by omega, by go_num, by rw [HN1.out], by rw [HN1.out], HB3⟩
        case measure => simp [intOf]
      · rw [if_neg (by rintro (h | h); omega; exact hsT h)] at HN
        have HN1 := Lib.hid HN
        clear HN
        go_wp2_with fail
        refine H1.out.mono ?_
        rintro e w3 ⟨rfl, hb⟩
        have HB3 := Lib.hid (HB2.out.trans (hb.mono HB2.out.size))
        have HK3 := Lib.hid ((hb.block wr.heap.size (by simp)).trans HK1.out)
        have hlt3 : wr.heap.size < w3.heap.size := (Array.getElem?_eq_some_iff.1 HK3.out).1
        have hc3 : w3.cell? ⟨wr.heap.size, 0, none⟩ = some (.int .i64 2) := cell_of_row w3 wr.heap.size 0 #[.int .i64 2, .func (.func 58) #[] #[], .func (.func 59) #[] #[]] _ _ HK3.out
        clear hb
        go_wp2_with fail
        go_roundw
        case rel => exact ⟨2, by omega, by go_num, by rw [HN1.out, ← HkT.out.1], by rw [HN1.out, ← HkT.out.2], HB3⟩
        case measure => simp [intOf]
    · have H1 := Lib.hid (HF.out 3 (by omega) (wr.alloc (.cells #[.int .i64 3, .func (.func 60) #[] #[], .func (.func 61) #[] #[]] 61)) (HB.out.alloc hsz _))
      have HB2 := Lib.hid (HB.out.alloc hsz (.cells #[.int .i64 3, .func (.func 60) #[] #[], .func (.func 61) #[] #[]] 61))
      have HK1 : Hid (((wr.alloc (.cells #[.int .i64 3, .func (.func 60) #[] #[], .func (.func 61) #[] #[]] 61))).heap[wr.heap.size]? = some (.cells #[.int .i64 3, .func (.func 60) #[] #[], .func (.func 61) #[] #[]] 61 (0, 0))) := Lib.hid (Deep.blk_alloc_new wr _)
      have HN := HS.out 2
      obtain ⟨S, hS⟩ : ∃ S, S = fmB 3 L := ⟨_, rfl⟩
      rw [show (((2 : Nat) : Int) + 1) = 3 from rfl, ← hS] at HN
      rw [← hS] at H1
      clear hS
      have hk0 := HK.out 1
      rw [show 1 + 1 = 2 from rfl] at hk0
      obtain ⟨kk, hkk⟩ : ∃ kk, kk = (bsF L 2).1 := ⟨_, rfl⟩
      obtain ⟨T, hT⟩ : ∃ T, T = (bsF L 2).2 := ⟨_, rfl⟩
      rw [← hT] at HN
      rw [← hkk] at hk0
      rw [← hkk, ← hT]
      have HkT : Hid (kk = (bsF L 2).1 ∧ T = (bsF L 2).2) := Lib.hid ⟨hkk, hT⟩
      have hke : (kk == 0) = false := by simp; omega
      clear hkk hT
      rw [show (((2 : Nat) : Int)) = 2 from rfl]
      have i0 := fun W => index_lay2 W
      by_cases hsT : S.size < T.size
      · rw [if_pos (Or.inr hsT)] at HN
        have HN1 := Lib.hid HN
        clear HN
        go_wp2_with fail
        refine H1.out.mono ?_
        rintro e w3 ⟨rfl, hb⟩
        have HB3 := Lib.hid (HB2.out.trans (hb.mono HB2.out.size))
        have HK3 := Lib.hid ((hb.block wr.heap.size (by simp)).trans HK1.out)
        have hlt3 : wr.heap.size < w3.heap.size := (Array.getElem?_eq_some_iff.1 HK3.out).1
        have hc3 : w3.cell? ⟨wr.heap.size, 0, none⟩ = some (.int .i64 3) := cell_of_row w3 wr.heap.size 0 #[.int .i64 3, .func (.func 60) #[] #[], .func (.func 61) #[] #[]] _ _ HK3.out
        clear hb
        go_wp2_with fail
        go_roundw
        case rel => exact ⟨3, by omega, by go_num, by rw [HN1.out], by rw [HN1.out], HB3⟩
        case measure => simp [intOf]
      · rw [if_neg (by rintro (h | h); omega; exact hsT h)] at HN
        have HN1 := Lib.hid HN
        clear HN
        go_wp2_with fail
        refine H1.out.mono ?_
        rintro e w3 ⟨rfl, hb⟩
        have HB3 := Lib.hid (HB2.out.trans (hb.mono HB2.out.size))
        have HK3 := Lib.hid ((hb.block wr.heap.size (by simp)).trans HK1.out)
        have hlt3 : wr.heap.size < w3.heap.size := (Array.getElem?_eq_some_iff.1 HK3.out).1
        have hc3 : w3.cell? ⟨wr.heap.size, 0, none⟩ = some (.int .i64 3) := cell_of_row w3 wr.heap.size 0 #[.int .i64 3, .func (.func 60) #[] #[], .func (.func 61) #[] #[]] _ _ HK3.out
        clear hb
        go_wp2_with fail
        go_roundw
        case rel => exact ⟨3, by omega, by go_num, by rw [HN1.out, ← HkT.out.1], by rw [HN1.out, ← HkT.out.2], HB3⟩
        case measure => simp [intOf]
    · have H1 := Lib.hid (HF.out 4 (by omega) (wr.alloc (.cells #[.int .i64 4, .func (.func 62) #[] #[], .func (.func 63) #[] #[]] 61)) (HB.out.alloc hsz _))
      have HB2 := Lib.hid (HB.out.alloc hsz (.cells #[.int .i64 4, .func (.func 62) #[] #[], .func (.func 63) #[] #[]] 61))
      have HK1 : Hid (((wr.alloc (.cells #[.int .i64 4, .func (.func 62) #[] #[], .func (.func 63) #[] #[]] 61))).heap[wr.heap.size]? = some (.cells #[.int .i64 4, .func (.func 62) #[] #[], .func (.func 63) #[] #[]] 61 (0, 0))) := Lib.hid (Deep.blk_alloc_new wr _)
      have HN := HS.out 3
      obtain ⟨S, hS⟩ : ∃ S, S = fmB 4 L := ⟨_, rfl⟩
      rw [show (((3 : Nat) : Int) + 1) = 4 from rfl, ← hS] at HN
      rw [← hS] at H1
      clear hS
      have hk0 := HK.out 2
      rw [show 2 + 1 = 3 from rfl] at hk0
      obtain ⟨kk, hkk⟩ : ∃ kk, kk = (bsF L 3).1 := ⟨_, rfl⟩
      obtain ⟨T, hT⟩ : ∃ T, T = (bsF L 3).2 := ⟨_, rfl⟩
      rw [← hT] at HN
      rw [← hkk] at hk0
      rw [← hkk, ← hT]
      have HkT : Hid (kk = (bsF L 3).1 ∧ T = (bsF L 3).2) := Lib.hid ⟨hkk, hT⟩
      have hke : (kk == 0) = false := by simp; omega
      clear hkk hT
      rw [show (((3 : Nat) : Int)) = 3 from rfl]
      have i0 := fun W => index_lay3 W
      by_cases hsT : S.size < T.size
      · rw [if_pos (Or.inr hsT)] at HN
        have HN1 := Lib.hid HN
        clear HN
        go_wp2_with fail
        refine H1.out.mono ?_
        rintro e w3 ⟨rfl, hb⟩
        have HB3 := Lib.hid (HB2.out.trans (hb.mono HB2.out.size))
        have HK3 := Lib.hid ((hb.block wr.heap.size (by simp)).trans HK1.out)
        have hlt3 : wr.heap.size < w3.heap.size := (Array.getElem?_eq_some_iff.1 HK3.out).1
        have hc3 : w3.cell? ⟨wr.heap.size, 0, none⟩ = some (.int .i64 4) := cell_of_row w3 wr.heap.size 0 #[.int .i64 4, .func (.func 62) #[] #[], .func (.func 63) #[] #[]] _ _ HK3.out
        clear hb
        go_wp2_with fail
        go_roundw
        case rel => exact ⟨4, by omega, by go_num, by rw [HN1.out], by rw [HN1.out], HB3⟩
        case measure => simp [intOf]
      · rw [if_neg (by rintro (h | h); omega; exact hsT h)] at HN
        have HN1 := Lib.hid HN
        clear HN
        go_wp2_with fail
        refine H1.out.mono ?_
        rintro e w3 ⟨rfl, hb⟩
        have HB3 := Lib.hid (HB2.out.trans (hb.mono HB2.out.size))
        have HK3 := Lib.hid ((hb.block wr.heap.size (by simp)).trans HK1.out)
        have hlt3 : wr.heap.size < w3.heap.size := (Array.getElem?_eq_some_iff.1 HK3.out).1
        have hc3 : w3.cell? ⟨wr.heap.size, 0, none⟩ = some (.int .i64 4) := cell_of_row w3 wr.heap.size 0 #[.int .i64 4, .func (.func 62) #[] #[], .func (.func 63) #[] #[]] _ _ HK3.out
        clear hb
        go_wp2_with fail
        go_roundw
        case rel => exact ⟨4, by omega, by go_num, by rw [HN1.out, ← HkT.out.1], by rw [HN1.out, ← HkT.out.2], HB3⟩
        case measure => simp [intOf]
    · rw [show (((4 : Nat) : Int)) = 4 from rfl]
      go_wp2_with fail
      exact bodyPost_ret (results_tmp2 rfl _ _ _) rfl ⟨rfl, HB.out⟩
end Go.Proofs.Ytomjgkflnfjjbaa
