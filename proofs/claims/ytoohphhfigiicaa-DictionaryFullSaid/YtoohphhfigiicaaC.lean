/- The program's Prefix, and the reference's. -/
import Derived.Test.YtoohphhfigiicaaB
namespace Go.Proofs.Ytoohphhfigiicaa
open Go.ChangeShapes Go.WideShapes Go.ChangeAt Go.RowKit Dp Go.Sort

set_option maxHeartbeats 1000000 in
theorem prefix1_any (a b f from_ : Nat) (A : Option Addr) (cap : Nat) (L : List ByteArray) (s : ByteArray) (k : Nat) (hk : from_ + k < L.length) (hL : L.length ≤ 1000000) (w : World) (h1 : w.cell? ⟨a, 0, none⟩ = some (.slice A L.length cap)) (h3 : w.cell? ⟨f, 0, none⟩ = some (.int .i64 (from_ : Int))) (h2 : w.cell? ⟨b, 0, none⟩ = some (.string s)) (hR : Rd Value.string w A L) :
    Calls Try.prog 53 #[.int .i64 k, .pointer (some ⟨a, 0, none⟩), .pointer (some ⟨f, 0, none⟩), .pointer (some ⟨b, 0, none⟩)] w fun e w' => e = .returned (.bool (!hp s L[from_ + k])) ∧ ∃ q, w' = w.drewN q := by
  obtain ⟨g, off, rfl, hb, hc⟩ := hR (from_ + k) hk
  obtain ⟨x, hx⟩ : ∃ x, x = L[from_ + k] := ⟨_, rfl⟩
  rw [← hx] at hc ⊢
  have hcall : ∀ W : World, Calls Try.prog 54 #[.string x, .string s] W fun e w' => e = .returned (.bool (hp s x)) ∧ w' = W := fun W => Try.strings_HasPrefix x s W
  obtain ⟨B, hB⟩ : ∃ B, B = hp s x := ⟨_, rfl⟩
  rw [← hB] at hcall ⊢
  have e1 : IntKind.i64.wrap ((from_ : Int) + (k : Int)) = ((from_ + k : Nat) : Int) := by rw [IntWalk.i64_in _ (by omega)]; omega
  have e2 : wrap64 ((from_ : Int) + (k : Int)) = ((from_ + k : Nat) : Int) := by unfold wrap64; omega
  clear hx hR hB
  go_enter Try.func53, Try.ntmps53
  go_wp2_with fail
  go_quiet ((go_at_call 54; exact Calls.quiet_of_same (hcall _)))
  (refine (by assumption : ∀ _ _, _ → _) _ _ ?_)
  go_wp2_with fail
  go_ret
  exact ⟨rfl, _, rfl⟩

/-- The search for the end of the strings with a prefix. -/
theorem search_prefix (a b f from_ : Nat) (A : Option Addr) (cap : Nat) (L : List ByteArray) (hS : Srt L) (s : ByteArray) (hfrom : from_ = lw L s) (hL : L.length ≤ 1000000) (W : World) (h1 : W.cell? ⟨a, 0, none⟩ = some (.slice A L.length cap)) (h3 : W.cell? ⟨f, 0, none⟩ = some (.int .i64 (from_ : Int))) (h2 : W.cell? ⟨b, 0, none⟩ = some (.string s)) (ha : a < W.heap.size) (hb : b < W.heap.size) (hf : f < W.heap.size) (hR : Rd Value.string W A L) :
    Calls Try.prog 51 #[.int .i64 ((L.length - from_ : Nat) : Int), .func (.func 53) #[] #[.pointer (some ⟨a, 0, none⟩), .pointer (some ⟨f, 0, none⟩), .pointer (some ⟨b, 0, none⟩)]] W fun e w' => e = .returned (.int .i64 (pf L s : Nat)) ∧ Below W.heap.size W w' := by
  have hle := lw_le L s
  have hcnt : (List.range (L.length - from_)).countP (fun i => !(!hp s (L.getD (from_ + i) ByteArray.empty))) = pf L s := by
    rw [pf_drop, ← hfrom, show L.length - from_ = (L.drop from_).length by rw [List.length_drop]]
    refine countP_get _ _ _ fun i hi => ?_
    rw [List.length_drop] at hi
    rw [Bool.not_not, List.getElem_drop]
    simp [List.getD, List.getElem?_eq_getElem (show from_ + i < L.length by omega)]
  have h := Any.sort_Search Try.search 53 #[.pointer (some ⟨a, 0, none⟩), .pointer (some ⟨f, 0, none⟩), .pointer (some ⟨b, 0, none⟩)] (L.length - from_) (fun i => !hp s (L.getD (from_ + i) ByteArray.empty)) W (enters_of Try.func53 (by kernel_rfl) rfl) (by omega)
    (fun m os i hi => by
      have hB := below_grow W m os
      have hh := prefix1_any a b f from_ A cap L s i (by omega) hL (grow (W.drewN m) os) ((hB.cell (p := ⟨a, 0, none⟩) ha).trans h1) ((hB.cell (p := ⟨f, 0, none⟩) hf).trans h3) ((hB.cell (p := ⟨b, 0, none⟩) hb).trans h2) (hR.below hB)
      refine hh.mono ?_
      rintro e w' ⟨rfl, q, rfl⟩
      exact ⟨by simp [List.getD, List.getElem?_eq_getElem (show from_ + i < L.length by omega)], q, #[], by rw [grow_empty]⟩)
    (fun x y hxy hy h => by
      have hx : from_ + x < L.length := by omega
      have hy' : from_ + y < L.length := by omega
      simp only [List.getD, List.getElem?_eq_getElem hx, List.getElem?_eq_getElem hy', Option.getD_some] at h ⊢
      cases hc : hp s L[from_ + y] with
      | false => rfl
      | true =>
        have := hp_mono hS s (from_ + x) (from_ + y) (by omega) (by omega) hy' hc
        rw [this] at h; cases h)
  rw [hcnt] at h
  refine h.mono ?_
  rintro e w' ⟨rfl, q, os, rfl⟩
  exact ⟨rfl, below_grow W q os⟩
set_option maxHeartbeats 1000000 in
theorem prefix_any (A : Option Addr) (cap : Nat) (L : List ByteArray) (hS : Srt L) (s : ByteArray) (hL : L.length ≤ 1000000) (w : World) (hR : Rd Value.string w A L) :
    Calls Try.prog 26 #[.slice A L.length cap, .string s] w fun e w' => e = .returned (.agg #[.int .i64 (lw L s : Nat), .int .i64 ((lw L s + pf L s : Nat) : Int)]) ∧ Below w.heap.size w w' := by
  have HS := Lib.hid hS
  have HR := Lib.hid hR
  have hle := lw_le L s
  have hpl := pf_lw (d := L) s
  obtain ⟨m, hm⟩ : ∃ m, m = lw L s := ⟨_, rfl⟩
  obtain ⟨z, hz⟩ : ∃ z, z = pf L s := ⟨_, rfl⟩
  have hlow := fun W (h : Rd Value.string W A L) => lower_any A cap L hS s hL W h
  have hsr := fun a b f W => search_prefix a b f m A cap L hS s hm hL W
  rw [← hm] at hlow hle hpl
  rw [← hz] at hsr hpl
  rw [← hm, ← hz]
  have HL := Lib.hid hlow
  have HP := Lib.hid hsr
  have e1 : IntKind.i64.wrap ((L.length : Int) - (m : Int)) = ((L.length - m : Nat) : Int) := by rw [IntWalk.i64_in _ (by omega)]; omega
  have e2 : wrap64 ((L.length : Int) - (m : Int)) = ((L.length - m : Nat) : Int) := by unfold wrap64; omega
  have e3 : IntKind.i64.wrap ((m : Int) + (z : Int)) = ((m + z : Nat) : Int) := by rw [IntWalk.i64_in _ (by omega)]; omega
  have e4 : wrap64 ((m : Int) + (z : Int)) = ((m + z : Nat) : Int) := by unfold wrap64; omega
  clear hS hR hlow hsr hm hz
  go_enter Try.func26, Try.ntmps26
  go_wp2_with fail
  refine (HL.out _ (((HR.out.alloc _).alloc _).alloc _)).mono ?_
  rintro e w1 ⟨rfl, hB⟩
  have hBw : Hid (Below w.heap.size w w1) := Lib.hid (Below.trans ((((Below.refl w.heap.size w).alloc (Nat.le_refl _) _).alloc (by simp) _).alloc (by simp; omega) _) (hB.mono (by simp; omega)))
  have hs1 := hB.size
  simp at hs1
  have c1 : w1.cell? ⟨w.heap.size, 0, none⟩ = some (.slice A L.length cap) := by rw [hB.cell (p := ⟨w.heap.size, 0, none⟩) (by simp; omega)]; simp [go_sem]
  have c2 : w1.cell? ⟨w.heap.size + 1, 0, none⟩ = some (.string s) := by rw [hB.cell (p := ⟨w.heap.size + 1, 0, none⟩) (by simp)]; simp [go_sem]
  have r1 : w1.heap[w.heap.size + 1 + 1]? = some (.cells #[.int .i64 0, .int .i64 0] 40 (0, 0)) := by
    rw [hB.block (w.heap.size + 1 + 1) (by simp)]
    have := Deep.blk_alloc_new ((w.alloc (.cells #[.slice A L.length cap] 22)).alloc (.cells #[.string s] 9)) (.cells #[.int .i64 0, .int .i64 0] 40)
    simpa using this
  have HR1 := Lib.hid r1
  have hb0 : w.heap.size < w1.heap.size := by omega
  have hb1 : w.heap.size + 1 < w1.heap.size := by omega
  have hb2 : w.heap.size + 1 + 1 < w1.heap.size := by omega
  have HR2 := Lib.hid ((((HR.out.alloc (.cells #[.slice A L.length cap] 22)).alloc (.cells #[.string s] 9)).alloc (.cells #[.int .i64 0, .int .i64 0] 40)).below hB)
  clear hB r1 hs1
  go_wp2_with fail
  refine (HP.out w.heap.size (w.heap.size + 1) w1.heap.size (w1.alloc (.cells #[.int .i64 (m : Int)] 3)) (by simp [go_sem, *]) (by simp [go_sem]) (by simp [go_sem, *]) (by simp; omega) (by simp; omega) (by simp) (HR2.out.alloc _)).mono ?_
  rintro e w2 ⟨rfl, hB2⟩
  have hs2 := hB2.size
  simp at hs2
  have d0 : w2.cell? ⟨w1.heap.size, 0, none⟩ = some (.int .i64 (m : Int)) := by rw [hB2.cell (p := ⟨w1.heap.size, 0, none⟩) (by simp)]; simp [go_sem]
  have r2 : w2.heap[w.heap.size + 1 + 1]? = some (.cells #[.int .i64 0, .int .i64 0] 40 (0, 0)) := by
    rw [hB2.block _ (by simp; omega), Deep.blk_alloc_lt _ _ _ (by omega)]; exact HR1.out
  have g0 := cell_of_row w2 (w.heap.size + 1 + 1) 0 _ _ _ r2
  have g1 := cell_of_row w2 (w.heap.size + 1 + 1) 1 _ _ _ r2
  have f0 := frozen_of_row w2 (w.heap.size + 1 + 1) 0 _ _ r2
  have f1 := frozen_of_row w2 (w.heap.size + 1 + 1) 1 _ _ r2
  have hB3 : Hid (Below w.heap.size w w2) := Lib.hid ((hBw.out.alloc (by omega) (.cells #[.int .i64 (m : Int)] 3)).trans (hB2.mono (by simp; omega)))
  have hb3 : w.heap.size + 1 + 1 < w2.heap.size := by omega
  clear hB2 r2 hs2 c1 c2
  go_wp2_with fail
  refine bodyPost_ret (v := .agg #[.int .i64 (m : Int), .int .i64 ((m + z : Nat) : Int)]) (by simp [results, Try.results26, go_sem, *]) rfl ⟨rfl, ?_⟩
  exact (hB3.out.setCell (by simp; omega) _).setCell (by simp; omega) _

theorem hp_cases (s x : ByteArray) : (¬ s.size ≤ x.size ∧ hp s x = false) ∨ (s.size ≤ x.size ∧ hp s x = true ∧ ((x.extract 0 s.size).toList == s.toList) = true) ∨ (s.size ≤ x.size ∧ hp s x = false ∧ ((x.extract 0 s.size).toList == s.toList) = false) := by
  have hx : x.data.toList.length = x.size := by simp
  have hs : s.data.toList.length = s.size := by simp
  have key : s.size ≤ x.size → (hp s x = true ↔ x.extract 0 s.size = s) := by
    intro hle
    unfold hp
    rw [List.isPrefixOf_iff_prefix, List.prefix_iff_eq_take]
    have e : (x.extract 0 s.size).data.toList = x.data.toList.take s.size := by rw [Lib.extract_data]; simp
    constructor
    · intro h
      apply toList_inj
      rw [e, ← hs]; exact h.symm
    · intro h
      have := congrArg (fun b : ByteArray => b.data.toList) h
      simp only [e] at this
      rw [hs]; exact this.symm
  by_cases hle : s.size ≤ x.size
  · cases hh : hp s x with
    | true => exact .inr (.inl ⟨hle, rfl, (Lib.bytes_beq_iff _ _).2 ((key hle).1 hh)⟩)
    | false => exact .inr (.inr ⟨hle, rfl, (Lib.bytes_beq_false_iff _ _).2 fun e => by rw [(key hle).2 e] at hh; cases hh⟩)
  · refine .inl ⟨hle, ?_⟩
    cases hh : hp s x with
    | false => rfl
    | true =>
      unfold hp at hh
      rw [List.isPrefixOf_iff_prefix] at hh
      have := hh.length_le
      omega
theorem countP_take_succ (L : List ByteArray) (s : ByteArray) (k : Nat) (hk : k < L.length) : (L.take (k + 1)).countP (hp s) = (L.take k).countP (hp s) + (if hp s L[k] = true then 1 else 0) := by
  rw [List.take_succ_eq_append_getElem hk, List.countP_append, List.countP_singleton]
set_option maxHeartbeats 1000000 in
theorem rprefix_any (A : Option Addr) (cap : Nat) (L : List ByteArray) (s : ByteArray) (_hs : s.size ≤ 1000000) (hsz : ∀ x ∈ L, x.size ≤ 1000000) (hL : L.length ≤ 1000000) (w : World) (hR : Rd Value.string w A L) :
    Calls Try.prog 27 #[.slice A L.length cap, .string s] w fun e w' => e = .returned (.agg #[.int .i64 (lw L s : Nat), .int .i64 ((lw L s + pf L s : Nat) : Int)]) ∧ Below w.heap.size w w' := by
  have HR := Lib.hid hR
  have Hsz := Lib.hid hsz
  have hle := lw_le L s
  have hpl := pf_lw (d := L) s
  obtain ⟨m, hm⟩ : ∃ m, m = lw L s := ⟨_, rfl⟩
  have hlow := rlower_any A cap L (by omega) s
  rw [← hm] at hlow hle hpl
  rw [← hm]
  have HL := Lib.hid hlow
  have Hpf : Hid (pf L s = (L.take L.length).countP (hp s)) := Lib.hid (by rw [List.take_length]; rfl)
  clear hR hlow hm hsz
  go_enter Try.func27, Try.ntmps27
  go_wp2_with fail
  refine (HL.out _ (HR.out.alloc _)).mono ?_
  rintro e w1 ⟨rfl, rfl⟩
  have hR1 : Hid (Rd Value.string (w.alloc (.cells #[.int .i64 0, .int .i64 0] 40)) A L) := Lib.hid (HR.out.alloc _)
  obtain ⟨W, hW⟩ : ∃ W, W = w.alloc (.cells #[.int .i64 0, .int .i64 0] 40) := ⟨_, rfl⟩
  have hblk : W.heap[w.heap.size]? = some (.cells #[.int .i64 0, .int .i64 0] 40 (0, 0)) := by rw [hW]; exact Deep.blk_alloc_new w _
  have hBW : Hid (Below w.heap.size w W) := Lib.hid (by rw [hW]; exact (Below.refl _ _).alloc (Nat.le_refl _) _)
  rw [← hW] at hR1 ⊢
  have g0 := cell_of_row W w.heap.size 0 _ _ _ hblk
  have g1 := cell_of_row W w.heap.size 1 _ _ _ hblk
  have f0 := frozen_of_row W w.heap.size 0 _ _ hblk
  have f1 := frozen_of_row W w.heap.size 1 _ _ hblk
  clear hblk hW
  go_wp2_with fail
  go_loop [6, 7] (fun n i => ∃ k : Nat, ∃ z : Nat, k ≤ L.length ∧ z ≤ k ∧ i = .int .i64 k ∧ n = .int .i64 z ∧ Hid (z = (L.take k).countP (hp s))) (fun _ i => L.length - (intOf i).toNat)
  case atStart => exact ⟨0, 0, Nat.zero_le _, Nat.zero_le _, rfl, rfl, Lib.hid (by simp)⟩
  case round =>
    obtain ⟨k, z, hk, hzk, rfl, rfl, hI⟩ := hrel
    by_cases hlt : k < L.length
    · obtain ⟨b, off, rfl, hb, hc⟩ := hR1.out k hlt
      have hx := Hsz.out _ (List.getElem_mem hlt)
      have HT := Lib.hid (countP_take_succ L s k hlt)
      obtain ⟨x, hxe⟩ : ∃ x, x = L[k] := ⟨_, rfl⟩
      rw [← hxe] at hc hx HT
      clear hxe
      rcases hp_cases s x with ⟨h1, h2⟩ | ⟨h1, h2, h3⟩ | ⟨h1, h2, h3⟩
      · have H2 := Lib.hid h2
        clear h2
        go_wp2_with fail
        go_round
        case rel => exact ⟨k + 1, z, by omega, by omega, by go_num, rfl, Lib.hid (by rw [HT.out, hI.out, H2.out]; simp)⟩
        case measure => simp [intOf]; omega
      · have H2 := Lib.hid h2
        clear h2
        go_wp2_with fail
        go_round
        case rel => exact ⟨k + 1, z + 1, by omega, by omega, by go_num, by go_num, Lib.hid (by rw [HT.out, hI.out, H2.out]; simp)⟩
        case measure => simp [intOf]; omega
      · have H2 := Lib.hid h2
        clear h2
        go_wp2_with fail
        go_round
        case rel => exact ⟨k + 1, z, by omega, by omega, by go_num, rfl, Lib.hid (by rw [HT.out, hI.out, H2.out]; simp)⟩
        case measure => simp [intOf]; omega
    · obtain rfl : k = L.length := by omega
      have hz : z = pf L s := by rw [hI.out, Hpf.out]
      have e3 : IntKind.i64.wrap ((m : Int) + (z : Int)) = ((m + z : Nat) : Int) := by rw [IntWalk.i64_in _ (by omega)]; omega
      have e4 : wrap64 ((m : Int) + (z : Int)) = ((m + z : Nat) : Int) := by unfold wrap64; omega
      have Hz := Lib.hid hz
      clear hz
      go_wp2_with fail
      refine bodyPost_ret (v := .agg #[.int .i64 (m : Int), .int .i64 ((m + z : Nat) : Int)]) (by simp [results, Try.results27, go_sem, *]) rfl ⟨by rw [Hz.out, Int.natCast_add], ?_⟩
      exact (hBW.out.setCell (by simp) _).setCell (by simp) _
end Go.Proofs.Ytoohphhfigiicaa
