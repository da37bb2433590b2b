/- The law's keys: short texts by small numbers. -/
import Derived.Test.YtajainkaomkbjaaBq
import Derived.Deep.RegionLaw
namespace Go.Proofs.Ytajainkaomkbjaa
open Go.ChangeShapes Go.WideShapes Go.ChangeAt Go.RowKit Go.Joins Bt

def u8N (x : Nat) : Value := .int .u8 (x : Int)
/-- The text of a small number. -/
def txtN (x : Nat) : ByteArray := ⟨#[107, UInt8.ofNat (97 + x % 26), UInt8.ofNat (97 + x / 26)]⟩
def txts (L : List Nat) : List ByteArray := (L.take 40).map txtN
theorem txtN_ok (x : Nat) (h : x ≤ 255) : chkK (txtN x) = 0 ∧ (txtN x).size ≤ 1000000 := by
  have hs : (txtN x).size = 3 := rfl
  refine ⟨?_, by omega⟩
  unfold chkK
  rw [if_neg (by omega), if_pos]
  have e1 : (UInt8.ofNat (97 + x % 26)).toNat = 97 + x % 26 := by simp; omega
  have e2 : (UInt8.ofNat (97 + x / 26)).toNat = 97 + x / 26 := by simp; omega
  show ([107, UInt8.ofNat (97 + x % 26), UInt8.ofNat (97 + x / 26)] : List UInt8).all okC = true
  simp only [List.all_cons, List.all_nil, Bool.and_true, Bool.and_eq_true, okC, decide_eq_true_eq]
  rw [e1, e2]
  refine ⟨by decide, ⟨by omega, by omega⟩, by omega, by omega⟩
theorem str_info : (Try.prog.info? 9).map (fun i => (i.zero, i.size, i.bytes)) = some (some (.string ByteArray.empty), 1, 16) := by kernel_rfl
section
variable {w : World}
/-- append of one string to a row of the call's own, as a step of a region that draws. -/
theorem step_append_str {ops : Array Oper} {o : Oper} {a : Act} {K : Act → World → Prop} {Q : Exit → Act → World → Prop} {E : Prop} (hg : o.guard = none) (s x : Operand)
    (ho : o.op = .call { callee := .builtin .append, args := #[s, x], argTypes := #[36, 36] })
    (base : Nat) (v : Value) (n : Nat) (xs : List Value) (hs : a.eval s = v) (hown : w.ownsRow base 9 1 v n xs)
    (g : Nat) (t : ByteArray) (T : TypeId) (hx : a.eval x = .slice (some ⟨g, 0, none⟩) 1 1) (hblk : w.heap[g]? = some (.cells #[.string t] T (0, 0)))
    (hn : n ≤ 1000000) (hbase : base ≤ w.heap.size)
    (h : ∀ v' w', w'.ownsRow base 9 1 v' (n + 1) (xs ++ [.string t]) → w.grownBy w' v.ownBlock → K (a.put o.dst v') w') :
    if Region.wanted o (yielded ops a.tmps) = true then Oper.wp Try.prog o a w K Q else E := by
  have hw : Region.wanted o (yielded ops a.tmps) = true := by simp [Region.wanted, hg]
  rw [if_pos hw]
  obtain ⟨i0, hi0, hz0, hz1, hz2⟩ := info_parts2 str_info
  refine wp_append_own w s x 36 ho base 9 i0 _ 1 16 Try.underlying36 hi0 hz0 hz1 hz2 rfl (by omega) v n xs hs hown ⟨g, 0, none⟩ 1 1 [.string t] hx rfl (fun j y hy => ?_) (fun u hu => by simp at hu; subst hu; rfl) (by unfold maxLen; omega) (by omega) hbase (fun v' w' h2 h3 _ => h v' w' h2 h3)
  rw [add_flat, Nat.zero_add, cell_of_row w g j _ _ _ hblk]
  simpa using hy
end
theorem own_nils (w : World) (base : Nat) : w.ownsRow base 9 1 (.slice none 0 0) 0 (([] : List ByteArray).map Value.string) := ⟨rfl, .inl ⟨rfl, rfl⟩⟩
set_option maxRecDepth 100000 in
set_option maxHeartbeats 2000000 in
theorem keys_law (A : Option Addr) (c : Nat) (L : List Nat) (hl : L.length ≤ 9223372036854775807) (hs : ∀ x ∈ L, x ≤ 255) (w : World) (hR : Rd u8N w A L) :
    Calls Try.prog 16 #[.slice A L.length c] w fun e w' => (∃ v, e = .returned v ∧ w'.ownsRow w.heap.size 9 1 v (txts L).length ((txts L).map Value.string)) ∧ Below w.heap.size w w' := by
  obtain ⟨i0, hi0, hz0, hz1, hz2⟩ := info_parts2 str_info
  have Hi0 := Lib.hid hi0
  have Hz0 := Lib.hid hz0
  have Hz1 := Lib.hid hz1
  have Hz2 := Lib.hid hz2
  have HR := Lib.hid hR
  have HS := Lib.hid hs
  obtain ⟨ln, hln⟩ : ∃ ln, L.length = ln := ⟨_, rfl⟩
  have HLn := Lib.hid hln
  rw [hln] at hl ⊢
  clear hR hs hln hi0 hz0 hz1 hz2
  go_enter Try.func16, Try.ntmps16
  go_wp2_with fail
  go_loopw [3, 4] (fun v iv wr => ∃ k : Nat, k ≤ ln ∧ k ≤ 40 ∧ iv = .int .i64 (k : Int) ∧ Hid (wr.ownsRow w.heap.size 9 1 v k (((L.take k).map txtN).map Value.string)) ∧ Hid (Below w.heap.size w wr)) (fun _ iv _ => 40 - (intOf iv).toNat)
  case atStart => exact ⟨0, Nat.zero_le _, Nat.zero_le _, rfl, Lib.hid (by rw [List.take_zero]; exact own_nils _ _), Lib.hid (Below.refl _ _)⟩
  case round =>
    obtain ⟨k, hk, hk4, rfl, HO, HB⟩ := hrel
    by_cases hlt : k < ln ∧ k < 40
    · obtain ⟨h1, h2⟩ := hlt
      have hk2 : k < L.length := by rw [HLn.out]; exact h1
      obtain ⟨b, off, rfl, hbl, hc⟩ := (HR.out.below HB.out) k hk2
      have hx := HS.out L[k] (List.getElem_mem hk2)
      have HT : Hid (((L.take (k + 1)).map txtN).map Value.string = ((L.take k).map txtN).map Value.string ++ [.string (txtN L[k])]) := Lib.hid (by rw [List.take_succ_eq_append_getElem hk2, List.map_append, List.map_append]; rfl)
      unfold u8N at hc
      obtain ⟨x, hxe⟩ : ∃ x, x = L[k] := ⟨_, rfl⟩
      rw [← hxe] at hc hx HT
      have hkI : (k : Int) < (ln : Int) := by omega
      have hkI4 : (k : Int) < 40 := by omega
      have hkI0 : (0 : Int) ≤ (k : Int) := by omega
      have hw1 : IntKind.i64.wrap ((k : Int) + 1) = (k : Int) + 1 := by simp only [IntKind.wrap_i64]; omega
      have hx0 : (0 : Int) ≤ (x : Int) := by omega
      have hxI : (x : Int) ≤ 255 := by omega
      have HC := Lib.hid hc
      obtain ⟨m1, hm1⟩ : ∃ m1 : Nat, m1 = x % 26 := ⟨_, rfl⟩
      obtain ⟨m2, hm2⟩ : ∃ m2 : Nat, m2 = x / 26 := ⟨_, rfl⟩
      obtain ⟨a1, ha1⟩ : ∃ a1 : Nat, a1 = 97 + m1 := ⟨_, rfl⟩
      obtain ⟨a2, ha2⟩ : ∃ a2 : Nat, a2 = 97 + m2 := ⟨_, rfl⟩
      have q1 : ((x : Int)).tmod 26 = (m1 : Int) := by rw [Int.tmod_eq_emod_of_nonneg hx0]; omega
      have q2 : IntKind.u8.wrap ((x : Int) / 26) = (m2 : Int) := by simp only [IntKind.wrap_u8]; omega
      have q3 : IntKind.u8.wrap (97 + (m1 : Int)) = (a1 : Int) := by simp only [IntKind.wrap_u8]; omega
      have q4 : IntKind.u8.wrap (97 + (m2 : Int)) = (a2 : Int) := by simp only [IntKind.wrap_u8]; omega
      have HA1 : Hid (a1 = 97 + x % 26) := Lib.hid (by omega)
      have HA2 : Hid (a2 = 97 + x / 26) := Lib.hid (by omega)
      have HB1 : Hid (Below wr.heap.size wr (wr.alloc (.cells #[.int .u8 (a1 : Int), .int .u8 (a2 : Int)] 5)).drew) := Lib.hid ((Below.refl _ _).alloc (Nat.le_refl _) _).drew
      have hcv := run_convert_bytes_back (P := Try.prog) (wr.alloc (.cells #[.int .u8 (a1 : Int), .int .u8 (a2 : Int)] 5)).drew 24 9 5 ⟨wr.heap.size, 0, none⟩ 2 [UInt8.ofNat (97 + x % 26), UInt8.ofNat (97 + x / 26)] Try.underlying24 Try.underlying5 Try.underlying9 (fun j hj => by
        have e1 : (UInt8.ofNat (97 + x % 26)).toNat = 97 + x % 26 := by simp; omega
        have e2 : (UInt8.ofNat (97 + x / 26)).toNat = 97 + x / 26 := by simp; omega
        show (wr.alloc _).cell? _ = _
        rw [add_flat, Nat.zero_add, cell_of_row _ wr.heap.size j _ _ _ (Deep.blk_alloc_new wr _)]
        have hj2 : j = 0 ∨ j = 1 := by simp at hj; omega
        rcases hj2 with rfl | rfl
        · show some (Value.int .u8 (a1 : Int)) = some (.int .u8 ((UInt8.ofNat (97 + x % 26)).toNat : Int))
          rw [e1, HA1.out]
        · show some (Value.int .u8 (a2 : Int)) = some (.int .u8 ((UInt8.ofNat (97 + x / 26)).toNat : Int))
          rw [e2, HA2.out])
      simp only [List.length_cons, List.length_nil, Nat.reduceAdd] at hcv
      obtain ⟨y, hy⟩ : ∃ y : ByteArray, y = ⟨[UInt8.ofNat (97 + x % 26), UInt8.ofNat (97 + x / 26)].toArray⟩ := ⟨_, rfl⟩
      have HY : Hid ((⟨#[107]⟩ : ByteArray) ++ y = txtN x) := Lib.hid (by rw [hy]; rfl)
      have hys : ¬ 9223372036854775807 < 1 + y.size := by
        have : y.size ≤ 2 := by rw [hy]; exact Nat.le_refl 2
        omega
      rw [← hy] at hcv
      obtain ⟨z, hz⟩ : ∃ z, z = txtN x := ⟨_, rfl⟩
      rw [← hz] at HY HT
      have hyz := HY.out
      have HB2 : Hid (Below wr.heap.size wr ((wr.alloc (.cells #[.int .u8 (a1 : Int), .int .u8 (a2 : Int)] 5)).alloc (.cells #[.string z] 9)).drew) := Lib.hid (((Below.refl _ _).alloc (Nat.le_refl _) _).alloc (by simp) _).drew
      have HO2 : Hid (∀ v, wr.ownsRow w.heap.size 9 1 v k (((L.take k).map txtN).map Value.string) → ((wr.alloc (.cells #[.int .u8 (a1 : Int), .int .u8 (a2 : Int)] 5)).alloc (.cells #[.string z] 9)).drew.ownsRow w.heap.size 9 1 v k (((L.take k).map txtN).map Value.string)) := Lib.hid (fun v h => (h.alloc _).alloc _)
      clear hxe hk2 hm1 hm2 ha1 ha2 hx hx0 hxI hy hz
      go_wp2_with fail
      go_region_law ((first
        | (refine step_append_str rfl (.tmp 15) (.tmp 31) rfl w.heap.size u3 k _ (by rfl) (HO2.out _ HO.out) (wr.heap.size + 1) z 9 (by rfl) (blk_over wr _ _) (by omega) (Nat.le_trans HB.out.size HB2.out.size) ?_; intro v2 w2 hown hg; have HO3 := Lib.hid hown; have HB3 := Lib.hid (below_grownk (B := w.heap.size) (a := w) (HB.out.trans (HB2.out.mono HB.out.size)) (HO2.out _ HO.out) hg (Nat.le_refl _) (Nat.le_refl _)); clear hown hg)
        | fail))
      all_goals
        go_wp2_with fail
        go_roundw
        case rel => exact ⟨k + 1, by omega, by omega, by go_num, by rw [HT.out]; exact HO3, HB3⟩
        case measure => simp [intOf] <;> omega
    · have HF : Hid (((L.take k).map txtN) = txts L) := Lib.hid (by
        unfold txts
        by_cases e : k = 40
        · rw [e]
        · rw [List.take_of_length_le (by have := HLn.out; omega), List.take_of_length_le (by have := HLn.out; omega)])
      have HLen : Hid ((txts L).length = k) := Lib.hid (by rw [← HF.out, List.length_map, List.length_take, HLn.out]; omega)
      by_cases h1 : k < ln
      · have h2 : k = 40 := by omega
        have hkI : (k : Int) < (ln : Int) := by omega
        have hd2 : ¬ (k : Int) < 40 := by omega
        clear hlt h2
        go_wp2_with fail
        go_ret
        exact ⟨⟨_, rfl, by rw [HLen.out, ← HF.out]; exact HO.out⟩, HB.out⟩
      · have hkI : ¬ (k : Int) < (ln : Int) := by omega
        clear hlt
        go_wp2_with fail
        go_ret
        exact ⟨⟨_, rfl, by rw [HLen.out, ← HF.out]; exact HO.out⟩, HB.out⟩
end Go.Proofs.Ytajainkaomkbjaa
