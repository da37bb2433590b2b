/- The reference's Merge and From; the law's dictionaryOf. -/
import Derived.Test.YtoohphhfigiicaaK
namespace Go.Proofs.Ytoohphhfigiicaa
open Go.ChangeShapes Go.WideShapes Go.ChangeAt Go.RowKit Dp

theorem fold_take_succ (L M : List ByteArray) (k : Nat) (hk : k < M.length) : (M.take (k + 1)).foldl ins L = ins ((M.take k).foldl ins L) M[k] := by
  rw [List.take_succ_eq_append_getElem hk, List.foldl_append]; rfl
set_option maxRecDepth 100000 in
set_option maxHeartbeats 1000000 in
theorem rmerge_any (A B : Option Addr) (c d : Nat) (L M : List ByteArray) (hL : L.length ≤ 100000) (hM : M.length ≤ 100000) (hA : Addressed A c) (hlc : L.length ≤ c) (w : World) (hR : Rd Value.string w A L) (hR2 : Rd Value.string w B M) :
    Calls Try.prog 33 #[.slice A L.length c, .slice B M.length d] w fun e w' => OutS w' e (M.foldl ins L) ∧ Below w.heap.size w w' := by
  obtain ⟨i0, hi0, hz0, hz1, hz2⟩ := info_parts str_info
  have Hi0 := Lib.hid hi0
  have Hz0 := Lib.hid hz0
  have Hz1 := Lib.hid hz1
  have Hz2 := Lib.hid hz2
  have HRA := Lib.hid (rd_all ((hR.alloc (.cells #[] 9))))
  have HR2 := Lib.hid hR2
  have hnA : Hid (A = none → L.length = 0 ∧ c = 0) := Lib.hid (fun e => by
    rcases hA with ⟨_, rfl⟩ | ⟨b, off, rfl⟩
    · exact ⟨by omega, rfl⟩
    · cases e)
  have hown0 := Lib.hid (World.ownsRow_made (base := w.heap.size) (e := 9) (size := 1) w #[] 0 (Nat.le_refl _) (Nat.zero_le _) rfl)
  clear hR hR2 hi0 hz0 hz1 hz2 hA
  go_enter Try.func33, Try.ntmps33
  go_wp2_with (at_builtin; refine wpList_append_more rfl (.tmp 7) (.tmp 8) 22 rfl w.heap.size 9 i0 _ 16 Try.underlying22 Hi0.out Hz0.out Hz1.out Hz2.out rfl (.slice (some ⟨w.heap.size, 0, none⟩) 0 0) 0 [] rfl hown0.out A L.length c rfl (L.map Value.string) (by simp) hnA.out HRA.out (one_strs _) (by omega) (by omega) (by simp) ?_; intro v1 w1 hown1 hg1)
  have HB1 := Lib.hid (below_grownBy (B := w.heap.size) (a := w) ((Below.refl _ _).alloc (Nat.le_refl _) (.cells #[] 9)) hown0.out hg1 (Nat.le_refl _) (Nat.le_refl _))
  have hs1 : Hid (OutS w1 (.returned v1) L) := Lib.hid (outS_own (by rw [Nat.zero_add, List.nil_append] at hown1; exact hown1))
  clear hown1 hg1
  go_wp2_with fail
  go_loopw [5, 6] (fun v i wr => ∃ k : Nat, k ≤ M.length ∧ i = .int .i64 k ∧ (∃ A' c', v = .slice A' ((M.take k).foldl ins L).length c' ∧ ((M.take k).foldl ins L).length ≤ c' ∧ Hid (Addressed A' c') ∧ Hid (Rd Value.string wr A' ((M.take k).foldl ins L))) ∧ Hid (Below w.heap.size w wr)) (fun _ i _ => M.length - (intOf i).toNat)
  case atStart =>
    obtain ⟨A', c', e', hc', hA', hr'⟩ := hs1.out
    injection e' with e'
    exact ⟨0, Nat.zero_le _, rfl, ⟨A', c', e', hc', Lib.hid hA', Lib.hid hr'⟩, HB1⟩
  case round =>
    obtain ⟨k, hk, rfl, ⟨A', c', rfl, hc', hA', hr'⟩, hB⟩ := hrel
    by_cases hlt : k < M.length
    · obtain ⟨b, off, rfl, hb, hc⟩ := (HR2.out.below hB.out) k hlt
      have HT := Lib.hid (fold_take_succ L M k hlt)
      obtain ⟨x, hxe⟩ : ∃ x, x = M[k] := ⟨_, rfl⟩
      rw [← hxe] at hc HT
      clear hxe
      have hl2 := fold_len (M.take k) L
      rw [List.length_take] at hl2
      obtain ⟨D, hD⟩ : ∃ D, D = (M.take k).foldl ins L := ⟨_, rfl⟩
      rw [← hD] at hc' hr' HT hl2 ⊢
      clear hD
      go_wp2_with fail
      refine (insert_any A' c' D x (by omega) hc' hA'.out wr hr'.out).mono ?_
      rintro e w2 ⟨⟨A2, c2, rfl, hc2, hA2, hr2⟩, hB2⟩
      rw [← HT.out] at hc2 hr2 ⊢
      have HB2 := Lib.hid (below_to hB.out hB2)
      have HA2 := Lib.hid hA2
      have HR3 := Lib.hid hr2
      clear hB2 hA2 hr2 hc
      go_wp2_with fail
      go_roundw
      case rel => exact ⟨k + 1, by omega, by go_num, ⟨A2, c2, rfl, hc2, HA2, HR3⟩, HB2⟩
      case measure => simp [intOf]; omega
    · obtain rfl : k = M.length := by omega
      rw [List.take_length] at hc' hr' ⊢
      go_wp2_with fail
      go_ret
      exact ⟨⟨A', c', rfl, hc', hA'.out, hr'.out⟩, hB.out⟩

/-- A slice that a call returns. -/
def OutV {α : Type} (enc : α → Value) (w : World) (e : Ending) (R : List α) : Prop :=
  ∃ A c, e = .returned (.slice A R.length c) ∧ R.length ≤ c ∧ Rd enc w A R
def frV (T : List ByteArray) (x : ByteArray) : Int := match fd T x with | some k => (k : Int) | none => -1
set_option maxRecDepth 100000 in
set_option maxHeartbeats 1000000 in
theorem rfrom_any (A B : Option Addr) (c d : Nat) (M L : List ByteArray) (hL : L.length ≤ 1000000) (hM : M.length ≤ 100000) (w : World) (hR2 : Rd Value.string w B M) (hR : Rd Value.string w A L) :
    Calls Try.prog 34 #[.slice B M.length d, .slice A L.length c] w fun e w' => OutV (Value.int .i64) w' e (M.map (frV L)) ∧ Below w.heap.size w w' := by
  obtain ⟨i0, hi0, hz0, hz1, hz2⟩ := info_parts int_info
  have Hi0 := Lib.hid hi0
  have Hz0 := Lib.hid hz0
  have Hz1 := Lib.hid hz1
  have Hz2 := Lib.hid hz2
  have HR := Lib.hid hR
  have HR2 := Lib.hid hR2
  clear hR hR2 hi0 hz0 hz1 hz2
  go_enter Try.func34, Try.ntmps34
  go_wp2_with fail
  go_loopw [5, 6] (fun v i wr => ∃ k : Nat, k ≤ M.length ∧ i = .int .i64 k ∧ Hid (wr.ownsRow w.heap.size 3 1 v k (((M.take k).map (frV L)).map (Value.int .i64))) ∧ Hid (Below w.heap.size w wr)) (fun _ i _ => M.length - (intOf i).toNat)
  case atStart => exact ⟨0, Nat.zero_le _, rfl, Lib.hid (own_nil _ _), Lib.hid (Below.refl _ _)⟩
  case round =>
    obtain ⟨k, hk, rfl, hO, hB⟩ := hrel
    by_cases hlt : k < M.length
    · obtain ⟨b, off, rfl, hb, hc⟩ := (HR2.out.below hB.out) k hlt
      have HT := Lib.hid (map_take_succ M (frV L) k hlt)
      obtain ⟨x, hxe⟩ : ∃ x, x = M[k] := ⟨_, rfl⟩
      rw [← hxe] at hc HT
      clear hxe
      go_wp2_with fail
      refine (rfind_any A c L x hL wr (HR.out.below hB.out)).mono ?_
      rintro e w1 ⟨rfl, hB1⟩
      have HO1 := Lib.hid (own_below hO.out hB1)
      have HB1 := Lib.hid (below_to hB.out hB1)
      clear hB1 hc
      cases hf : fd L x with
      | none =>
        have hv : frV L x = -1 := by unfold frV; rw [hf]
        have HV := Lib.hid hv
        clear hf hv
        simp only [Option.getD_none, Option.isSome_none]
        go_wp2_with (at_builtin; refine wpList_append_one rfl (.tmp 26) (.tmp 28) 31 rfl w.heap.size 3 i0 _ 8 Try.underlying31 Hi0.out Hz0.out Hz1.out Hz2.out rfl u5 k _ rfl (HO1.out.alloc _) w1.heap.size 1 (.int .i64 (-1)) rfl (by simp [go_sem]) rfl (by omega) (by omega) (by have := HB1.out.size; simp; omega) ?_; intro v2 w2 hown2 hg2)
        have HO := Lib.hid hown2
        have HB := Lib.hid (below_grownBy (B := w.heap.size) (a := w) (HB1.out.alloc HB1.out.size (.cells #[.int .i64 (-1)] 3)) (HO1.out.alloc _) hg2 (Nat.le_refl _) (Nat.le_refl _))
        clear hown2 hg2
        go_wp2_with fail
        go_roundw
        case rel => exact ⟨k + 1, by omega, by go_num, by rw [HT.out, HV.out, List.map_append]; exact HO, HB⟩
        case measure => simp [intOf]; omega
      | some m =>
        have hv : frV L x = (m : Int) := by unfold frV; rw [hf]
        have HV := Lib.hid hv
        clear hf hv
        simp only [Option.getD_some, Option.isSome_some]
        go_wp2_with (at_builtin; refine wpList_append_one rfl (.tmp 26) (.tmp 28) 31 rfl w.heap.size 3 i0 _ 8 Try.underlying31 Hi0.out Hz0.out Hz1.out Hz2.out rfl u5 k _ rfl (HO1.out.alloc _) w1.heap.size 1 (.int .i64 (m : Int)) rfl (by simp [go_sem]) rfl (by omega) (by omega) (by have := HB1.out.size; simp; omega) ?_; intro v2 w2 hown2 hg2)
        have HO := Lib.hid hown2
        have HB := Lib.hid (below_grownBy (B := w.heap.size) (a := w) (HB1.out.alloc HB1.out.size (.cells #[.int .i64 (m : Int)] 3)) (HO1.out.alloc _) hg2 (Nat.le_refl _) (Nat.le_refl _))
        clear hown2 hg2
        go_wp2_with fail
        go_roundw
        case rel => exact ⟨k + 1, by omega, by go_num, by rw [HT.out, HV.out, List.map_append]; exact HO, HB⟩
        case measure => simp [intOf]; omega
    · obtain rfl : k = M.length := by omega
      go_wp2_with fail
      go_ret
      refine ⟨?_, hB.out⟩
      have h := hO.out
      rw [List.take_length] at h
      obtain ⟨A', c', e', hc', hr'⟩ := out_own h
      exact ⟨A', c', by rw [← e']; rfl, hc', hr'⟩
end Go.Proofs.Ytoohphhfigiicaa
