/- The program's Strings and Remap. -/
import Derived.Test.YtoohphhfigiicaaE
namespace Go.Proofs.Ytoohphhfigiicaa
open Go.ChangeShapes Go.WideShapes Go.ChangeAt Go.RowKit Dp

def ixB (n : Int) (size : Nat) : Bool := decide (0 ≤ n) && decide (n < (size : Int))
theorem isIndex_any (n : Int) (size : Nat) (w : World) : Calls Try.prog 55 #[.int .i64 n, .int .i64 (size : Int)] w fun e w' => e = .returned (.bool (ixB n size)) ∧ w = w' := by
  by_cases h0 : 0 ≤ n
  · by_cases h1 : n < (size : Int)
    · have hb : ixB n size = true := by unfold ixB; simp [h0, h1]
      rw [hb]
      clear hb
      go_enter Try.func55, Try.ntmps55
      go_wp2
      go_ret
      exact ⟨rfl, rfl⟩
    · have hb : ixB n size = false := by unfold ixB; simp [h1]
      rw [hb]
      clear hb
      go_enter Try.func55, Try.ntmps55
      go_wp2
      go_ret
      exact ⟨rfl, rfl⟩
  · have hb : ixB n size = false := by unfold ixB; simp [h0]
    rw [hb]
    clear hb
    go_enter Try.func55, Try.ntmps55
    go_wp2
    go_ret
    exact ⟨rfl, rfl⟩
theorem ixB_nat {n : Int} {size : Nat} (h : ixB n size = true) : ∃ m : Nat, n = m ∧ m < size := by
  unfold ixB at h
  simp at h
  exact ⟨n.toNat, by omega, by omega⟩

def stE (L : List ByteArray) (n : Int) : Int := if ixB n L.length = true then 0 else 2
def stV (L : List ByteArray) (n : Int) : ByteArray := L.getD n.toNat ByteArray.empty
set_option maxHeartbeats 1000000 in
theorem strings_any (A B : Option Addr) (c d : Nat) (L : List ByteArray) (M : List Int) (_hL : L.length ≤ 1000000) (hM : M.length ≤ 1000000) (w : World) (hR : Rd Value.string w A L) (hR2 : Rd (Value.int .i64) w B M) :
    Calls Try.prog 30 #[.slice A L.length c, .slice B M.length d] w fun e w' => Out Value.string w' e (res (stE L) (stV L) M) (fe (stE L) M) ∧ Below w.heap.size w w' := by
  have HR := Lib.hid hR
  have HR2 := Lib.hid hR2
  have km := make_strs M.length hM w
  clear hR hR2
  go_enter Try.func30, Try.ntmps30
  go_wp2_with fail
  clear km
  have hF0 : Hid (Fi Value.string (w.alloc (.cells (List.replicate M.length (.string ByteArray.empty)).toArray 9)) w.heap.size 9 M.length ((M.take 0).map (stV L))) := Lib.hid (Fi.new _ _ _ _ _)
  have hB0 : Hid (Below w.heap.size w (w.alloc (.cells (List.replicate M.length (.string ByteArray.empty)).toArray 9))) := Lib.hid ((Below.refl _ _).alloc (Nat.le_refl _) _)
  go_loopw [14] (fun i wr => ∃ k : Nat, k ≤ M.length ∧ i = .int .i64 k ∧ Hid (Fi Value.string wr w.heap.size 9 M.length ((M.take k).map (stV L))) ∧ Hid (Below w.heap.size w wr) ∧ Hid (∀ j, j < k → ∀ hj : j < M.length, stE L M[j] = 0)) (fun i _ => M.length - (intOf i).toNat)
  case atStart => exact ⟨0, Nat.zero_le _, rfl, hF0, hB0, Lib.hid (fun j hj => absurd hj (by omega))⟩
  case round =>
    obtain ⟨k, hk, rfl, hF, hB, hall⟩ := hrel
    by_cases hlt : k < M.length
    · obtain ⟨b, off, rfl, hb, hc⟩ := (HR2.out.below hB.out) k hlt
      have HT := Lib.hid (map_take_succ M (stV L) k hlt)
      have HH := Lib.hid (fe_hit (stE L) M k hall.out hlt)
      obtain ⟨x, hxe⟩ : ∃ x, x = M[k] := ⟨_, rfl⟩
      have Hx := Lib.hid hxe
      rw [← hxe] at hc HT HH
      clear hxe
      obtain ⟨⟨u, hu⟩, hfz⟩ := hF.out.cell k hlt
      cases hi : ixB x L.length with
      | false =>
        have hcall := isIndex_any x L.length wr
        rw [hi] at hcall
        have Hi := Lib.hid hi
        clear hi
        go_wp2_with (go_at_call 55; refine hcall.mono ?_; rintro e w' ⟨rfl, rfl⟩)
        go_ret2
        have he : fe (stE L) M = 2 := by
          rw [HH.out (by unfold stE; rw [Hi.out]; decide)]; unfold stE; rw [Hi.out]; rfl
        refine ⟨?_, hB.out⟩
        unfold res
        rw [he, if_neg (by decide)]
        exact ⟨none, 0, rfl, Nat.le_refl _, Rd.nil⟩
      | true =>
        have hcall := isIndex_any x L.length wr
        rw [hi] at hcall
        have Hi := Lib.hid hi
        obtain ⟨m, rfl, hm⟩ := ixB_nat hi
        obtain ⟨b2, off2, rfl, hb2, hc2⟩ := (HR.out.below hB.out) m hm
        have hv : stV L (m : Int) = L[m] := by unfold stV; rw [Int.toNat_natCast]; simp [List.getD, List.getElem?_eq_getElem hm]
        obtain ⟨y, hye⟩ : ∃ y, y = L[m] := ⟨_, rfl⟩
        rw [← hye] at hc2 hv
        have Hv := Lib.hid hv
        clear hi hye hv
        go_wp2_with (go_at_call 55; refine hcall.mono ?_; rintro e w' ⟨rfl, rfl⟩)
        go_roundw
        case rel =>
          refine ⟨k + 1, by omega, by go_num, ?_, Lib.hid (hB.out.setCell (Nat.le_refl _) _), Lib.hid (fun j hj hj2 => ?_)⟩
          · rw [HT.out, Hv.out]
            exact Lib.hid (hF.out.put k (map_take_len M (stV L) k hk) hlt y)
          · by_cases e : j = k
            · subst e; rw [← Hx.out]; unfold stE; rw [Hi.out]; rfl
            · exact hall.out j (by omega) hj2
        case measure => simp [intOf]; omega
    · obtain rfl : k = M.length := by omega
      go_wp2_with fail
      go_ret2
      have he : fe (stE L) M = 0 := fe_all _ _ hall.out
      refine ⟨?_, hB.out⟩
      unfold res
      rw [he, if_pos rfl]
      have h := hF.out.rd
      rw [List.take_length] at h
      exact ⟨_, M.length, by rw [List.length_map]; rfl, by rw [List.length_map]; exact Nat.le_refl _, h⟩

def rmV (F : List Int) (n : Int) : Int := F.getD n.toNat 0
def rmE (F : List Int) (n : Int) : Int := if ixB n F.length = true then (if rmV F n < 0 then 10 else 0) else 2
set_option maxHeartbeats 1000000 in
theorem remap_any (A B : Option Addr) (c d : Nat) (M F : List Int) (_hF : F.length ≤ 1000000) (hM : M.length ≤ 1000000) (w : World) (hR2 : Rd (Value.int .i64) w B M) (hR : Rd (Value.int .i64) w A F) :
    Calls Try.prog 37 #[.slice B M.length d, .slice A F.length c] w fun e w' => Out (Value.int .i64) w' e (res (rmE F) (rmV F) M) (fe (rmE F) M) ∧ Below w.heap.size w w' := by
  have HR := Lib.hid hR
  have HR2 := Lib.hid hR2
  have km := make_ints M.length hM w
  clear hR hR2
  go_enter Try.func37, Try.ntmps37
  go_wp2_with fail
  clear km
  have hF0 : Hid (Fi (Value.int .i64) (w.alloc (.cells (List.replicate M.length (.int .i64 0)).toArray 3)) w.heap.size 3 M.length ((M.take 0).map (rmV F))) := Lib.hid (Fi.new _ _ _ _ _)
  have hB0 : Hid (Below w.heap.size w (w.alloc (.cells (List.replicate M.length (.int .i64 0)).toArray 3))) := Lib.hid ((Below.refl _ _).alloc (Nat.le_refl _) _)
  go_loopw [14] (fun i wr => ∃ k : Nat, k ≤ M.length ∧ i = .int .i64 k ∧ Hid (Fi (Value.int .i64) wr w.heap.size 3 M.length ((M.take k).map (rmV F))) ∧ Hid (Below w.heap.size w wr) ∧ Hid (∀ j, j < k → ∀ hj : j < M.length, rmE F M[j] = 0)) (fun i _ => M.length - (intOf i).toNat)
  case atStart => exact ⟨0, Nat.zero_le _, rfl, hF0, hB0, Lib.hid (fun j hj => absurd hj (by omega))⟩
  case round =>
    obtain ⟨k, hk, rfl, hFi, hB, hall⟩ := hrel
    by_cases hlt : k < M.length
    · obtain ⟨b, off, rfl, hb, hc⟩ := (HR2.out.below hB.out) k hlt
      have HT := Lib.hid (map_take_succ M (rmV F) k hlt)
      have HH := Lib.hid (fe_hit (rmE F) M k hall.out hlt)
      obtain ⟨x, hxe⟩ : ∃ x, x = M[k] := ⟨_, rfl⟩
      have Hx := Lib.hid hxe
      rw [← hxe] at hc HT HH
      clear hxe
      obtain ⟨⟨u, hu⟩, hfz⟩ := hFi.out.cell k hlt
      cases hi : ixB x F.length with
      | false =>
        have hcall := isIndex_any x F.length wr
        rw [hi] at hcall
        have Hi := Lib.hid hi
        clear hi
        go_wp2_with (go_at_call 55; refine hcall.mono ?_; rintro e w' ⟨rfl, rfl⟩)
        go_ret2
        have he : fe (rmE F) M = 2 := by
          rw [HH.out (by unfold rmE; rw [Hi.out, if_neg (by decide)]; decide)]; unfold rmE; rw [Hi.out]; rfl
        refine ⟨?_, hB.out⟩
        unfold res
        rw [he, if_neg (by decide)]
        exact ⟨none, 0, rfl, Nat.le_refl _, Rd.nil⟩
      | true =>
        have hcall := isIndex_any x F.length wr
        rw [hi] at hcall
        have Hi := Lib.hid hi
        obtain ⟨m, rfl, hm⟩ := ixB_nat hi
        obtain ⟨b2, off2, rfl, hb2, hc2⟩ := (HR.out.below hB.out) m hm
        have hv : rmV F (m : Int) = F[m] := by unfold rmV; rw [Int.toNat_natCast]; simp [List.getD, List.getElem?_eq_getElem hm]
        obtain ⟨y, hye⟩ : ∃ y, y = F[m] := ⟨_, rfl⟩
        rw [← hye] at hc2 hv
        have Hv := Lib.hid hv
        clear hi hye hv
        by_cases hy : y < 0
        · go_wp2_with (go_at_call 55; refine hcall.mono ?_; rintro e w' ⟨rfl, rfl⟩)
          go_ret2
          have hE : rmE F (m : Int) = 10 := by unfold rmE; rw [if_pos Hi.out, Hv.out, if_pos hy]
          have he : fe (rmE F) M = 10 := by rw [HH.out (by rw [hE]; decide), hE]
          refine ⟨?_, hB.out⟩
          unfold res
          rw [he, if_neg (by decide)]
          exact ⟨none, 0, rfl, Nat.le_refl _, Rd.nil⟩
        · go_wp2_with (go_at_call 55; refine hcall.mono ?_; rintro e w' ⟨rfl, rfl⟩)
          go_roundw
          case rel =>
            refine ⟨k + 1, by omega, by go_num, ?_, Lib.hid (hB.out.setCell (Nat.le_refl _) _), Lib.hid (fun j hj hj2 => ?_)⟩
            · rw [HT.out, Hv.out]
              exact Lib.hid (hFi.out.put k (map_take_len M (rmV F) k hk) hlt y)
            · by_cases e : j = k
              · subst e; rw [← Hx.out]; unfold rmE; rw [if_pos Hi.out, Hv.out, if_neg (by omega)]
              · exact hall.out j (by omega) hj2
          case measure => simp [intOf]; omega
    · obtain rfl : k = M.length := by omega
      go_wp2_with fail
      go_ret2
      have he : fe (rmE F) M = 0 := fe_all _ _ hall.out
      refine ⟨?_, hB.out⟩
      unfold res
      rw [he, if_pos rfl]
      have h := hFi.out.rd
      rw [List.take_length] at h
      exact ⟨_, M.length, by rw [List.length_map]; rfl, by rw [List.length_map]; exact Nat.le_refl _, h⟩
end Go.Proofs.Ytoohphhfigiicaa
