/- The program's Check, and the reference's; the reference's Lower. -/
import Derived.Test.YtoohphhfigiicaaSl
namespace Go.Proofs.Ytoohphhfigiicaa
open Go.ChangeShapes Go.WideShapes Go.ChangeAt Go.RowKit Dp

theorem ret_int {k : IntKind} {a b : Int} (h : a = b) : Ending.returned (.int k a) = .returned (.int k b) := by rw [h]
theorem drop_get (L : List ByteArray) (k : Nat) (hk : k < L.length) : L.drop k = L[k] :: L.drop (k + 1) := List.drop_eq_getElem_cons hk
theorem chk_long {p : Option ByteArray} {s : ByteArray} {t : List ByteArray} (h : 255 < s.size) : chkL p (s :: t) = 5 := by unfold chkL; rw [if_pos h]
theorem chk_first {s : ByteArray} {t : List ByteArray} (h : s.size ≤ 255) : chkL none (s :: t) = chkL (some s) t := by
  rw [chkL]; rw [if_neg (by omega), if_neg (by simp)]
theorem chk_order {q s : ByteArray} {t : List ByteArray} (h : s.size ≤ 255) (hb : bl q s = false) : chkL (some q) (s :: t) = 8 := by
  rw [chkL]; rw [if_neg (by omega), if_pos (by simp [hb])]
theorem chk_next {q s : ByteArray} {t : List ByteArray} (h : s.size ≤ 255) (hb : bl q s = true) : chkL (some q) (s :: t) = chkL (some s) t := by
  rw [chkL]; rw [if_neg (by omega), if_neg (by simp [hb])]
/-- What the two tests of an order say. -/
theorem tests (x y : ByteArray) : (bl y x = true ∧ Op.bytesLess x.toList y.toList = false ∧ (x.toList == y.toList) = false) ∨ (bl y x = false ∧ Op.bytesLess x.toList y.toList = true ∧ (x.toList == y.toList) = false) ∨ (bl y x = false ∧ Op.bytesLess x.toList y.toList = false ∧ (x.toList == y.toList) = true) := by
  rcases bl_tri x y with h | h | h
  · exact .inr (.inl ⟨bl_asymm h, h, (Lib.bytes_beq_false_iff x y).2 (fun e => by subst e; rw [bl_irrefl] at h; cases h)⟩)
  · exact .inr (.inr ⟨by subst h; exact bl_irrefl _, by subst h; exact bl_irrefl _, (Lib.bytes_beq_iff x y).2 h⟩)
  · exact .inl ⟨h, bl_asymm h, (Lib.bytes_beq_false_iff x y).2 (fun e => by subst e; rw [bl_irrefl] at h; cases h)⟩

set_option maxHeartbeats 1000000 in
theorem check_any (A : Option Addr) (c : Nat) (L : List ByteArray) (hL : L.length ≤ 9223372036854775807) (hs : ∀ x ∈ L, x.size ≤ 9223372036854775807) (w : World) (hR : Rd Value.string w A L) :
    Calls Try.prog 17 #[.slice A L.length c] w fun e w' => e = .returned (.int .i64 (chk L)) ∧ Below w.heap.size w w' := by
  have HR := Lib.hid hR
  have Hs := Lib.hid hs
  clear hR hs
  by_cases h4 : 4096 < L.length
  · have e : chk L = 6 := by unfold chk; rw [if_pos h4]
    rw [e]
    clear e
    go_enter Try.func17, Try.ntmps17
    go_wp2_with fail
    go_ret
    exact ⟨rfl, Below.refl _ _⟩
  · have e : Hid (chk L = chkL none L) := Lib.hid (by unfold chk; rw [if_neg h4])
    go_enter Try.func17, Try.ntmps17
    go_wp2_with fail
    go_loopw [10] (fun i wr => ∃ k : Nat, k ≤ L.length ∧ i = .int .i64 k ∧ Hid (chkL none L = chkL (prev L k) (L.drop k)) ∧ Hid (Below w.heap.size w wr)) (fun i _ => L.length - (intOf i).toNat)
    case atStart => exact ⟨0, Nat.zero_le _, rfl, Lib.hid rfl, Lib.hid (Below.refl _ _)⟩
    case round =>
      obtain ⟨k, hk, rfl, hI, hB⟩ := hrel
      by_cases hlt : k < L.length
      · obtain ⟨b, off, rfl, hb, hc⟩ := (HR.out.below hB.out) k hlt
        have hx := Hs.out _ (List.getElem_mem hlt)
        have HD := Lib.hid (drop_get L k hlt)
        obtain ⟨x, hxe⟩ : ∃ x, x = L[k] := ⟨_, rfl⟩
        have Hx2 : Hid (L[k]? = some x) := Lib.hid (by rw [hxe, List.getElem?_eq_getElem hlt])
        rw [← hxe] at hc hx HD
        have Hx := Lib.hid hxe
        clear hxe
        by_cases h3 : 255 < x.size
        · go_wp2_with fail
          go_ret
          exact ⟨by rw [e.out, hI.out, HD.out, chk_long h3]; rfl, hB.out⟩
        · by_cases h0 : 0 < k
          · obtain ⟨b', off', e2, hb2, hc2⟩ := (HR.out.below hB.out) (k - 1) (by omega)
            injection e2 with e2
            injection e2 with e3 e4
            subst e3 e4
            obtain ⟨y, hye⟩ : ∃ y, y = L[k - 1] := ⟨_, rfl⟩
            have Hy2 : Hid (prev L k = some y) := Lib.hid (by rw [hye]; cases k with | zero => exact absurd h0 (by omega) | succ m => show L[m]? = _; rw [List.getElem?_eq_getElem (by omega)]; rfl)
            rw [← hye] at hc2
            clear hye
            rcases tests x y with ⟨h1, h2, h5⟩ | ⟨h1, h2, h5⟩ | ⟨h1, h2, h5⟩
            · have H1 := Lib.hid h1
              clear h1
              go_wp2_with fail
              go_roundw
              case rel => exact ⟨k + 1, by omega, by go_num, Lib.hid (by rw [hI.out, HD.out, Hy2.out]; show _ = chkL L[k]? _; rw [Hx2.out, chk_next (by omega) H1.out]), hB⟩
              case measure => simp [intOf]; omega
            · have H1 := Lib.hid h1
              clear h1
              go_wp2_with fail
              go_ret
              exact ⟨by rw [e.out, hI.out, HD.out, Hy2.out, chk_order (by omega) H1.out]; rfl, hB.out⟩
            · have H1 := Lib.hid h1
              clear h1
              go_wp2_with fail
              go_ret
              exact ⟨by rw [e.out, hI.out, HD.out, Hy2.out, chk_order (by omega) H1.out]; rfl, hB.out⟩
          · go_wp2_with fail
            go_roundw
            case rel => exact ⟨k + 1, by omega, by go_num, Lib.hid (by obtain rfl : k = 0 := (by omega); rw [hI.out, HD.out]; show chkL none _ = chkL L[0]? _; rw [chk_first (by omega), Hx2.out]), hB⟩
            case measure => simp [intOf]; omega
      · obtain rfl : k = L.length := by omega
        go_wp2_with fail
        go_ret
        exact ⟨by rw [e.out, hI.out, List.drop_length]; rfl, hB.out⟩

set_option maxHeartbeats 1000000 in
theorem rcheck_any (A : Option Addr) (c : Nat) (L : List ByteArray) (hL : L.length ≤ 9223372036854775807) (hs : ∀ x ∈ L, x.size ≤ 9223372036854775807) (w : World) (hR : Rd Value.string w A L) :
    Calls Try.prog 18 #[.slice A L.length c] w fun e w' => e = .returned (.int .i64 (chk L)) ∧ Below w.heap.size w w' := by
  have HR := Lib.hid hR
  have Hs := Lib.hid hs
  clear hR hs
  by_cases h4 : 4096 < L.length
  · have e : chk L = 6 := by unfold chk; rw [if_pos h4]
    rw [e]
    clear e
    go_enter Try.func18, Try.ntmps18
    go_wp2_with fail
    go_ret
    exact ⟨rfl, Below.refl _ _⟩
  · have e : Hid (chk L = chkL none L) := Lib.hid (by unfold chk; rw [if_neg h4])
    go_enter Try.func18, Try.ntmps18
    go_wp2_with fail
    go_loopw [3] (fun i wr => ∃ k : Nat, k ≤ L.length ∧ i = .int .i64 k ∧ Hid (chkL none L = chkL (prev L k) (L.drop k)) ∧ Hid (Below w.heap.size w wr)) (fun i _ => L.length - (intOf i).toNat)
    case atStart => exact ⟨0, Nat.zero_le _, rfl, Lib.hid rfl, Lib.hid (Below.refl _ _)⟩
    case round =>
      obtain ⟨k, hk, rfl, hI, hB⟩ := hrel
      by_cases hlt : k < L.length
      · obtain ⟨b, off, rfl, hb, hc⟩ := (HR.out.below hB.out) k hlt
        have hx := Hs.out _ (List.getElem_mem hlt)
        have HD := Lib.hid (drop_get L k hlt)
        obtain ⟨x, hxe⟩ : ∃ x, x = L[k] := ⟨_, rfl⟩
        have Hx2 : Hid (L[k]? = some x) := Lib.hid (by rw [hxe, List.getElem?_eq_getElem hlt])
        rw [← hxe] at hc hx HD
        have Hx := Lib.hid hxe
        clear hxe
        by_cases h3 : 255 < x.size
        · go_wp2_with fail
          go_ret
          exact ⟨by rw [e.out, hI.out, HD.out, chk_long h3]; rfl, hB.out⟩
        · by_cases h0 : 0 < k
          · obtain ⟨b', off', e2, hb2, hc2⟩ := (HR.out.below hB.out) (k - 1) (by omega)
            injection e2 with e2
            injection e2 with e3 e4
            subst e3 e4
            obtain ⟨y, hye⟩ : ∃ y, y = L[k - 1] := ⟨_, rfl⟩
            have Hy2 : Hid (prev L k = some y) := Lib.hid (by rw [hye]; cases k with | zero => exact absurd h0 (by omega) | succ m => show L[m]? = _; rw [List.getElem?_eq_getElem (by omega)]; rfl)
            rw [← hye] at hc2
            clear hye
            rcases tests x y with ⟨h1, h2, h5⟩ | ⟨h1, h2, h5⟩ | ⟨h1, h2, h5⟩
            · have H1 := Lib.hid h1
              clear h1
              go_wp2_with fail
              go_region
              go_wp2_with fail
              go_roundw
              case rel => exact ⟨k + 1, by omega, by go_num, Lib.hid (by rw [hI.out, HD.out, Hy2.out]; show _ = chkL L[k]? _; rw [Hx2.out, chk_next (by omega) H1.out]), Lib.hid hB.out.drew⟩
              case measure => simp [intOf]; omega
            · have H1 := Lib.hid h1
              clear h1
              go_wp2_with fail
              go_region
              go_wp2_with fail
              go_ret
              exact ⟨by rw [e.out, hI.out, HD.out, Hy2.out, chk_order (by omega) H1.out]; rfl, hB.out.drew⟩
            · have H1 := Lib.hid h1
              clear h1
              go_wp2_with fail
              go_region
              go_wp2_with fail
              go_ret
              exact ⟨by rw [e.out, hI.out, HD.out, Hy2.out, chk_order (by omega) H1.out]; rfl, hB.out.drew⟩
          · go_wp2_with fail
            go_region
            go_wp2_with fail
            go_roundw
            case rel => exact ⟨k + 1, by omega, by go_num, Lib.hid (by obtain rfl : k = 0 := (by omega); rw [hI.out, HD.out]; show chkL none _ = chkL L[0]? _; rw [chk_first (by omega), Hx2.out]), Lib.hid hB.out.drew⟩
            case measure => simp [intOf]; omega
      · obtain rfl : k = L.length := by omega
        go_wp2_with fail
        go_ret
        exact ⟨by rw [e.out, hI.out, List.drop_length]; rfl, hB.out⟩

theorem lw_step (L : List ByteArray) (s : ByteArray) (k : Nat) (hk : k ≤ L.length) (h : ∀ j, j < k → ∀ hj : j < L.length, bl L[j] s = true) (h2 : ∀ h : k < L.length, bl L[k] s = false) : lw L s = k := lw_eq L s k hk h h2
set_option maxHeartbeats 1000000 in
theorem rlower_any (A : Option Addr) (c : Nat) (L : List ByteArray) (hL : L.length ≤ 9223372036854775807) (s : ByteArray) (w : World) (hR : Rd Value.string w A L) :
    Calls Try.prog 25 #[.slice A L.length c, .string s] w fun e w' => e = .returned (.int .i64 (lw L s : Nat)) ∧ w' = w := by
  have HR := Lib.hid hR
  clear hR
  go_enter Try.func25, Try.ntmps25
  go_wp2_with fail
  go_loop [5] (fun i => ∃ k : Nat, k ≤ L.length ∧ i = .int .i64 k ∧ Hid (∀ j, j < k → ∀ hj : j < L.length, bl L[j] s = true)) (fun i => L.length - (intOf i).toNat)
  case atStart => exact ⟨0, Nat.zero_le _, rfl, Lib.hid (fun j hj => absurd hj (by omega))⟩
  case round =>
    obtain ⟨k, hk, rfl, hI⟩ := hrel
    by_cases hlt : k < L.length
    · obtain ⟨b, off, rfl, hb, hc⟩ := HR.out k hlt
      obtain ⟨x, hxe⟩ : ∃ x, x = L[k] := ⟨_, rfl⟩
      rw [← hxe] at hc
      have Hx := Lib.hid hxe
      clear hxe
      cases hbl : Op.bytesLess x.toList s.toList with
      | true =>
        have Hb := Lib.hid (show bl x s = true from hbl)
        go_wp2_with fail
        go_round
        case rel =>
          refine ⟨k + 1, by omega, by go_num, Lib.hid (fun j hj hj2 => ?_)⟩
          by_cases e : j = k
          · subst e; rw [← Hx.out]; exact Hb.out
          · exact hI.out j (by omega) hj2
        case measure => simp [intOf]; omega
      | false =>
        have Hb := Lib.hid (show bl x s = false from hbl)
        go_wp2_with fail
        go_ret
        exact ⟨ret_int (by rw [lw_step L s k hk hI.out (fun _ => by rw [← Hx.out]; exact Hb.out)]), rfl⟩
    · go_wp2_with fail
      go_ret
      exact ⟨ret_int (by rw [lw_step L s k hk hI.out (fun h => absurd h hlt)]), rfl⟩
end Go.Proofs.Ytoohphhfigiicaa
