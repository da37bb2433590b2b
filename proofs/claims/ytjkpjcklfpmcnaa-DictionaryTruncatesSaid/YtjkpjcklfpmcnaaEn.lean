/- The reference's Encode. -/
import Derived.Test.YtjkpjcklfpmcnaaP
import Derived.Laws.IdiomStrings
namespace Go.Proofs.Ytjkpjcklfpmcnaa
open Go.ChangeShapes Go.WideShapes Go.ChangeAt Go.RowKit Dp

theorem own_two (w : World) (e : TypeId) (x y : Value) : (w.alloc (.cells #[x, y] e)).ownsRow w.heap.size e 1 (.slice (some ⟨w.heap.size, 0, none⟩) 2 2) 2 [x, y] :=
  ⟨rfl, .inr ⟨w.heap.size, 2, #[x, y], rfl, Nat.le_refl _, Deep.blk_alloc_new w _, Nat.le_refl _, by decide, rfl, rfl⟩⟩
theorem conv_bytes (S : ByteArray) (W : World) : ∃ (c : Nat) (W1 : World), (convert 9 30 (.string S)).run Try.prog W = .ok (.slice (some ⟨W.heap.size, 0, none⟩) S.size c) W1 ∧ (∀ j u, (S.data.toList.map u8v)[j]? = some u → W1.cell? ((⟨W.heap.size, 0, none⟩ : Addr).add j) = some u) ∧ Below W.heap.size W W1 := by
  refine ⟨_, _, run_bytes_of_string W 9 30 5 S Try.underlying9 Try.underlying30 Try.underlying5, fun j u hu => ?_, ((Below.refl _ _).drew).alloc (Nat.le_refl _) _⟩
  rw [List.getElem?_map] at hu
  obtain ⟨x, hx, rfl⟩ := Option.map_eq_some_iff.1 hu
  obtain ⟨hj, rfl⟩ := List.getElem?_eq_some_iff.1 hx
  have hj' : j < S.data.size := by simpa using hj
  have e1 : (⟨W.heap.size, 0, none⟩ : Addr).add j = ⟨W.heap.size, j, none⟩ := by unfold Addr.add; split <;> simp_all
  have hb := Deep.blk_alloc_new W.drew (.cells (bytesRow S (grownCap W S.size 0 5)) 5 ((bytesRow S (grownCap W S.size 0 5)).size, (bytesRow S (grownCap W S.size 0 5)).size + 1))
  rw [e1, cell_of_row _ W.heap.size j _ _ _ hb, bytesRow_at S _ j hj']
  simp [u8v]
theorem u8_one (l : List UInt8) : ∀ u ∈ l.map u8v, u.oneCell' = true := fun u hu => by
  obtain ⟨x, _, rfl⟩ := List.mem_map.1 hu
  rfl
theorem rd_cell {w : World} {L : List ByteArray} {b off : Nat} (h : Rd Value.string w (some ⟨b, off, none⟩) L) (k : Nat) (hk : k < L.length) (x : ByteArray) (hx : x = L[k]) : w.cell? ⟨b, off + k, none⟩ = some (.string x) := by
  obtain ⟨b', off', e2, _, hc⟩ := h k hk
  injection e2 with e2
  injection e2 with e3 e4
  subst e3 e4 hx
  exact hc
theorem cell_made (w : World) (x : Value) (t : TypeId) : (w.alloc (.cells #[x] t)).cell? ⟨w.heap.size, 0, none⟩ = some x := by
  have h : (w.alloc (.cells #[x] t)).heap[w.heap.size]? = some (.cells #[x] t (0, 0)) := Deep.blk_alloc_new w _
  rw [cell_of_row _ _ _ _ _ _ h]; rfl
theorem cell_made2 (w : World) (q : Nat) (x : Value) (t : TypeId) : ((w.drewN q).alloc (.cells #[x] t)).cell? ⟨w.heap.size, 0, none⟩ = some x := cell_made (w.drewN q) x t
set_option maxRecDepth 100000 in
set_option maxHeartbeats 2000000 in
theorem rencode_any (A : Option Addr) (c : Nat) (L : List ByteArray) (hL : L.length ≤ 900) (hs : ∀ x ∈ L, x.size ≤ 255) (w : World) (hR : Rd Value.string w A L) :
    Calls Try.prog 40 #[.slice A L.length c] w fun e w' => e = .returned (.string ⟨(frm L L.length).toArray⟩) ∧ Below w.heap.size w w' := by
  have HR := Lib.hid hR
  have HS1 := Lib.hid hs
  obtain ⟨i0, hi0, hz0, hz1, hz2⟩ := info_parts u8_info
  have Hi0 := Lib.hid hi0
  have Hz0 := Lib.hid hz0
  have Hz1 := Lib.hid hz1
  have Hz2 := Lib.hid hz2
  have hv0 : Value.int .u8 ((L.length : Int) / 256) = u8v (UInt8.ofNat (L.length / 256)) := by rw [u8_cast _ (by omega)]; congr 1
  have hv1 : Value.int .u8 ((L.length : Int) % 256) = u8v (UInt8.ofNat L.length) := by
    unfold u8v
    rw [UInt8.toNat_ofNat']; congr 1
  have hO0 : Hid ((w.alloc (.cells #[.int .u8 ((L.length : Int) / 256), .int .u8 ((L.length : Int) % 256)] 5)).ownsRow w.heap.size 5 1 (.slice (some ⟨w.heap.size, 0, none⟩) 2 2) (frm L 0).length ((frm L 0).map u8v)) := by
    have h := own_two w 5 (.int .u8 ((L.length : Int) / 256)) (.int .u8 ((L.length : Int) % 256))
    have e : (frm L 0).map u8v = [.int .u8 ((L.length : Int) / 256), .int .u8 ((L.length : Int) % 256)] := by rw [hv0, hv1]; rfl
    rw [e]
    exact Lib.hid h
  clear hR hs hi0 hz0 hz1 hz2 hv0 hv1
  go_enter Try.func40, Try.ntmps40
  go_wp2_with fail
  go_loopw [3, 4] (fun v i wr => ∃ k : Nat, k ≤ L.length ∧ i = .int .i64 k ∧ Hid (wr.ownsRow w.heap.size 5 1 v (frm L k).length ((frm L k).map u8v)) ∧ Hid (Below w.heap.size w wr)) (fun _ i _ => L.length - (intOf i).toNat)
  case atStart => exact ⟨0, Nat.zero_le _, rfl, hO0, Lib.hid ((Below.refl _ _).alloc (Nat.le_refl _) _)⟩
  case round =>
    clear hO0
    obtain ⟨k, hk, rfl, hO, hB⟩ := hrel
    obtain ⟨A1, c1, rfl, hc1⟩ := own_slice hO.out
    by_cases hlt : k < L.length
    · have hfb := frm_bound L k (fun x hx => by have := HS1.out x hx; omega)
      have hfs := frm_succ L k
      have hsw := sw_le L k
      have hx := HS1.out _ (List.getElem_mem hlt)
      obtain ⟨b, off, rfl, hb, hc⟩ := (HR.out.below hB.out) k hlt
      rw [getD_at L k hlt] at hsw
      have hitem : item L k = (if k % 16 = 0 then [] else [UInt8.ofNat (sw L k)]) ++ (UInt8.ofNat (L[k].size - sw L k) :: L[k].data.toList.drop (sw L k)) := by unfold item; rw [getD_at L k hlt]
      have hcm0 : ¬ k % 16 = 0 → sw L k = cm (L[k - 1]'(by omega)) L[k] := fun h16 => by
        unfold sw; rw [if_neg h16, getD_at L k hlt, getD_at L (k - 1) (by omega)]
      by_cases h16 : k % 16 = 0
      · have h0 : sw L k = 0 := by unfold sw; rw [if_pos h16]
        rw [if_pos h16, h0] at hitem
        have hk16 : ((k : Int).tmod 16 == 0) = true := by rw [mod16, decide_eq_true h16]
        have hk16' : (k : Int) % 16 = 0 := by omega
        obtain ⟨x, hxe⟩ : ∃ x, x = L[k] := ⟨_, rfl⟩
        rw [← hxe] at hc hx hitem
        have HEQ : Hid ((frm L (k + 1)).length = (frm L k).length + 1 + x.size ∧ (frm L (k + 1)).map u8v = ((frm L k).map u8v ++ [.int .u8 (x.size : Int)]) ++ x.data.toList.map u8v) := Lib.hid (by
          rw [hfs, hitem]
          constructor
          · simp; omega
          · rw [← u8_cast x.size (by omega)]; simp)
        have HLen : Hid ((x.data.toList.map u8v).length = x.size) := Lib.hid (by simp)
        have HX := Lib.hid hxe
        obtain ⟨Fl, hFl⟩ : ∃ F, F = frm L k := ⟨_, rfl⟩
        obtain ⟨F, hF⟩ : ∃ F, F = Fl.length := ⟨_, rfl⟩
        rw [← hFl, ← hF] at hO hc1 hfb HEQ ⊢
        clear hfs hitem hcm0 hxe hFl hsw h0 hF
        go_wp2_with (first
          | (at_builtin; refine wpList_append_one rfl (.tmp 39) (.tmp 48) 30 rfl w.heap.size 5 i0 _ 1 Try.underlying30 Hi0.out Hz0.out Hz1.out Hz2.out rfl (.slice A1 F c1) F _ rfl (hO.out.alloc _) wr.heap.size 1 (.int .u8 (x.size : Int)) rfl ?_ rfl ?_ ?_ ?_ ?_; exact (cell_made _ _ _); exact (by omega); exact (by omega); exact (hB.out.alloc (hB.out).size _).size; intro v2 w2 hown2 hg2; have HO2 := Lib.hid hown2; have HB2 := Lib.hid (below_grownBy (B := w.heap.size) (a := w) (hB.out.alloc (hB.out).size (.cells #[.int .u8 (x.size : Int)] 5)) (hO.out.alloc _) hg2 (Nat.le_refl _) (Nat.le_refl _)); have hc2 := rd_cell (HR.out.below HB2.out) k hlt x HX.out; obtain ⟨cc, wc, hcv, hcells, hBc⟩ := conv_bytes (x) w2; have HOc := Lib.hid (own_below hown2 hBc); have HBc := Lib.hid (below_to HB2.out hBc); have HC := Lib.hid hcells; clear hown2 hg2 hcells hBc)
          | (at_builtin; refine wpList_append_more rfl (.tmp 50) (.tmp 57) 30 rfl w.heap.size 5 i0 _ 1 Try.underlying30 Hi0.out Hz0.out Hz1.out Hz2.out rfl v2 (F + 1) _ rfl HOc.out (some ⟨w2.heap.size, 0, none⟩) x.size cc rfl (x.data.toList.map u8v) ?_ (fun h => by cases h) ?_ (u8_one _) ?_ ?_ ?_ ?_; exact HLen.out; exact (fun ad e => by injection e with e; subst e; exact HC.out); exact (by omega); exact (by omega); exact HBc.out.size; intro v3 w3 hown3 hg3; have HO3 := Lib.hid hown3; have HB3 := Lib.hid (below_grownBy (B := w.heap.size) (a := w) HBc.out HOc.out hg3 (Nat.le_refl _) (Nat.le_refl _)); clear hown3 hg3))
        go_roundw
        case rel => exact ⟨k + 1, by omega, by go_num, by rw [HEQ.out.1, HEQ.out.2]; exact HO3, HB3⟩
        case measure => simp [intOf]; omega
      · have hk0 : 0 < k := by
          rcases Nat.eq_zero_or_pos k with h | h
          · subst h; exact absurd rfl h16
          · exact h
        rw [if_neg h16] at hitem
        have hk16 : ((k : Int).tmod 16 == 0) = false := by rw [mod16, decide_eq_false h16]
        have hk16' : ¬ (k : Int) % 16 = 0 := by omega
        have hcs := hcm0 h16
        have hy := HS1.out _ (List.getElem_mem (show k - 1 < L.length by omega))
        have hc2' := rd_cell (HR.out.below hB.out) (k - 1) (by omega) _ rfl
        obtain ⟨x, hxe⟩ : ∃ x, x = L[k] := ⟨_, rfl⟩
        obtain ⟨y, hye⟩ : ∃ y, y = L[k - 1] := ⟨_, rfl⟩
        rw [← hxe] at hc hx hitem hsw hcs
        rw [← hye] at hc2' hy hcs
        have hcm := fun W => rcommon_any y x (by omega) (by omega) W
        rw [← hcs] at hcm
        obtain ⟨s, hse⟩ : ∃ s, s = sw L k := ⟨_, rfl⟩
        rw [← hse] at hcm hitem hsw
        have HEQ : Hid ((frm L (k + 1)).length = (frm L k).length + 1 + 1 + (x.size - s) ∧ (frm L (k + 1)).map u8v = (((frm L k).map u8v ++ [.int .u8 (s : Int)]) ++ [.int .u8 ((x.size : Int) - (s : Int))]) ++ (x.extract s x.size).data.toList.map u8v) := Lib.hid (by
          rw [hfs, hitem, ext_bytes]
          constructor
          · simp; omega
          · rw [show (x.size : Int) - (s : Int) = ((x.size - s : Nat) : Int) by omega, ← u8_cast s (by omega), ← u8_cast (x.size - s) (by omega)]; simp)
        have HLen : Hid (((x.extract s x.size).data.toList.map u8v).length = x.size - s) := Lib.hid (by rw [ext_bytes]; simp)
        have HX := Lib.hid hxe
        obtain ⟨Fl, hFl⟩ : ∃ F, F = frm L k := ⟨_, rfl⟩
        obtain ⟨F, hF⟩ : ∃ F, F = Fl.length := ⟨_, rfl⟩
        rw [← hFl, ← hF] at hO hc1 hfb HEQ ⊢
        have hlt1 : (k : Int) - 1 < (L.length : Int) := by omega
        have hlt2 : k - 1 < L.length := by omega
        have wk1 : IntKind.i64.wrap ((k : Int) - 1) = (k : Int) - 1 := by rw [IntWalk.i64_in _ (by omega)]
        have wk4 : (1 : Int) ≤ (k : Int) := by omega
        have wk5 : (k : Int) ≤ (L.length : Int) := by omega
        have hxs := ext_size x s
        clear hfs hitem hcm0 hxe hFl hF hye hse hcs
        go_wp2_with fail
        go_quiet ((go_at_call 58; exact Calls.quiet_of (hcm _)))
        (refine (by assumption : ∀ _ _, _ → _) _ _ ?_)
        go_wp2_with (first
          | (at_builtin; refine wpList_append_one rfl (.tmp 34) (.tmp 37) 30 rfl w.heap.size 5 i0 _ 1 Try.underlying30 Hi0.out Hz0.out Hz1.out Hz2.out rfl (.slice A1 F c1) F _ rfl ((own_below hO.out (drewN_below _ _)).alloc _) wr.heap.size 1 (.int .u8 (s : Int)) rfl ?_ rfl ?_ ?_ ?_ ?_; exact (cell_made2 _ _ _ _); exact (by omega); exact (by omega); exact ((below_drewN hB.out _).alloc ((below_drewN hB.out _)).size _).size; intro v2 w2 hown2 hg2; have HO2 := Lib.hid hown2; have HB2 := Lib.hid (below_grownBy (B := w.heap.size) (a := w) ((below_drewN hB.out _).alloc ((below_drewN hB.out _)).size (.cells #[.int .u8 (s : Int)] 5)) ((own_below hO.out (drewN_below _ _)).alloc _) hg2 (Nat.le_refl _) (Nat.le_refl _)); have hc2 := rd_cell (HR.out.below HB2.out) k hlt x HX.out; clear hown2 hg2)
          | (at_builtin; refine wpList_append_one rfl (.tmp 39) (.tmp 48) 30 rfl w.heap.size 5 i0 _ 1 Try.underlying30 Hi0.out Hz0.out Hz1.out Hz2.out rfl v2 (F + 1) _ rfl (HO2.out.alloc _) w2.heap.size 1 (.int .u8 ((x.size : Int) - (s : Int))) rfl ?_ rfl ?_ ?_ ?_ ?_; exact (cell_made _ _ _); exact (by omega); exact (by omega); exact (HB2.out.alloc (HB2.out).size _).size; intro v3 w3 hown3 hg3; have HO3 := Lib.hid hown3; have HB3 := Lib.hid (below_grownBy (B := w.heap.size) (a := w) (HB2.out.alloc (HB2.out).size (.cells #[.int .u8 ((x.size : Int) - (s : Int))] 5)) (HO2.out.alloc _) hg3 (Nat.le_refl _) (Nat.le_refl _)); have hc3 := rd_cell (HR.out.below HB3.out) k hlt x HX.out; obtain ⟨cc, wc, hcv, hcells, hBc⟩ := conv_bytes (x.extract s x.size) w3; have HOc := Lib.hid (own_below hown3 hBc); have HBc := Lib.hid (below_to HB3.out hBc); have HC := Lib.hid hcells; clear hown3 hg3 hcells hBc)
          | (at_builtin; refine wpList_append_more rfl (.tmp 50) (.tmp 57) 30 rfl w.heap.size 5 i0 _ 1 Try.underlying30 Hi0.out Hz0.out Hz1.out Hz2.out rfl v3 (F + 1 + 1) _ rfl HOc.out (some ⟨w3.heap.size, 0, none⟩) (x.size - s) cc rfl ((x.extract s x.size).data.toList.map u8v) ?_ (fun h => by cases h) ?_ (u8_one _) ?_ ?_ ?_ ?_; exact HLen.out; exact (fun ad e => by injection e with e; subst e; exact HC.out); exact (by omega); exact (by omega); exact HBc.out.size; intro v4 w4 hown4 hg4; have HO4 := Lib.hid hown4; have HB4 := Lib.hid (below_grownBy (B := w.heap.size) (a := w) HBc.out HOc.out hg4 (Nat.le_refl _) (Nat.le_refl _)); clear hown4 hg4))
        go_roundw
        case rel => exact ⟨k + 1, by omega, by go_num, by rw [HEQ.out.1, HEQ.out.2]; exact HO4, HB4⟩
        case measure => simp [intOf]; omega
    · obtain rfl : k = L.length := by omega
      have hf2 := frm_mono L (Nat.zero_le L.length)
      rw [frm_two] at hf2
      obtain ⟨g, c2, hv, _, _, hgc, hcells⟩ := own_pos hO.out (by omega)
      have hcv := run_convert_bytes_back wr 30 9 5 ⟨g, 0, none⟩ c2 (frm L L.length) Try.underlying30 Try.underlying5 Try.underlying9 (fun j hj => hcells j _ (by rw [List.getElem?_map, List.getElem?_eq_getElem hj]; rfl))
      injection hv with hv1 _ hv2
      subst hv1 hv2
      obtain ⟨F, hF⟩ : ∃ F, F = (frm L L.length).length := ⟨_, rfl⟩
      rw [← hF] at hcv hc1 hO ⊢
      clear hF hcells hO hf2
      go_wp2_with fail
      go_ret
      exact ⟨rfl, hB.out⟩
end Go.Proofs.Ytjkpjcklfpmcnaa
