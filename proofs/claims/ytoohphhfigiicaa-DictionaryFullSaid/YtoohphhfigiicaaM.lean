/- The law's dictionaryOf; the program's Merge. -/
import Derived.Test.YtoohphhfigiicaaL
namespace Go.Proofs.Ytoohphhfigiicaa
open Go.ChangeShapes Go.WideShapes Go.ChangeAt Go.RowKit Dp

def sh (x : ByteArray) : Bool := decide (x.size ≤ 255)
/-- The dictionary that the law makes of some strings. -/
def dcO (L : List ByteArray) : List ByteArray := bld (L.filter sh)
theorem dcO_srt (L : List ByteArray) : Srt (dcO L) := bld_srt _
theorem dcO_len (L : List ByteArray) : (dcO L).length ≤ L.length := by
  have := bld_len (L.filter sh)
  have := List.length_filter_le sh L
  unfold dcO; omega
theorem dcO_size (L : List ByteArray) : ∀ x ∈ dcO L, x.size ≤ 255 := by
  intro x hx
  have := (bld_mem _ _).1 hx
  have h := (List.mem_filter.1 this).2
  unfold sh at h
  exact of_decide_eq_true h
theorem bdE_ok {L : List ByteArray} (hs : ∀ x ∈ L, x.size ≤ 255) (hl : (bld L).length ≤ 4096) : bdE L = 0 ∧ bdV L = bld L := by
  have h : bdE L = 0 := by
    rw [bdE_short (fun j _ hj => hs _ (List.getElem_mem hj)), if_neg (by omega)]
  exact ⟨h, by unfold bdV; rw [h]; rfl⟩
theorem filter_take_succ (L : List ByteArray) (k : Nat) (hk : k < L.length) : (L.take (k + 1)).filter sh = (L.take k).filter sh ++ (if sh L[k] = true then [L[k]] else []) := by
  rw [List.take_succ_eq_append_getElem hk, List.filter_append]
  congr 1
  by_cases h : sh L[k] = true
  · rw [if_pos h, List.filter_cons, if_pos h]; rfl
  · rw [if_neg h, List.filter_cons, if_neg h]; rfl
set_option maxRecDepth 100000 in
set_option maxHeartbeats 1000000 in
theorem dictionaryOf_any (A : Option Addr) (c : Nat) (L : List ByteArray) (hL : L.length ≤ 4096) (hsz : ∀ x ∈ L, x.size ≤ 9223372036854775807) (w : World) (hR : Rd Value.string w A L) :
    Calls Try.prog 21 #[.slice A L.length c] w fun e w' => OutS w' e (dcO L) ∧ Below w.heap.size w w' := by
  obtain ⟨i0, hi0, hz0, hz1, hz2⟩ := info_parts str_info
  have Hi0 := Lib.hid hi0
  have Hz0 := Lib.hid hz0
  have Hz1 := Lib.hid hz1
  have Hz2 := Lib.hid hz2
  have HR := Lib.hid hR
  have Hs := Lib.hid hsz
  clear hR hi0 hz0 hz1 hz2 hsz
  go_enter Try.func21, Try.ntmps21
  go_wp2_with fail
  go_loopw [3, 4] (fun v i wr => ∃ k : Nat, k ≤ L.length ∧ i = .int .i64 k ∧ Hid (wr.ownsRow w.heap.size 9 1 v ((L.take k).filter sh).length (((L.take k).filter sh).map Value.string)) ∧ Hid (Below w.heap.size w wr)) (fun _ i _ => L.length - (intOf i).toNat)
  case atStart => exact ⟨0, Nat.zero_le _, rfl, Lib.hid (own_nil _ _), Lib.hid (Below.refl _ _)⟩
  case round =>
    obtain ⟨k, hk, rfl, hO, hB⟩ := hrel
    by_cases hlt : k < L.length
    · obtain ⟨b, off, rfl, hb, hc⟩ := (HR.out.below hB.out) k hlt
      have hx := Hs.out _ (List.getElem_mem hlt)
      have HT := Lib.hid (filter_take_succ L k hlt)
      have hfl := List.length_filter_le sh (L.take k)
      rw [List.length_take] at hfl
      obtain ⟨x, hxe⟩ : ∃ x, x = L[k] := ⟨_, rfl⟩
      rw [← hxe] at hc hx HT
      clear hxe
      obtain ⟨F, hF⟩ : ∃ F, F = (L.take k).filter sh := ⟨_, rfl⟩
      rw [← hF] at hO HT hfl
      clear hF
      by_cases h3 : x.size ≤ 255
      · have hT2 : Hid ((L.take (k + 1)).filter sh = F ++ [x]) := Lib.hid (by rw [HT.out, if_pos (show sh x = true from decide_eq_true h3)])
        go_wp2_with (at_builtin; refine wpList_append_one rfl (.tmp 19) (.tmp 24) 22 rfl w.heap.size 9 i0 _ 16 Try.underlying22 Hi0.out Hz0.out Hz1.out Hz2.out rfl u3 F.length _ rfl (hO.out.alloc _) wr.heap.size 1 (.string x) rfl (by simp [go_sem]) rfl (by omega) (by omega) (by have := hB.out.size; simp; omega) ?_; intro v2 w2 hown2 hg2)
        have HO := Lib.hid hown2
        have HB := Lib.hid (below_grownBy (B := w.heap.size) (a := w) (hB.out.alloc hB.out.size (.cells #[.string x] 9)) (hO.out.alloc _) hg2 (Nat.le_refl _) (Nat.le_refl _))
        clear hown2 hg2
        go_wp2_with fail
        go_roundw
        case rel => exact ⟨k + 1, by omega, by go_num, by rw [hT2.out, List.map_append, List.length_append]; exact HO, HB⟩
        case measure => simp [intOf]; omega
      · have hT2 : Hid ((L.take (k + 1)).filter sh = F) := Lib.hid (by rw [HT.out, if_neg (by unfold sh; simpa using h3), List.append_nil])
        go_wp2_with fail
        go_roundw
        case rel => exact ⟨k + 1, by omega, by go_num, by rw [hT2.out]; exact hO, hB⟩
        case measure => simp [intOf]; omega
    · obtain rfl : k = L.length := by omega
      rw [List.take_length] at hO
      have hfl := List.length_filter_le sh L
      have hF2 : Hid (∀ x ∈ L.filter sh, x.size ≤ 255) := Lib.hid (fun x hx => of_decide_eq_true (List.mem_filter.1 hx).2)
      have hbl := bld_len (L.filter sh)
      have hD : Hid (dcO L = bld (L.filter sh)) := Lib.hid rfl
      obtain ⟨F, hF⟩ : ∃ F, F = L.filter sh := ⟨_, rfl⟩
      rw [← hF] at hO hfl hF2 hD hbl
      clear hF
      obtain ⟨A', c', rfl, hc'⟩ := own_slice hO.out
      have hrf := Rd.own hO.out
      have hok := bdE_ok hF2.out (by omega)
      have hcall := rbuild_any A' c' F (by omega) (fun x hx => by have := hF2.out x hx; omega) _ hrf
      rw [hok.1, hok.2] at hcall
      clear hok hrf
      go_wp2_with fail
      refine hcall.mono ?_
      rintro e w1 ⟨⟨A2, c2, rfl, hc2, hA2, hr2⟩, hB2⟩
      have HB2 := Lib.hid (below_to hB.out hB2)
      have HA2 := Lib.hid hA2
      have HR2 := Lib.hid hr2
      clear hA2 hr2 hB2 hcall
      go_wp2_with fail
      go_ret
      refine ⟨?_, HB2.out⟩
      rw [hD.out]
      exact ⟨A2, c2, rfl, hc2, HA2.out, HR2.out⟩

/-- What the program's Merge returns. -/
def OutM (w : World) (e : Ending) (R : List ByteArray) (X Y : List Int) (E : Int) : Prop :=
  ∃ A c A2 c2 A3 c3, e = .returned (.tuple #[.slice A R.length c, .slice A2 X.length c2, .slice A3 Y.length c3, .int .i64 E]) ∧ R.length ≤ c ∧ X.length ≤ c2 ∧ Y.length ≤ c3 ∧ Rd Value.string w A R ∧ Rd (Value.int .i64) w A2 X ∧ Rd (Value.int .i64) w A3 Y
theorem codes_found {D M : List ByteArray} (hS : Srt D) (h : ∀ x ∈ M, x ∈ D) : fe (cdE D) M = 0 ∧ res (cdE D) (cdV D) M = M.map (cdV D) := by
  have h0 : fe (cdE D) M = 0 := fe_all _ _ fun j _ hj => by
    obtain ⟨k, hk, _⟩ := fd_mem hS (h _ (List.getElem_mem hj))
    unfold cdE; rw [hk]; rfl
  exact ⟨h0, by unfold res; rw [if_pos h0]⟩
set_option maxRecDepth 100000 in
set_option maxHeartbeats 1000000 in
theorem merge_any (A B : Option Addr) (c d : Nat) (L M : List ByteArray) (hL : L.length ≤ 100000) (hM : M.length ≤ 100000) (hsz : ∀ x ∈ L ++ M, x.size ≤ 9223372036854775807) (hA : Addressed A c) (hB : Addressed B d) (hlc : L.length ≤ c) (hmd : M.length ≤ d) (w : World) (hR : Rd Value.string w A L) (hR2 : Rd Value.string w B M) :
    Calls Try.prog 20 #[.slice A L.length c, .slice B M.length d] w fun e w' => OutM w' e (bdV (L ++ M)) (if bdE (L ++ M) = 0 then L.map (cdV (bld (L ++ M))) else []) (if bdE (L ++ M) = 0 then M.map (cdV (bld (L ++ M))) else []) (bdE (L ++ M)) ∧ Below w.heap.size w w' := by
  have HR := Lib.hid hR
  have HR2 := Lib.hid hR2
  have Hs := Lib.hid hsz
  have HA := Lib.hid hA
  have HB := Lib.hid hB
  have hcat := concat_any w.heap.size A B c d L M (by omega) (by omega) hA hB _ (Deep.blk_alloc_new w (.cells #[.slice A L.length c, .slice B M.length d] 22)) (hR.alloc _) (hR2.alloc _) hlc hmd
  have hmL : ∀ x ∈ L, x ∈ L ++ M := fun x hx => List.mem_append_left _ hx
  have hmM : ∀ x ∈ M, x ∈ L ++ M := fun x hx => List.mem_append_right _ hx
  have hlm : (L ++ M).length = L.length + M.length := List.length_append
  obtain ⟨N, hN⟩ : ∃ N, N = L ++ M := ⟨_, rfl⟩
  rw [← hN] at hcat Hs hmL hmM hlm ⊢
  have HLM := Lib.hid hlm
  have HmL := Lib.hid hmL
  have HmM := Lib.hid hmM
  have HC := Lib.hid hcat
  clear hR hR2 hsz hA hB hcat hN hlm hmL hmM
  by_cases hE : bdE N = 0
  · have hV : bdV N = bld N := by unfold bdV; rw [hE]; rfl
    rw [hV, hE, if_pos rfl, if_pos rfl]
    have HV := Lib.hid hV
    have HE := Lib.hid hE
    have HD : Hid ((bld N).length ≤ N.length) := Lib.hid (bld_len N)
    clear hV hE
    go_enter Try.func20, Try.ntmps20
    go_wp2_with fail
    refine HC.out.mono ?_
    rintro e w1 ⟨⟨A1, c1, rfl, hc1, hA1, hr1⟩, hB1⟩
    have HB1 : Hid (Below w.heap.size w w1) := Lib.hid (Below.trans ((Below.refl w.heap.size w).alloc (Nat.le_refl _) _) (hB1.mono (by simp)))
    have HR1 := Lib.hid hr1
    have hcall := build_any A1 c1 N (by rw [HLM.out]; omega) Hs.out w1 hr1
    rw [HV.out, HE.out] at hcall
    clear hB1 hr1 hA1
    go_wp2_with fail
    refine hcall.mono ?_
    rintro e w2 ⟨⟨A2, c2, rfl, hc2, hA2, hr2⟩, hB2⟩
    have HB2 := Lib.hid (below_to HB1.out hB2)
    clear hcall hB2 hA2
    have hS := bld_srt N
    have hcf1 := codes_found (M := L) hS (fun x hx => (bld_mem _ _).2 (HmL.out x hx))
    have hcf2 := codes_found (M := M) hS (fun x hx => (bld_mem _ _).2 (HmM.out x hx))
    have hbl : (bld N).length ≤ 1000000 := by have := HD.out; rw [HLM.out] at this; omega
    obtain ⟨D, hD⟩ : ∃ D, D = bld N := ⟨_, rfl⟩
    rw [← hD] at hc2 hr2 hS hcf1 hcf2 hbl ⊢
    have hcall1 := codes_any A2 A c2 c D hS L hbl (by omega) w2 hr2 (HR.out.below HB2.out)
    rw [hcf1.1, hcf1.2] at hcall1
    have HS := Lib.hid hS
    have HC2 := Lib.hid hcf2
    have HR3 := Lib.hid hr2
    have HDD := Lib.hid hD
    clear hD hr2 hS hcf1 hcf2
    go_wp2_with fail
    refine hcall1.mono ?_
    rintro e w3 ⟨⟨A3, c3, rfl, hc3, hr3⟩, hB3⟩
    have HB3 := Lib.hid (below_to HB2.out hB3)
    have HR4 := Lib.hid (HR3.out.below hB3)
    have HX := Lib.hid hr3
    have hcall2 := codes_any A2 B c2 d D HS.out M hbl (by omega) w3 HR4.out (HR2.out.below HB3.out)
    rw [HC2.out.1, HC2.out.2] at hcall2
    clear hcall1 hB3 hr3
    go_wp2_with fail
    refine hcall2.mono ?_
    rintro e w4 ⟨⟨A4, c4, rfl, hc4, hr4⟩, hB4⟩
    have HB4 := Lib.hid (below_to HB3.out hB4)
    have HR5 := Lib.hid (HR4.out.below hB4)
    have HX2 := Lib.hid (HX.out.below hB4)
    have HY := Lib.hid hr4
    clear hcall2 hB4 hr4
    go_wp2_with fail
    have hdd := HDD.out
    subst hdd
    refine bodyPost_ret (v := .tuple #[.slice A2 (bld N).length c2, .slice A3 (L.map (cdV (bld N))).length c3, .slice A4 (M.map (cdV (bld N))).length c4, .int .i64 0]) (by simp [results, Try.results20, go_sem]) rfl ⟨⟨A2, c2, A3, c3, A4, c4, rfl, hc2, hc3, hc4, HR5.out, HX2.out, HY.out⟩, HB4.out⟩
  · have hV : bdV N = [] := by unfold bdV; rw [if_neg hE]
    rw [hV, if_neg hE, if_neg hE]
    obtain ⟨E, hEE⟩ : ∃ E, E = bdE N := ⟨_, rfl⟩
    rw [← hEE] at hE ⊢
    have hne : (E != 0) = true := by simpa using hE
    have hne2 : (E == 0) = false := by simpa using hE
    have HV := Lib.hid hV
    have HEE := Lib.hid hEE
    clear hV hE hEE
    go_enter Try.func20, Try.ntmps20
    go_wp2_with fail
    refine HC.out.mono ?_
    rintro e w1 ⟨⟨A1, c1, rfl, hc1, hA1, hr1⟩, hB1⟩
    have HB1 : Hid (Below w.heap.size w w1) := Lib.hid (Below.trans ((Below.refl w.heap.size w).alloc (Nat.le_refl _) _) (hB1.mono (by simp)))
    have HR1 := Lib.hid hr1
    have hcall := build_any A1 c1 N (by rw [HLM.out]; omega) Hs.out w1 hr1
    rw [HV.out, ← HEE.out] at hcall
    clear hB1 hr1 hA1
    go_wp2_with fail
    refine hcall.mono ?_
    rintro e w2 ⟨⟨A2, c2, rfl, hc2, hA2, hr2⟩, hB2⟩
    have HB2 := Lib.hid (below_to HB1.out hB2)
    clear hcall hB2 hA2
    clear hr2
    go_wp2_with fail
    refine bodyPost_ret (v := .tuple #[.slice none 0 0, .slice none 0 0, .slice none 0 0, .int .i64 E]) (by simp [results, Try.results20, go_sem]) rfl ⟨⟨none, 0, none, 0, none, 0, rfl, Nat.le_refl _, Nat.le_refl _, Nat.le_refl _, Rd.nil, Rd.nil, Rd.nil⟩, HB2.out⟩
end Go.Proofs.Ytoohphhfigiicaa
