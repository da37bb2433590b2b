/- The statement DictionaryFull: for any two numbers, the law returns true and changes nothing (written by wip/bin/gen_full.py). -/
import Derived.Test.YtoohphhfigiicaaRow
import Derived.Test.YtoohphhfigiicaaFq
import Derived.Test.YtoohphhfigiicaaIv
namespace Go.Proofs.Ytoohphhfigiicaa.lawFull
open Go.Proofs.Ytoohphhfigiicaa Go.ChangeShapes Go.WideShapes Go.ChangeAt Go.RowKit Go.Joins Dp

theorem bdu8 {a : Int} (w : (Lit.int .u8 a).wf = true) : 0 ≤ a ∧ a ≤ 255 := by
  simpa [Lit.wf, IntKind.min, IntKind.max, IntKind.signed, IntKind.bits] using w
/-- Two bytes turned to a string. -/
theorem conv_two {W : World} {X : Nat} (x y : Nat) (hx : x ≤ 255) (hy : y ≤ 255) (h : W.heap[X]? = some (.cells #[.int .u8 (x : Int), .int .u8 (y : Int)] 5 (0, 0))) :
    (convert 30 9 (.slice (some ⟨X, 0, none⟩) 2 2)).run Try.prog W = .ok (.string ⟨#[UInt8.ofNat x, UInt8.ofNat y]⟩) W := by
  have h1 := run_convert_bytes_back (P := Try.prog) W 30 9 5 ⟨X, 0, none⟩ 2 [UInt8.ofNat x, UInt8.ofNat y] Try.underlying30 Try.underlying5 Try.underlying9 (fun j hj => by
    rw [add_flat, Nat.zero_add]
    rcases (by simp at hj; omega : j = 0 ∨ j = 1) with rfl | rfl
    · rw [cell_of_row W X 0 _ _ _ h]
      show some (Value.int .u8 (x : Int)) = some (Value.int .u8 ((UInt8.ofNat x).toNat : Int))
      rw [UInt8.toNat_ofNat', Nat.mod_eq_of_lt (by omega)]
    · rw [cell_of_row W X 1 _ _ _ h]
      show some (Value.int .u8 (y : Int)) = some (Value.int .u8 ((UInt8.ofNat y).toNat : Int))
      rw [UInt8.toNat_ofNat', Nat.mod_eq_of_lt (by omega)])
  exact h1
theorem own_mt (w : World) (e : TypeId) : (w.alloc (.cells #[] e)).drew.ownsRow w.heap.size e 1 (.slice (some ⟨w.heap.size, 0, none⟩) 0 0) 0 [] :=
  ⟨rfl, .inr ⟨w.heap.size, 0, #[], rfl, Nat.le_refl _, Deep.blk_alloc_new w _, Nat.le_refl _, by decide, rfl, rfl⟩⟩
theorem own_mtb {w : World} {B G : Nat} {e : TypeId} (h : w.heap[G]? = some (.cells #[] e (0, 0))) (hB : B ≤ G) : w.ownsRow B e 1 (.slice (some ⟨G, 0, none⟩) 0 0) 0 [] :=
  ⟨rfl, .inr ⟨G, 0, #[], rfl, hB, h, Nat.le_refl _, by decide, rfl, rfl⟩⟩
theorem rd_take {w : World} {A : Option Addr} {L : List ByteArray} (h : Rd Value.string w A L) (k : Nat) : Rd Value.string w A (L.take k) := fun j hj => by
  have hj2 : j < L.length := by rw [List.length_take] at hj; omega
  obtain ⟨b, off, e, hb, hc⟩ := h j hj2
  exact ⟨b, off, e, hb, by rw [hc, List.getElem_take]⟩
theorem rd_last {w : World} {g : Nat} {L : List ByteArray} {s : ByteArray} (h : Rd Value.string w (some ⟨g, 0, none⟩) (L ++ [s])) : Rd Value.string w (some ⟨g, L.length, none⟩) [s] := fun j hj => by
  have hj0 : j = 0 := by simpa using hj
  subst hj0
  obtain ⟨b, off, e, hb, hc⟩ := h L.length (by simp)
  injection e with e
  injection e with e1 e2
  subst e1 e2
  refine ⟨g, L.length, rfl, hb, ?_⟩
  rw [Nat.zero_add] at hc
  rw [Nat.add_zero, hc]
  simp
theorem cell1 {W : World} {X : Nat} {u : Value} {e : TypeId} (h : W.heap[X]? = some (.cells #[u] e (0, 0))) : ∀ ad, some (⟨X, 0, none⟩ : Addr) = some ad → ∀ j y, [u][j]? = some y → W.cell? (ad.add j) = some y := by
  intro ad had j y hy
  injection had with had
  subst had
  obtain ⟨hj, rfl⟩ := List.getElem?_eq_some_iff.1 hy
  have hj0 : j = 0 := by simpa using hj
  subst hj0
  rw [add_flat, cell_of_row W X 0 _ _ _ h]
  rfl
set_option maxRecDepth 100000 in
set_option maxHeartbeats 16000000 in
theorem walk (w : World) (a0 : Int) (wa0 : (Lit.int .u8 a0).wf = true) (a1 : Int) (wa1 : (Lit.int .u8 a1).wf = true) :
    Calls Try.prog 4 #[.int .u8 a0, .int .u8 a1] w fun e w' => e = .returned (.bool true) ∧ Below w.heap.size w w' := by
  obtain ⟨x, rfl, hx⟩ : ∃ x : Nat, a0 = (x : Int) ∧ x ≤ 255 := ⟨a0.toNat, by have := bdu8 wa0; omega, by have := bdu8 wa0; omega⟩
  obtain ⟨r, rfl, hr⟩ : ∃ x : Nat, a1 = (x : Int) ∧ x ≤ 255 := ⟨a1.toNat, by have := bdu8 wa1; omega, by have := bdu8 wa1; omega⟩
  clear wa0 wa1
  obtain ⟨i0, hi0, hz0, hz1, hz2⟩ := info_parts str_info
  have Hi0 := Lib.hid hi0
  have Hz0 := Lib.hid hz0
  have Hz1 := Lib.hid hz1
  have Hz2 := Lib.hid hz2
  clear hi0 hz0 hz1 hz2
  have CK := Lib.hid (fun W => known_any W)
  go_enter Try.func4, Try.ntmps4
  go_wp2_with fail
  refine (CK.out _).mono ?_
  rintro e w1 ⟨rfl, hb⟩
  have HB1 := Lib.hid hb
  clear hb
  go_wp2_with fail
  go_loopw [5, 6] (fun u iv wr => ∃ j : Nat, j ≤ 4096 ∧ iv = .int .i64 (j : Int) ∧ Hid (wr.ownsRow w1.heap.size 9 1 u j ((fL j).map Value.string)) ∧ Hid (Below w1.heap.size w1 wr)) (fun _ iv _ => 4096 - (intOf iv).toNat)
  case atStart => exact ⟨0, Nat.zero_le _, rfl, Lib.hid (own_nil _ _), Lib.hid (Below.refl _ _)⟩
  case round =>
    obtain ⟨j, hj, rfl, HO, HB⟩ := hrel
    by_cases hlt : j < 4096
    · have hjI : (j : Int) < 4096 := by omega
      have hj0 : (0 : Int) ≤ (j : Int) := by omega
      have hw1 : IntKind.i64.wrap ((j : Int) + 1) = (j : Int) + 1 := by simp only [IntKind.wrap_i64]; omega
      have HS : Hid ((fL (j + 1)).map Value.string = (fL j).map Value.string ++ [.string (fS j)]) := Lib.hid (by rw [fL_snoc, List.map_append]; rfl)
      obtain ⟨M, hM⟩ : ∃ M, M = (fL j).map Value.string := ⟨_, rfl⟩
      rw [← hM] at HS HO
      clear hM
      obtain ⟨p, hp⟩ : ∃ p, p = j / 64 := ⟨_, rfl⟩
      obtain ⟨q, hq⟩ : ∃ q, q = j % 64 := ⟨_, rfl⟩
      have hS : fS j = ⟨#[UInt8.ofNat p, UInt8.ofNat q]⟩ := by rw [hp, hq]; rfl
      have k4 := conv_two p q (by omega) (by omega) (Deep.blk_alloc_new wr (.cells #[.int .u8 (p : Int), .int .u8 (q : Int)] 5))
      rw [← hS] at k4
      obtain ⟨s, hs⟩ : ∃ s, s = fS j := ⟨_, rfl⟩
      rw [← hs] at k4 HS
      have hd1 : (j : Int) / 64 = (p : Int) := by omega
      have hd2 : (j : Int).tdiv 64 = (p : Int) := by rw [Int.tdiv_eq_ediv_of_nonneg hj0]; exact hd1
      have hm1 : (j : Int) % 64 = (q : Int) := by omega
      have hm2 : (j : Int).tmod 64 = (q : Int) := by rw [Int.tmod_eq_emod_of_nonneg hj0]; exact hm1
      have hp9 : (p : Int) ≤ 255 := by omega
      have hq9 : (q : Int) ≤ 255 := by omega
      have hp8 : IntKind.u8.wrap (p : Int) = (p : Int) := by simp only [IntKind.wrap_u8]; omega
      have hq8 : IntKind.u8.wrap (q : Int) = (q : Int) := by simp only [IntKind.wrap_u8]; omega
      have hw64p : IntKind.i64.wrap (p : Int) = (p : Int) := by simp only [IntKind.wrap_i64]; omega
      clear hp hq hS hs
      go_wp2_with (at_builtin; refine wpList_append_one rfl (.tmp 22) (.tmp 31) 22 rfl w1.heap.size 9 i0 _ 16 Try.underlying22 Hi0.out Hz0.out Hz1.out Hz2.out rfl u5 j _ rfl ((HO.out.alloc _).alloc _) (wr.heap.size + 1) 1 (.string s) rfl (by simp [go_sem]) rfl (by omega) (by omega) (by have := HB.out.size; simp; omega) ?_; intro v2 w2 hown2 hg2; have HO2 := Lib.hid hown2; have HB2 := Lib.hid (below_grownBy (B := w1.heap.size) (a := w1) ((HB.out.alloc HB.out.size (.cells #[.int .u8 (p : Int), .int .u8 (q : Int)] 5)).alloc (by have := HB.out.size; simp; omega) (.cells #[.string s] 9)) ((HO.out.alloc _).alloc _) hg2 (Nat.le_refl _) (Nat.le_refl _)); clear hown2 hg2)
      go_roundw
      case rel => exact ⟨j + 1, by omega, by go_num, by rw [HS.out]; exact HO2, HB2⟩
      case measure => simp [intOf] <;> omega
    · obtain rfl : j = 4096 := by omega
      have HB0 := Lib.hid (HB1.out.trans (HB.out.mono HB1.out.size))
      obtain ⟨ft1, ft2⟩ := full_twice r
      obtain ⟨fm1, fm2, fm3⟩ := full_more x
      have hlen := fL_len 4096
      have hsz : ∀ y ∈ fL 4096, y.size = 2 := fL_size
      have hfx : fX x = ⟨#[UInt8.ofNat 64, UInt8.ofNat x]⟩ := rfl
      have hsx := fX_size x
      obtain ⟨F, hF⟩ : ∃ F, F = fL 4096 := ⟨_, rfl⟩
      rw [← hF] at ft1 ft2 fm1 fm2 fm3 hlen hsz HO
      obtain ⟨X, hX⟩ : ∃ X, X = fX x := ⟨_, rfl⟩
      rw [← hX] at fm1 fm2 fm3 hfx hsx
      have hszM : ∀ y ∈ F ++ [X], y.size = 2 := fun y hy => (List.mem_append.1 hy).elim (hsz y) (fun h => by rw [List.mem_singleton.1 h]; exact hsx)
      have hlenM : (F ++ [X]).length = 4097 := by rw [List.length_append, hlen]; rfl
      have CB1 := Lib.hid (fun A c W h => build_full F hlen hsz r hr ⟨ft1, ft2⟩ A c W h)
      have CB2 := Lib.hid (fun A c W h => build_over (F ++ [X]) hlenM hszM ⟨fm1, fm2⟩ A c W h)
      have CCh := Lib.hid (fun A c W h => check_over (F ++ [X]) hlenM hszM fm3 A c W h)
      have CMg := Lib.hid (fun A B c d hA hB hc hd W h k => merge_over F X hlen hszM ⟨fm1, fm2⟩ A B c d hA hB hc hd W h k)
      have CSm := Lib.hid (fun A B c d W h k => same_full F hlen A B c d W h k)
      have HLen := Lib.hid hlen
      have HFX := Lib.hid hfx
      have hmap : (F.map Value.string).length = 4096 := by rw [List.length_map, hlen]
      have HMap := Lib.hid hmap
      have hmapr : ((F.take r).map Value.string).length = r := by rw [List.length_map, List.length_take, hlen]; omega
      have HMapr := Lib.hid hmapr
      obtain ⟨g, c, rfl, hb1, hl1, hc1, _⟩ := own_pos HO.out (by omega)
      have HRd : Hid (Rd Value.string wr (some ⟨g, 0, none⟩) F) := Lib.hid (Rd.own HO.out)
      clear ft1 ft2 fm1 fm2 fm3 hlen hsz hfx hsx hF hX hszM hlenM hmap hmapr HO HB
      have hr0 : (0 : Int) ≤ (r : Int) := by omega
      have hr1 : (r : Int) ≤ (c : Int) := by omega
      have hr2 : (r : Int) ≤ 4096 := by omega
      have hr3 : r ≤ c := by omega
      have hrw : IntKind.i64.wrap (r : Int) = (r : Int) := by simp only [IntKind.wrap_i64]; omega
      have HA1 : Hid (Below wr.heap.size wr (wr.alloc (.cells #[] 9)).drew) := Lib.hid (((Below.refl _ _).alloc (Nat.le_refl _) _).drew)
      go_wp2_with fail
      go_region_law ((first
        | (refine step_append_more rfl (.tmp 34) (.tmp 35) 22 rfl wr.heap.size 9 i0 _ 16 Try.underlying22 Hi0.out Hz0.out Hz1.out Hz2.out rfl (.slice (some ⟨wr.heap.size, 0, none⟩) 0 0) 0 [] (by simp [Act.eval]) (own_mt _ _) (some ⟨g, 0, none⟩) 4096 c (by simp [Act.eval]) (F.map Value.string) HMap.out (fun h => by cases h) (rd_all (HRd.out.below HA1.out)) (one_strs F) (by omega) (by omega) (by simp) ?_; intro v1 w2 hown1 hg1; rw [Nat.zero_add, List.nil_append] at hown1; obtain ⟨g1, c1, rfl, hb2, hl2, hc2, _⟩ := own_pos hown1 (by omega); have HO1 := Lib.hid hown1; have HB2 := Lib.hid (grown_two HA1.out hg1); clear hown1 hg1)
        | (refine step_append_more rfl (.tmp 36) (.tmp 39) 22 rfl wr.heap.size 9 i0 _ 16 Try.underlying22 Hi0.out Hz0.out Hz1.out Hz2.out rfl (.slice (some ⟨g1, 0, none⟩) 4096 c1) 4096 (F.map Value.string) (by simp [Act.eval]) HO1.out (some ⟨g, 0, none⟩) r c (by simp [Act.eval]) ((F.take r).map Value.string) HMapr.out (fun h => by cases h) (rd_all (rd_take (HRd.out.below HB2.out) r)) (one_strs _) (by omega) (by omega) HB2.out.size ?_; intro v2 w3 hown2 hg2; have HB3 := Lib.hid (below_grownBy HB2.out HO1.out hg2 (Nat.le_refl _) (Nat.le_refl _)); rw [← List.map_append] at hown2; obtain ⟨g3, c3, rfl, hb3, hl3, hc3, _⟩ := own_pos hown2 (by omega); have HR3 := Lib.hid (Rd.own hown2); clear hown2 hg2)
        | (go_simp; go_at_call 15; refine (CB1.out _ _ _ HR3.out).mono ?_; rintro e w4 ⟨⟨A4, c4, rfl, hr4⟩, hb⟩; have HR4 := Lib.hid hr4; have HB4 := Lib.hid (below_to HB3.out hb); clear hb hr4)))
      go_wp2_with fail
      have HRd4 := Lib.hid (HRd.out.below HB4.out)
      have HB04 := Lib.hid (HB0.out.trans (HB4.out.mono HB0.out.size))
      have hx0 : (0 : Int) ≤ (x : Int) := by omega
      have hx9 : (x : Int) ≤ 255 := by omega
      simp only [List.getElem_toArray, List.getElem_cons_succ, List.getElem_cons_zero, Act.put, List.setIfInBounds_toArray, List.set_cons_succ, List.set_cons_zero]
      refine wp_region_inv (fun a0 w0 d a' w' => ∃ (t44 t45 t46 t47 t48 t49 t50 t51 t9 : Value) (G B C g5 c5 : Nat), a' = (((((((((a0.put (some 44) t44).put (some 45) t45).put (some 46) t46).put (some 47) t47).put (some 48) t48).put (some 49) t49).put (some 50) t50).put (some 51) t51).put (some 9) t9) ∧ Hid (Below w0.heap.size w0 w') ∧ Hid (d 1 = true → t45 = .slice (some ⟨g, 0, none⟩) 4096 c) ∧ Hid (d 3 = true → t47 = .int .u8 (x : Int)) ∧ Hid (d 0 = true → d 2 = false → t44 = .slice (some ⟨G, 0, none⟩) 0 0 ∧ w0.heap.size ≤ G ∧ w'.heap[G]? = some (.cells #[] 9 (0, 0))) ∧ Hid (d 2 = true → d 7 = false → t46 = .slice (some ⟨g5, 0, none⟩) 4096 c5 ∧ w'.ownsRow w0.heap.size 9 1 (.slice (some ⟨g5, 0, none⟩) 4096 c5) 4096 (F.map Value.string)) ∧ Hid (d 4 = true → d 7 = false → t48 = .slice (some ⟨B, 0, none⟩) 2 2 ∧ w'.heap[B]? = some (.cells #[.int .u8 64, .int .u8 (x : Int)] 5 (0, 0))) ∧ Hid (d 5 = true → t49 = .string X) ∧ Hid (d 6 = true → d 7 = false → t50 = .slice (some ⟨C, 0, none⟩) 1 1 ∧ w'.heap[C]? = some (.cells #[.string X] 9 (0, 0))) ∧ Hid (d 7 = true → t51 = .slice (some ⟨g5, 0, none⟩) 4097 c5 ∧ 4097 ≤ c5 ∧ w'.ownsRow w0.heap.size 9 1 (.slice (some ⟨g5, 0, none⟩) 4097 c5) 4097 ((F ++ [X]).map Value.string)) ∧ Hid (d 8 = true → t9 = t51) ∧ Hid ((d 6 = true → d 5 = true) ∧ (d 7 = true → d 2 = true ∧ d 5 = true) ∧ (d 8 = true → d 7 = true))) (by kernel_rfl) (by kernel_rfl) ?_ ?_ ?_
      · exact ⟨undef, undef, undef, undef, undef, undef, undef, undef, undef, 0, 0, 0, 0, 0, (by simp only [Act.put, List.setIfInBounds_toArray, List.set_cons_zero, List.set_cons_succ]), Lib.hid (Below.drew (Below.refl _ _)), Lib.hid (fun h => nomatch h), Lib.hid (fun h => nomatch h), Lib.hid (fun h => nomatch h), Lib.hid (fun h => nomatch h), Lib.hid (fun h => nomatch h), Lib.hid (fun h => nomatch h), Lib.hid (fun h => nomatch h), Lib.hid (fun h => nomatch h), Lib.hid (fun h => nomatch h), Lib.hid ⟨(fun h => nomatch h), (fun h => nomatch h), (fun h => nomatch h)⟩⟩
      · refine ⟨?_, ?_, ?_, ?_, ?_, ?_, ?_, ?_, ?_, trivial⟩
        · intro d _ w' h0 hd hJ K hK
          obtain ⟨t44, t45, t46, t47, t48, t49, t50, t51, t9, G, B, C, g5, c5, hx, HBl, E1, E3, E0, E2, E4, E5, E6, E7, E8, EC⟩ := hJ
          simp only [Act.put, List.setIfInBounds_toArray, List.set_cons_zero, List.set_cons_succ] at hx
          refine step_at hx ?_
          clear hx
          have hA : Below w'.heap.size w' (w'.alloc (.cells #[] 9)) := (Below.refl _ _).alloc (Nat.le_refl _) _
          have hnw : (w'.alloc (.cells #[] 9)).heap[w'.heap.size]? = some (.cells #[] 9 (0, 0)) := Deep.blk_alloc_new w' _
          have kp : ∀ (Y : Nat) (q : Obj), w'.heap[Y]? = some q → (w'.alloc (.cells #[] 9)).heap[Y]? = some q := fun Y q h => (hA.block Y (Array.getElem?_eq_some_iff.1 h).1).trans h
          have HA := Lib.hid hA
          have HN := Lib.hid hnw
          have HK := Lib.hid kp
          have Hh0 := Lib.hid h0
          clear hA hnw kp hd h0
          go_simp
          refine hK.out _ _ ⟨.slice (some ⟨w'.heap.size, 0, none⟩) 0 0, t45, t46, t47, t48, t49, t50, t51, t9, w'.heap.size, B, C, g5, c5, (by simp only [Act.put, List.setIfInBounds_toArray, List.set_cons_zero, List.set_cons_succ]), Lib.hid (below_to HBl.out HA.out), E1, E3, Lib.hid (fun _ _ => ⟨rfl, HBl.out.size, HN.out⟩), Lib.hid (fun h k => ⟨(E2.out h k).1, (E2.out h k).2.alloc _⟩), Lib.hid (fun h k => ⟨(E4.out h k).1, HK.out _ _ (E4.out h k).2⟩), E5, Lib.hid (fun h k => ⟨(E6.out h k).1, HK.out _ _ (E6.out h k).2⟩), Lib.hid (fun h => ⟨(E7.out h).1, (E7.out h).2.1, (E7.out h).2.2.alloc _⟩), E8, EC⟩
        · intro d _ w' h0 hd hJ K hK
          obtain ⟨t44, t45, t46, t47, t48, t49, t50, t51, t9, G, B, C, g5, c5, hx, HBl, E1, E3, E0, E2, E4, E5, E6, E7, E8, EC⟩ := hJ
          simp only [Act.put, List.setIfInBounds_toArray, List.set_cons_zero, List.set_cons_succ] at hx
          refine step_at hx ?_
          clear hx
          clear hd
          go_simp
          refine hK.out _ _ ⟨t44, .slice (some ⟨g, 0, none⟩) 4096 c, t46, t47, t48, t49, t50, t51, t9, G, B, C, g5, c5, (by simp only [Act.put, List.setIfInBounds_toArray, List.set_cons_zero, List.set_cons_succ]), HBl, Lib.hid (fun _ => rfl), E3, E0, E2, E4, E5, E6, E7, E8, EC⟩
        · intro d _ w' h0 hd hJ K hK
          obtain ⟨t44, t45, t46, t47, t48, t49, t50, t51, t9, G, B, C, g5, c5, hx, HBl, E1, E3, E0, E2, E4, E5, E6, E7, E8, EC⟩ := hJ
          simp only [Act.put, List.setIfInBounds_toArray, List.set_cons_zero, List.set_cons_succ] at hx
          refine step_at hx ?_
          clear hx
          have d0 : d 0 = true := hd { on := 0, ground := Ground.data } (by simp) rfl
          have d1 : d 1 = true := hd { on := 1, ground := Ground.data } (by simp) rfl
          obtain ⟨rfl, hG, hk⟩ := E0.out d0 h0
          obtain rfl := E1.out d1
          have HK := Lib.hid hk
          have h7 : d 7 = false := by cases hh : d 7 with | false => rfl | true => exact absurd (EC.out.2.1 hh).1 (by rw [h0]; decide)
          clear hd
          refine step_append_more rfl (.tmp 44) (.tmp 45) 22 rfl w4.heap.size 9 i0 _ 16 Try.underlying22 Hi0.out Hz0.out Hz1.out Hz2.out rfl (.slice (some ⟨G, 0, none⟩) 0 0) 0 [] (by simp [Act.eval]) (own_mtb HK.out hG) (some ⟨g, 0, none⟩) 4096 c (by simp [Act.eval]) (F.map Value.string) HMap.out (fun h => by cases h) (rd_all (HRd4.out.below HBl.out)) (one_strs F) (by omega) (by omega) HBl.out.size ?_
          intro v1 w5 hown1 hg1
          rw [Nat.zero_add, List.nil_append] at hown1
          have kp : ∀ (Y : Nat) (q : Obj), Y ≠ G → w'.heap[Y]? = some q → w5.heap[Y]? = some q := fun Y q hn h => (hg1.block Y (Array.getElem?_eq_some_iff.1 h).1 (fun e => hn (by simpa [Value.ownBlock] using e))).trans h
          obtain ⟨g6, c6, rfl, hb6, hl6, hc6, _⟩ := own_pos hown1 (by omega)
          refine hK.out _ _ ⟨.slice (some ⟨G, 0, none⟩) 0 0, .slice (some ⟨g, 0, none⟩) 4096 c, .slice (some ⟨g6, 0, none⟩) 4096 c6, t47, t48, t49, t50, t51, t9, G, B, C, g6, c6, (by simp only [Act.put, List.setIfInBounds_toArray, List.set_cons_zero, List.set_cons_succ]), Lib.hid (below_grownBy HBl.out (own_mtb HK.out hG) hg1 (Nat.le_refl _) (Nat.le_refl _)), E1, E3, Lib.hid (fun _ h => nomatch h), Lib.hid (fun _ _ => ⟨rfl, hown1⟩), Lib.hid (fun h k => ⟨(E4.out h k).1, kp _ _ (fun e => (by have := (E4.out h k).2; rw [e, HK.out] at this; cases this)) (E4.out h k).2⟩), E5, Lib.hid (fun h k => ⟨(E6.out h k).1, kp _ _ (fun e => (by have := (E6.out h k).2; rw [e, HK.out] at this; cases this)) (E6.out h k).2⟩), Lib.hid (fun h => absurd (show d 7 = true from h) (by rw [h7]; decide)), E8, Lib.hid ⟨EC.out.1, fun h => ⟨rfl, (EC.out.2.1 h).2⟩, EC.out.2.2⟩⟩
        · intro d _ w' h0 hd hJ K hK
          obtain ⟨t44, t45, t46, t47, t48, t49, t50, t51, t9, G, B, C, g5, c5, hx, HBl, E1, E3, E0, E2, E4, E5, E6, E7, E8, EC⟩ := hJ
          simp only [Act.put, List.setIfInBounds_toArray, List.set_cons_zero, List.set_cons_succ] at hx
          refine step_at hx ?_
          clear hx
          clear hd
          go_simp
          refine hK.out _ _ ⟨t44, t45, t46, .int .u8 (x : Int), t48, t49, t50, t51, t9, G, B, C, g5, c5, (by simp only [Act.put, List.setIfInBounds_toArray, List.set_cons_zero, List.set_cons_succ]), HBl, E1, Lib.hid (fun _ => rfl), E0, E2, E4, E5, E6, E7, E8, EC⟩
        · intro d _ w' h0 hd hJ K hK
          obtain ⟨t44, t45, t46, t47, t48, t49, t50, t51, t9, G, B, C, g5, c5, hx, HBl, E1, E3, E0, E2, E4, E5, E6, E7, E8, EC⟩ := hJ
          simp only [Act.put, List.setIfInBounds_toArray, List.set_cons_zero, List.set_cons_succ] at hx
          refine step_at hx ?_
          clear hx
          have hA : Below w'.heap.size w' (w'.alloc (.cells #[.int .u8 64, .int .u8 (x : Int)] 5)) := (Below.refl _ _).alloc (Nat.le_refl _) _
          have hnw : (w'.alloc (.cells #[.int .u8 64, .int .u8 (x : Int)] 5)).heap[w'.heap.size]? = some (.cells #[.int .u8 64, .int .u8 (x : Int)] 5 (0, 0)) := Deep.blk_alloc_new w' _
          have kp : ∀ (Y : Nat) (q : Obj), w'.heap[Y]? = some q → (w'.alloc (.cells #[.int .u8 64, .int .u8 (x : Int)] 5)).heap[Y]? = some q := fun Y q h => (hA.block Y (Array.getElem?_eq_some_iff.1 h).1).trans h
          have HA := Lib.hid hA
          have HN := Lib.hid hnw
          have HK := Lib.hid kp
          have Hh0 := Lib.hid h0
          have d3 : d 3 = true := hd { on := 3, ground := Ground.data } (by simp) rfl
          obtain rfl := E3.out d3
          clear hA hnw kp hd h0
          go_simp
          refine hK.out _ _ ⟨t44, t45, t46, .int .u8 (x : Int), .slice (some ⟨w'.heap.size, 0, none⟩) 2 2, t49, t50, t51, t9, G, w'.heap.size, C, g5, c5, (by simp only [Act.put, List.setIfInBounds_toArray, List.set_cons_zero, List.set_cons_succ]), Lib.hid (below_to HBl.out HA.out), E1, Lib.hid (fun _ => rfl), Lib.hid (fun h k => ⟨(E0.out h k).1, (E0.out h k).2.1, HK.out _ _ (E0.out h k).2.2⟩), Lib.hid (fun h k => ⟨(E2.out h k).1, (E2.out h k).2.alloc _⟩), Lib.hid (fun _ _ => ⟨rfl, HN.out⟩), E5, Lib.hid (fun h k => ⟨(E6.out h k).1, HK.out _ _ (E6.out h k).2⟩), Lib.hid (fun h => ⟨(E7.out h).1, (E7.out h).2.1, (E7.out h).2.2.alloc _⟩), E8, EC⟩
        · intro d _ w' h0 hd hJ K hK
          obtain ⟨t44, t45, t46, t47, t48, t49, t50, t51, t9, G, B, C, g5, c5, hx, HBl, E1, E3, E0, E2, E4, E5, E6, E7, E8, EC⟩ := hJ
          simp only [Act.put, List.setIfInBounds_toArray, List.set_cons_zero, List.set_cons_succ] at hx
          refine step_at hx ?_
          clear hx
          have d4 : d 4 = true := hd { on := 4, ground := Ground.data } (by simp) rfl
          have h7 : d 7 = false := by cases hh : d 7 with | false => rfl | true => exact absurd (EC.out.2.1 hh).2 (by rw [h0]; decide)
          obtain ⟨rfl, hk⟩ := E4.out d4 h7
          have k4 := conv_two 64 x (by omega) hx hk
          rw [← HFX.out] at k4
          have HH0 := Lib.hid h0
          clear hd h0 h7 hk
          go_simp
          refine hK.out _ _ ⟨t44, t45, t46, t47, .slice (some ⟨B, 0, none⟩) 2 2, .string X, t50, t51, t9, G, B, C, g5, c5, (by simp only [Act.put, List.setIfInBounds_toArray, List.set_cons_zero, List.set_cons_succ]), HBl, E1, E3, E0, E2, Lib.hid (fun h k => E4.out h k), Lib.hid (fun _ => rfl), E6, E7, E8, Lib.hid ⟨fun _ => rfl, fun h => ⟨(EC.out.2.1 h).1, rfl⟩, EC.out.2.2⟩⟩
        · intro d _ w' h0 hd hJ K hK
          obtain ⟨t44, t45, t46, t47, t48, t49, t50, t51, t9, G, B, C, g5, c5, hx, HBl, E1, E3, E0, E2, E4, E5, E6, E7, E8, EC⟩ := hJ
          simp only [Act.put, List.setIfInBounds_toArray, List.set_cons_zero, List.set_cons_succ] at hx
          refine step_at hx ?_
          clear hx
          have hA : Below w'.heap.size w' (w'.alloc (.cells #[.string X] 9)) := (Below.refl _ _).alloc (Nat.le_refl _) _
          have hnw : (w'.alloc (.cells #[.string X] 9)).heap[w'.heap.size]? = some (.cells #[.string X] 9 (0, 0)) := Deep.blk_alloc_new w' _
          have kp : ∀ (Y : Nat) (q : Obj), w'.heap[Y]? = some q → (w'.alloc (.cells #[.string X] 9)).heap[Y]? = some q := fun Y q h => (hA.block Y (Array.getElem?_eq_some_iff.1 h).1).trans h
          have HA := Lib.hid hA
          have HN := Lib.hid hnw
          have HK := Lib.hid kp
          have Hh0 := Lib.hid h0
          have d5 : d 5 = true := hd { on := 5, ground := Ground.data } (by simp) rfl
          obtain rfl := E5.out d5
          clear hA hnw kp hd h0
          go_simp
          refine hK.out _ _ ⟨t44, t45, t46, t47, t48, .string X, .slice (some ⟨w'.heap.size, 0, none⟩) 1 1, t51, t9, G, B, w'.heap.size, g5, c5, (by simp only [Act.put, List.setIfInBounds_toArray, List.set_cons_zero, List.set_cons_succ]), Lib.hid (below_to HBl.out HA.out), E1, E3, Lib.hid (fun h k => ⟨(E0.out h k).1, (E0.out h k).2.1, HK.out _ _ (E0.out h k).2.2⟩), Lib.hid (fun h k => ⟨(E2.out h k).1, (E2.out h k).2.alloc _⟩), Lib.hid (fun h k => ⟨(E4.out h k).1, HK.out _ _ (E4.out h k).2⟩), Lib.hid (fun _ => rfl), Lib.hid (fun _ _ => ⟨rfl, HN.out⟩), Lib.hid (fun h => ⟨(E7.out h).1, (E7.out h).2.1, (E7.out h).2.2.alloc _⟩), E8, Lib.hid ⟨fun _ => d5, EC.out.2.1, EC.out.2.2⟩⟩
        · intro d _ w' h0 hd hJ K hK
          obtain ⟨t44, t45, t46, t47, t48, t49, t50, t51, t9, G, B, C, g5, c5, hx, HBl, E1, E3, E0, E2, E4, E5, E6, E7, E8, EC⟩ := hJ
          simp only [Act.put, List.setIfInBounds_toArray, List.set_cons_zero, List.set_cons_succ] at hx
          refine step_at hx ?_
          clear hx
          have d2 : d 2 = true := hd { on := 2, ground := Ground.data } (by simp) rfl
          have d6 : d 6 = true := hd { on := 6, ground := Ground.data } (by simp) rfl
          obtain ⟨rfl, hown⟩ := E2.out d2 h0
          obtain ⟨rfl, hk⟩ := E6.out d6 h0
          have HO := Lib.hid hown
          have HK := Lib.hid hk
          clear hd hown hk
          refine step_append_more rfl (.tmp 46) (.tmp 50) 22 rfl w4.heap.size 9 i0 _ 16 Try.underlying22 Hi0.out Hz0.out Hz1.out Hz2.out rfl (.slice (some ⟨g5, 0, none⟩) 4096 c5) 4096 (F.map Value.string) (by simp [Act.eval]) HO.out (some ⟨C, 0, none⟩) 1 1 (by simp [Act.eval]) [.string X] rfl (fun h => by cases h) (cell1 HK.out) (by simp [Value.oneCell']) (by omega) (by omega) HBl.out.size ?_
          intro v1 w5 hown1 hg1
          rw [show F.map Value.string ++ [Value.string X] = (F ++ [X]).map Value.string by rw [List.map_append]; rfl] at hown1
          obtain ⟨g6, c6, rfl, hb6, hl6, hc6, _⟩ := own_pos hown1 (by omega)
          refine hK.out _ _ ⟨t44, t45, .slice (some ⟨g5, 0, none⟩) 4096 c5, t47, t48, t49, .slice (some ⟨C, 0, none⟩) 1 1, .slice (some ⟨g6, 0, none⟩) 4097 c6, t9, G, B, C, g6, c6, (by simp only [Act.put, List.setIfInBounds_toArray, List.set_cons_zero, List.set_cons_succ]), Lib.hid (below_grownBy HBl.out HO.out hg1 (Nat.le_refl _) (Nat.le_refl _)), E1, E3, Lib.hid (fun _ h => absurd (show d 2 = false from h) (by rw [d2]; decide)), Lib.hid (fun _ h => nomatch h), Lib.hid (fun _ h => nomatch h), E5, Lib.hid (fun _ h => nomatch h), Lib.hid (fun _ => ⟨rfl, hc6, hown1⟩), Lib.hid (fun h => absurd (EC.out.2.2 h) (by rw [h0]; decide)), Lib.hid ⟨EC.out.1, fun _ => ⟨d2, EC.out.1 d6⟩, fun _ => rfl⟩⟩
        · intro d _ w' h0 hd hJ K hK
          obtain ⟨t44, t45, t46, t47, t48, t49, t50, t51, t9, G, B, C, g5, c5, hx, HBl, E1, E3, E0, E2, E4, E5, E6, E7, E8, EC⟩ := hJ
          simp only [Act.put, List.setIfInBounds_toArray, List.set_cons_zero, List.set_cons_succ] at hx
          refine step_at hx ?_
          clear hx
          have d7 : d 7 = true := hd { on := 7, ground := Ground.data } (by simp) rfl
          have HH := Lib.hid d7
          clear hd
          go_simp
          refine hK.out _ _ ⟨t44, t45, t46, t47, t48, t49, t50, t51, t51, G, B, C, g5, c5, (by simp only [Act.put, List.setIfInBounds_toArray, List.set_cons_zero, List.set_cons_succ]), HBl, E1, E3, E0, E2, E4, E5, E6, E7, Lib.hid (fun _ => rfl), Lib.hid ⟨EC.out.1, EC.out.2.1, fun _ => d7⟩⟩
      · intro d a2 w' hall hJ
        obtain ⟨t44, t45, t46, t47, t48, t49, t50, t51, t9, G, B, C, g5, c5, hx, HBl, E1, E3, E0, E2, E4, E5, E6, E7, E8, EC⟩ := hJ
        obtain ⟨rfl, hc5, hown5⟩ := E7.out (hall 7 (by decide))
        obtain rfl := E8.out (hall 8 (by decide))
        simp only [Act.put, List.setIfInBounds_toArray, List.set_cons_zero, List.set_cons_succ] at hx
        subst hx
        have HB5 := Lib.hid (HB04.out.trans (HBl.out.mono HB04.out.size))
        have HRd5 := Lib.hid (HRd4.out.below HBl.out)
        have HR5 := Lib.hid (HR4.out.below HBl.out)
        have HRm := Lib.hid (Rd.own hown5)
        clear hown5 hall
        have hc6 : ¬ c5 = 4096 := by omega
        have hc7 : (4096 : Int) ≤ (c5 : Int) := by omega
        have hc8 : 4096 ≤ c5 := by omega
        go_wp2_with fail
        refine (CB2.out _ _ _ HRm.out).mono ?_
        rintro e w6 ⟨⟨A6, c6, rfl⟩, hb⟩
        have HB6 := Lib.hid (below_to HB5.out hb)
        have HRd6 := Lib.hid (HRd5.out.below hb)
        have HR6 := Lib.hid (HR5.out.below hb)
        have HRm6 := Lib.hid (HRm.out.below hb)
        have HRl6 : Hid (Rd Value.string w6 (some ⟨g5, 4096, none⟩) [X]) := Lib.hid (by have := rd_last HRm6.out; rw [HLen.out] at this; exact this)
        clear hb
        go_wp2_with fail
        refine (CMg.out (some ⟨g, 0, none⟩) (some ⟨g5, 4096, none⟩) c (c5 - 4096) (.inr ⟨_, _, rfl⟩) (.inr ⟨_, _, rfl⟩) hc1 (by omega) _ HRd6.out HRl6.out).mono ?_
        rintro e w7 ⟨⟨A7, c7, A8, c8, A9, c9, rfl⟩, hb⟩
        have HB7 := Lib.hid (below_to HB6.out hb)
        have HRd7 := Lib.hid (HRd6.out.below hb)
        have HR7 := Lib.hid (HR6.out.below hb)
        have HRm7 := Lib.hid (HRm6.out.below hb)
        clear hb
        go_wp2_with fail
        refine (CSm.out A4 (some ⟨g, 0, none⟩) c4 c _ HR7.out HRd7.out).mono ?_
        rintro e w8 ⟨rfl, hb⟩
        have HB8 := Lib.hid (below_to HB7.out hb)
        have HRm8 := Lib.hid (HRm7.out.below hb)
        clear hb
        go_wp2_with fail
        refine (CCh.out _ _ _ HRm8.out).mono ?_
        rintro e w9 ⟨rfl, hb⟩
        have HB9 := Lib.hid (below_to HB8.out hb)
        clear hb
        go_wp2_with fail
        go_ret
        exact ⟨by first | rfl | simp, HB9.out⟩

set_option maxRecDepth 100000 in
theorem lifted (os : Os) (started : os.Started) (H : Type) (enc : TypeId × Value → H) :
    ReturnsInHanded {} Try.checked os 4 .any (Rows.dictionaryFullSpec.pre6 enc Try.prog Try.f4 Rows.dictionaryFullRow.domain false) (Rows.dictionaryFullSpec.post enc Try.prog Try.f4 false true false false) := by
  refine returnsInHanded_of_change (C := Try.checked) own started (by kernel_rfl) Try.func4
    (ChangeSpec.witness6 (enc := enc) (C := Try.checked) false ⟨#[], #[.int .u8 0, .int .u8 0], []⟩ 8 (by kernel_rfl) (by kernel_rfl) (by kernel_rfl) (by kernel_rfl)) ?_
  intro W base args ds gs before hval0 hW _ _
  have hval : ∀ (j : Nat) t v, Try.f4.params[j]? = some t → args[j]? = some v → Value.okWide Try.prog W .any base t v := hval0
  have hW' := hW
  obtain ⟨p, q, hA0, hV, rfl, _, _⟩ := hW
  have hA : DataW.TrodAll enc Try.prog W 0 (fun _ => true) true Try.f4.params.toList args.toList ds p := hA0
  rw [Try.params4] at hA hval
  obtain ⟨v0, vs0, d0, ds0, p0, q0, hargs0, rfl, rfl, h0, r0⟩ := trodAll_cons hA
  obtain ⟨v1, vs1, d1, ds1, p1, q1, hargs1, rfl, rfl, h1, r1⟩ := trodAll_cons r0
  obtain ⟨rfl, rfl, rfl⟩ := trodAll_nil r1
  obtain rfl : args = #[v0, v1] := by cases args; simp_all
  obtain ⟨rfl, rfl⟩ := trodVars_none hV
  obtain ⟨a0, rfl, rfl, rfl, wa0⟩ := open_int Try.underlying5 (hval 0 5 v0 rfl rfl) h0
  obtain ⟨a1, rfl, rfl, rfl, wa1⟩ := open_int Try.underlying5 (hval 1 5 v1 rfl rfl) h1
  clear hA0 hval0
  simp only [List.append_nil] at hW'
  refine (walk W a0 wa0 a1 wa1).mono fun e W' ⟨he, hb⟩ => ?_
  subst he
  exact ⟨_, rfl, post_mem hW' hb (fun _ _ _ => trodAll_mk1 (shut_bool Try.underlying4 _)) (fun _ _ => by
    exact trodAll_cons_mk (shut_int Try.underlying5 wa0) (trodAll_cons_mk (shut_int Try.underlying5 wa1) trodAll_mk0)) (fun _ => rfl) (ok_one (by kernel_rfl) rfl (okWide_bool_mk Try.underlying4 _))⟩

theorem proved : Rows.DictionaryFullSaid :=
  OpenClaim.holds_of_wide 4 Try.f4 rfl rfl rfl rfl rfl rfl rfl ⟨rfl, rfl, rfl, rfl, rfl⟩ rfl rfl rfl rfl rfl (by kernel_rfl) Try.func4 (by kernel_rfl)
    (of_decide_eq_true (by kernel_rfl)) (by unfold Func.isWrapper; first | (rw [if_pos (by decide +kernel)]; kernel_rfl) | (rw [if_neg (by decide +kernel)]; exact ⟨rfl, rfl⟩))
    (fun os started H enc _ => lifted os started H enc)

end Go.Proofs.Ytoohphhfigiicaa.lawFull
