/- The law's count. -/
import Derived.Test.YtolgcphmmghlbaaHl
namespace Go.Proofs.Ytolgcphmmghlbaa
open Go.ChangeShapes Go.WideShapes Go.ChangeAt Go.RowKit Go.Joins

theorem info_pair2 : (Try.prog.info? 62).map (fun i => (i.zero, i.size, i.bytes)) = some (some (.agg #[.int .i64 0, .int .i64 0]), 2, 16) := by kernel_rfl
theorem cvN_step (L : List Int) (j n : Nat) (hj : j < L.length) (v : Nat) (hv : L[j] = (v : Int)) (hi : ix v < 305) : (cvN L (j + 1)).getD n 0 = if ix v = n then (cvN L j).getD n 0 + 1 else (cvN L j).getD n 0 := by
  show (List.set _ _ _).getD n 0 = _
  have e : (L.getD j 0).toNat = v := by simp [List.getD, List.getElem?_eq_getElem hj, hv]
  rw [getD_set_int, e]
  by_cases h : ix v = n
  · rw [if_pos ⟨h, by rw [cvN_len]; exact hi⟩, if_pos h, h]
  · rw [if_neg (fun x => h x.1), if_neg h]
set_option maxRecDepth 100000 in
set_option maxHeartbeats 4000000 in
theorem count_any (A : Option Addr) (c : Nat) (L : List Int) (hl : L.length ≤ 1000) (hV : ∀ x ∈ L, Vl x) (w : World) (hR : Rd (Value.int .i64) w A L) :
    Calls Try.prog 23 #[.slice A L.length c] w fun e w' => (∃ v, e = .returned v ∧ w'.ownsRow w.heap.size 62 2 v (bkN (cvN L L.length) 305).length (ivCells (bkN (cvN L L.length) 305))) ∧ Below w.heap.size w w' := by
  obtain ⟨i0, hi0, hz0, hz1, hz2⟩ := info_parts2 info_pair2
  have Hi0 := Lib.hid hi0
  have Hz0 := Lib.hid hz0
  have Hz1 := Lib.hid hz1
  have Hz2 := Lib.hid hz2
  have HR := Lib.hid hR
  have HV := Lib.hid hV
  have HBd := Lib.hid (cvN_bd L)
  have HSt := Lib.hid (cvN_step L)
  have HS : Hid (∀ n, bkN (cvN L L.length) (n + 1) = if (cvN L L.length).getD n 0 = 0 then bkN (cvN L L.length) n else bkN (cvN L L.length) n ++ [((n : Int), (cvN L L.length).getD n 0)]) := Lib.hid (fun _ => rfl)
  have HL := Lib.hid (bkN_len (cvN L L.length))
  have HZ : Hid (∀ n, (cvN L 0).getD n 0 = 0) := Lib.hid (fun n => rep_get 305 n)
  clear hi0 hz0 hz1 hz2 hR hV
  go_enter Try.func23, Try.ntmps23
  go_wp2_with fail
  go_loopw [3, 4, 5, 6] (fun u nv _ _ wr => ∃ n : Nat, n ≤ 305 ∧ nv = .int .i64 (n : Int) ∧ Hid (wr.ownsRow w.heap.size 62 2 u (bkN (cvN L L.length) n).length (ivCells (bkN (cvN L L.length) n))) ∧ Hid (Below w.heap.size w wr)) (fun _ nv _ _ _ => 305 - (intOf nv).toNat)
  case atStart => exact ⟨0, Nat.zero_le _, rfl, Lib.hid ⟨by simp [bkN, ivCells], Or.inl ⟨rfl, rfl⟩⟩, Lib.hid (Below.refl _ _)⟩
  case round =>
    obtain ⟨n, hn, rfl, HO, HB⟩ := hrel
    have hsz := HB.out.size
    have hn0 : (0 : Int) ≤ (n : Int) := by omega
    by_cases hlt : n < 305
    · have hnI : (n : Int) < 305 := by omega
      have hw1 : IntKind.i64.wrap ((n : Int) + 1) = (n : Int) + 1 := by simp only [IntKind.wrap_i64]; omega
      have hk := HL.out n
      obtain ⟨K, hK⟩ : ∃ K, K = bkN (cvN L L.length) n := ⟨_, rfl⟩
      have HS1 := Lib.hid (HS.out n)
      rw [← hK] at HO HS1 hk
      clear hK
      go_wp2_with fail
      go_loopw [5, 6] (fun kv iv wi => ∃ i : Nat, i ≤ L.length ∧ iv = .int .i64 (i : Int) ∧ kv = .int .i64 ((cvN L i).getD n 0) ∧ wi = wr) (fun _ iv _ => L.length - (intOf iv).toNat)
      case atStart => exact ⟨0, Nat.zero_le _, rfl, by rw [HZ.out], rfl⟩
      case round =>
        obtain ⟨i, hi, rfl, rfl, rfl⟩ := hrel
        have hbd := HBd.out i n
        have hi0' : (0 : Int) ≤ (i : Int) := by omega
        by_cases hil : i < L.length
        · obtain ⟨b, off, rfl, hb, h0⟩ := int_at (HR.out.below HB.out) i hil
          have hv := HV.out _ (List.getElem_mem hil)
          obtain ⟨v, hve⟩ : ∃ v : Nat, L[i] = (v : Int) := ⟨L[i].toNat, by have := hv.1; omega⟩
          have hv40 : v ≤ 1099511627776 := by have := hv.2; omega
          have HSi := Lib.hid (HSt.out i n hil v hve (ix_lt v hv40))
          have HX := Lib.hid (fun W => lindex_any v hv40 W)
          rw [hve] at h0
          have hv0 : (0 : Int) ≤ (v : Int) := by omega
          obtain ⟨q, hq⟩ : ∃ q, q = ix v := ⟨_, rfl⟩
          rw [← hq] at HSi HX
          obtain ⟨x, hx⟩ : ∃ x, x = (cvN L i).getD n 0 := ⟨_, rfl⟩
          rw [← hx] at hbd HSi ⊢
          have hx0 : 0 ≤ x := hbd.1
          have hx1 : x ≤ 1000 := by omega
          have hiI : (i : Int) < (L.length : Int) := by omega
          have hw2 : IntKind.i64.wrap ((i : Int) + 1) = (i : Int) + 1 := by simp only [IntKind.wrap_i64]; omega
          clear hv hve hq hx hbd
          by_cases hqn : q = n
          · rw [if_pos hqn] at HSi
            subst hqn
            go_wp2_with fail
            refine (HX.out _).mono ?_
            rintro e w' ⟨rfl, rfl⟩
            go_wp2_with fail
            go_roundw
            case rel => exact ⟨i + 1, by omega, by go_num, by rw [HSi.out], trivial⟩
            case measure => simp [intOf] <;> omega
          · rw [if_neg hqn] at HSi
            have hqi : ((q : Int) == (n : Int)) = false := by simp; omega
            have hqj : ¬ (q : Int) = (n : Int) := by omega
            go_wp2_with fail
            refine (HX.out _).mono ?_
            rintro e w' ⟨rfl, rfl⟩
            go_wp2_with fail
            go_roundw
            case rel => exact ⟨i + 1, by omega, by go_num, by rw [HSi.out], trivial⟩
            case measure => simp [intOf] <;> omega
        · obtain rfl : i = L.length := by omega
          obtain ⟨x, hx⟩ : ∃ x, x = (cvN L L.length).getD n 0 := ⟨_, rfl⟩
          rw [← hx] at hbd HS1 ⊢
          clear hx
          by_cases hx0 : x = 0
          · rw [if_pos hx0] at HS1
            subst hx0
            go_wp2_with fail
            go_roundw
            case rel => exact ⟨n + 1, by omega, by go_num, by rw [HS1.out]; exact HO, HB⟩
            case measure => simp [intOf] <;> omega
          · rw [if_neg hx0] at HS1
            have hx1 : 0 < x := by omega
            have HOa := Lib.hid (HO.out.alloc (.cells #[.int .i64 (n : Int), .int .i64 x] 62))
            have HBa := Lib.hid (HB.out.alloc hsz (.cells #[.int .i64 (n : Int), .int .i64 x] 62))
            go_wp2_with (at_builtin; refine wpList_append_agg rfl (.tmp 28) (.tmp 32) 41 rfl w.heap.size 62 i0 _ 2 16 Try.underlying41 Hi0.out Hz0.out Hz1.out Hz2.out rfl (by decide) _ K.length _ rfl HOa.out wr.heap.size 1 [.int .i64 (n : Int), .int .i64 x] 62 rfl (by simp [go_sem]) (Deep.blk_alloc_new wr _) (by simp [Value.oneCell']) (by omega) (by omega) (by simp <;> omega) ?_; intro v2 w2 hown2 hg2; have HB2 := Lib.hid (below_grownk (B := w.heap.size) (a := w) HBa.out HOa.out hg2 (Nat.le_refl _) (Nat.le_refl _)); have HO2 := Lib.hid hown2; clear hown2 hg2)
            go_roundw
            case rel =>
              refine ⟨n + 1, by omega, by go_num, ?_, HB2⟩
              rw [HS1.out, List.length_append, iv_snoc]
              exact HO2
            case measure => simp [intOf] <;> omega
    · obtain rfl : n = 305 := by omega
      go_wp2_with fail
      go_ret
      exact ⟨⟨_, rfl, HO.out⟩, HB.out⟩
end Go.Proofs.Ytolgcphmmghlbaa
