/- The reference's magnitude and Number. -/
import Derived.Test.YtepcihfkkeahhaaEd
namespace Go.Proofs.Ytepcihfkkeahhaa
open Go.ChangeShapes Go.WideShapes Go.ChangeAt Go.RowKit En

theorem magnitude_any (n : Int) (h : In64 n) (w : World) :
    Calls Try.prog 53 #[.int .i64 n] w fun e w' => e = .returned (.int .u64 (n.natAbs : Int)) ∧ w' = w := by
  obtain ⟨h1, h2⟩ := h
  by_cases hn : n < 0
  · have e1 : IntKind.i64.wrap (n + 1) = n + 1 := by simp only [IntKind.wrap_i64]; omega
    have e2 : IntKind.i64.wrap ((0 : Int) - (n + 1)) = -(n + 1) := by simp only [IntKind.wrap_i64]; omega
    have e3 : IntKind.u64.wrap (-(n + 1)) = -(n + 1) := by simp only [IntKind.wrap_u64]; omega
    have e4 : IntKind.u64.wrap (-(n + 1) + 1) = (n.natAbs : Int) := by simp only [IntKind.wrap_u64]; omega
    have e5 : IntKind.u64.wrap (IntKind.u64.wrap ((0 : Int) - (n + 1)) + 1) = (n.natAbs : Int) := by simp only [IntKind.wrap_u64]; omega
    go_enter Try.func53, Try.ntmps53
    go_wp2_with fail
    go_ret
    exact ⟨by first | rfl | (simp [*]; done) | (congr 2; simp only [IntKind.wrap_u64, IntKind.wrap_i64]; omega), rfl⟩
  · have e1 : IntKind.u64.wrap n = (n.natAbs : Int) := by simp only [IntKind.wrap_u64]; omega
    go_enter Try.func53, Try.ntmps53
    go_wp2_with fail
    go_ret
    exact ⟨rfl, rfl⟩

theorem low_sz (m j : Nat) (h : m < 18446744073709551616) (hj : j < sz m) : m / 2 ^ (8 * j) ≠ 0 := by
  obtain ⟨_, h2, _⟩ := Lib.bitLenAux_bounds 64 m h (by
    intro h0; rw [h0] at hj; exact absurd hj (by have : sz 0 = 0 := by decide
                                                 omega))
  have h2' : 2 ^ (Lib.bitLen m - 1) ≤ m := h2
  have h3 : 2 ^ (8 * j) ≤ m := Nat.le_trans (Nat.pow_le_pow_right (by omega) (by unfold sz at hj; omega)) h2'
  have h4 : 1 ≤ m / 2 ^ (8 * j) := (Nat.one_le_div_iff (Nat.pow_pos (by omega))).2 h3
  omega
theorem own_shape {w : World} {base e n : Nat} {v : Value} {xs : List Value} (h : w.ownsRow base e 1 v n xs) : ∃ p c, v = .slice p n c := by
  rcases h.2 with ⟨rfl, rfl⟩ | ⟨g, cap, cur, rfl, _⟩
  · exact ⟨none, 0, rfl⟩
  · exact ⟨_, _, rfl⟩
theorem cell_new (w : World) (b : UInt8) : (w.alloc (.cells #[u8v b] 5)).cell? ⟨w.heap.size, 0, none⟩ = some (u8v b) := by
  rw [cell_of_row _ w.heap.size 0 _ _ _ (Deep.blk_alloc_new w (.cells #[u8v b] 5))]; rfl
theorem own_lit {w : World} (b : UInt8) : (w.alloc (.cells #[u8v b] 5)).ownsRow w.heap.size 5 1 (.slice (some ⟨w.heap.size, 0, none⟩) 1 1) 1 ([b].map u8v) :=
  ⟨rfl, .inr ⟨w.heap.size, 1, #[u8v b], rfl, Nat.le_refl _, Deep.blk_alloc_new w _, Nat.le_refl _, by unfold maxLen; omega, rfl, rfl⟩⟩
/-- The j lowest bytes, the lowest one first. -/
def lows (m j : Nat) : List UInt8 := (List.range j).map fun i => UInt8.ofNat (m / 2 ^ (8 * i) % 256)
theorem lows_snoc (m j : Nat) : lows m (j + 1) = lows m j ++ [UInt8.ofNat (m / 2 ^ (8 * j) % 256)] := by unfold lows; rw [List.range_succ, List.map_append]; rfl
theorem lows_get (m k j : Nat) (h : j < k) : ((lows m k).map u8v)[j]? = some (u8v (UInt8.ofNat (m / 2 ^ (8 * j) % 256))) := by
  simp [lows, h]
theorem lows_len (m j : Nat) : (lows m j).length = j := by simp [lows]
theorem div_next (m j : Nat) : m / 2 ^ (8 * j) / 256 = m / 2 ^ (8 * (j + 1)) := by rw [Nat.div_div_eq_div_mul, show 8 * (j + 1) = 8 * j + 8 by omega, Nat.pow_add]
set_option maxRecDepth 100000 in
set_option maxHeartbeats 1000000 in
theorem ref_number (n : Int) (h : In64 n) (w : World) :
    Calls Try.prog 16 #[.int .i64 n] w fun e w' => e = .returned (.string ⟨(num n).toArray⟩) ∧ Below w.heap.size w w' := by
  obtain ⟨i0, hi0, hz0, hz1, hz2⟩ := info_parts u8_info
  have Hi0 := Lib.hid hi0
  have Hz0 := Lib.hid hz0
  have Hz1 := Lib.hid hz1
  have Hz2 := Lib.hid hz2
  have hm := magnitude_any n h
  have h8 := sz_le _ h.abs
  obtain ⟨m, hmd⟩ : ∃ m, m = n.natAbs := ⟨_, rfl⟩
  have hb := h.abs
  rw [← hmd] at hm h8 hb
  have Hb := Lib.hid hb
  have Hlt := Lib.hid (lt_sz m hb)
  have Hmd := Lib.hid hmd
  have Hnil : Hid (w.ownsRow w.heap.size 5 1 (.slice none 0 0) 0 (List.map u8v [])) := Lib.hid (by exact ⟨rfl, Or.inl ⟨rfl, rfl⟩⟩)
  clear hi0 hz0 hz1 hz2 hmd hb
  go_enter Try.func16, Try.ntmps16
  go_wp2_with fail
  refine (hm _).mono ?_
  rintro e w1 ⟨rfl, rfl⟩
  clear hm
  go_wp2_with fail
  go_loopw [3, 4] (fun v q wr => ∃ j : Nat, j ≤ sz m ∧ q = .int .u64 ((m / 2 ^ (8 * j) : Nat) : Int) ∧ Hid (wr.ownsRow w1.heap.size 5 1 v j ((lows m j).map u8v)) ∧ Hid (Bk w1.heap.size w1 wr)) (fun _ q _ => (intOf q).toNat)
  case atStart => exact ⟨0, Nat.zero_le _, by simp, Hnil, Lib.hid (Bk.refl _ _)⟩
  case round =>
    obtain ⟨j, hj, rfl, hown, hB⟩ := hrel
    obtain ⟨q, hq⟩ : ∃ q, q = m / 2 ^ (8 * j) := ⟨_, rfl⟩
    rw [← hq]
    have Hq := Lib.hid hq
    have hjs : q ≠ 0 → j < sz m := fun h0 => by
      rcases Nat.lt_or_ge j (sz m) with hh | hh
      · exact hh
      · exfalso; apply h0
        rw [hq, show j = sz m by omega]
        exact Nat.div_eq_of_lt Hlt.out
    have Hdn := Lib.hid (show q / 256 = m / 2 ^ (8 * (j + 1)) by rw [hq]; exact div_next m j)
    have hqb : q < 18446744073709551616 := by rw [hq]; exact Nat.lt_of_le_of_lt (Nat.div_le_self _ _) Hb.out
    clear hq
    by_cases h0 : q = 0
    · have hjk : j = sz m := by
        rcases Nat.lt_or_ge j (sz m) with hh | hh
        · exact absurd (by rw [← Hq.out]; exact h0) (low_sz m j Hb.out hh)
        · omega
      subst h0
      rw [show (((0 : Nat)) : Int) = (0 : Int) from rfl]
      clear hjs hqb Hdn
      by_cases hn : n < 0
      · have hf : ((first n).toNat : Int) = 128 - (j : Int) := by rw [first_neg n hn (by rw [← Hmd.out]; exact h8), ← Hmd.out, hjk]
        have Hf : Hid (Value.int .u8 (128 - (j : Int)) = u8v (first n)) := Lib.hid (by unfold u8v; rw [hf])
        have hj8 : (j : Int) ≤ 8 := by omega
        clear hf
        obtain ⟨p, c, rfl⟩ := own_shape hown.out
        have hbw := hB.out.1.size
        have hlit := own_lit (w := wr) (first n)
        rw [← Hf.out] at hlit
        have Hlit := Lib.hid hlit
        have hk : n.natAbs = m := Hmd.out.symm
        have Hall : Hid (digs n j = []) := Lib.hid (by rw [hjk, ← hk]; exact digs_all n)
        have Hdg : Hid (∀ t, t < j → digs n (t + 1) ++ [dig n t] = digs n t ∧ dig n t = UInt8.ofNat (m / 2 ^ (8 * t) % 256) ^^^ 255) := Lib.hid (fun t ht => ⟨digs_step n t (by rw [hk, ← hjk]; exact ht), by unfold dig mask; rw [if_pos hn, hk]⟩)
        have Hnum : Hid (first n :: digs n 0 = num n) := Lib.hid rfl
        have Hjk := Lib.hid hjk
        have Hjn : Hid ((num n).length = 1 + j) := Lib.hid (by rw [num_len, hk, hjk])
        clear hlit hk hjk
        obtain ⟨wA, hwA⟩ : ∃ x, x = wr := ⟨_, rfl⟩
        subst hwA
        go_wp2_with fail
        go_loopw [6, 7] (fun o i wr => ∃ t : Nat, t ≤ j ∧ i = .int .i64 ((t : Int) - 1) ∧ Hid (wr.ownsRow wA.heap.size 5 1 o (1 + (j - t)) ((first n :: digs n t).map u8v)) ∧ Hid (Bk wA.heap.size wA wr)) (fun _ i _ => (intOf i + 1).toNat)
        case atStart =>
          refine ⟨j, Nat.le_refl _, rfl, Lib.hid ?_, Lib.hid ((Bk.refl _ _).alloc (Nat.le_refl _) _)⟩
          rw [Hall.out, Nat.sub_self]
          exact Hlit.out
        case round =>
          obtain ⟨t, ht, rfl, hown2, hB2⟩ := hrel
          have hbw2 := hB2.out.1.size
          rcases Nat.eq_zero_or_pos t with t0 | t0
          · subst t0
            have hown2' := hown2.out
            rw [Nat.sub_zero] at hown2'
            obtain ⟨g2, c2, cur2, rfl, _, hblk2, hcur2, hcell2⟩ := own_form hown2' (by omega)
            have k4 : (convert 76 9 (.slice (some ⟨g2, 0, none⟩) (1 + j) c2)).run Try.prog wr = .ok (.string ⟨(num n).toArray⟩) wr := by
              rw [← Hjn.out]
              refine run_convert_bytes_back wr 76 9 5 ⟨g2, 0, none⟩ c2 (num n) Try.underlying76 Try.underlying5 Try.underlying9 (fun x hx => ?_)
              rw [add_flat, Nat.zero_add, cell_of_row wr g2 x _ _ _ hblk2, hcell2 x (by rw [Hjn.out] at hx; omega), Hnum.out]
              simp [u8v, hx]
            have HBf := Lib.hid (Below.trans hB.out.1 (hB2.out.1.mono hbw))
            clear hblk2 hcell2 hcur2 hown2' hown2
            go_wp2_with fail
            go_ret
            exact ⟨rfl, HBf.out⟩
          · obtain ⟨x, rfl⟩ : ∃ x, t = x + 1 := ⟨t - 1, by omega⟩
            obtain ⟨gl, cl, curl, hvl, _, hbl, hcl, hcell⟩ := own_form hown.out (show 0 < j by omega)
            obtain ⟨rfl, rfl⟩ : p = some ⟨gl, 0, none⟩ ∧ c = cl := by simpa using hvl
            have hgl : gl < wA.heap.size := (Array.getElem?_eq_some_iff.1 hbl).1
            have hdx := Hdg.out x (by omega)
            obtain ⟨B, hBq⟩ : ∃ B, B = UInt8.ofNat (m / 2 ^ (8 * x) % 256) := ⟨_, rfl⟩
            have cx : wr.cell? ⟨gl, x, none⟩ = some (.int .u8 (B.toNat : Int)) := by
              rw [cell_of_row wr gl x _ _ _ ((hB2.out.1.block gl hgl).trans hbl), hcell x (by omega), lows_get m j x (by omega), hBq]; rfl
            have hB8 : (B.toNat : Int) ≤ 255 := by have := B.toNat_lt; omega
            have Hu : Hid (Value.int .u8 (255 - (B.toNat : Int)) = u8v (dig n x)) := Lib.hid (by
              unfold u8v; rw [hdx.2, ← hBq, xor_255]; congr 1; have := B.toNat_lt; omega)
            clear hBq
            have Hdx := Lib.hid hdx.1
            have ex : (((x + 1 : Nat) : Int)) - 1 = (x : Int) := by omega
            rw [ex]
            clear hdx hcell hbl hvl
            go_wp2_with (at_builtin; refine wpList_append_one rfl (.tmp 47) (.tmp 49) 76 rfl wA.heap.size 5 i0 _ 1 Try.underlying76 Hi0.out Hz0.out Hz1.out Hz2.out rfl u6 (1 + (j - (x + 1))) _ rfl (hown2.out.alloc _) wr.heap.size 1 (.int .u8 (255 - (B.toNat : Int))) rfl (by simp [go_sem]) rfl (by omega) (by omega) (by simp; omega) ?_; intro v3 w3 hown3 hg3; have HB3 := Lib.hid (bk_own (a := wA) (hB2.out.alloc (by omega) (.cells #[.int .u8 (255 - (B.toNat : Int))] 5)) (hown2.out.alloc _) hg3 (Nat.le_refl _)); have HO3 := Lib.hid hown3; clear hown3 hg3)
            go_roundw
            case rel =>
              refine ⟨x, by omega, by go_num, Lib.hid ?_, HB3⟩
              have h := HO3.out
              rw [Hu.out, ← List.map_singleton (f := u8v), ← List.map_append, List.cons_append, Hdx.out] at h
              rw [show 1 + (j - x) = 1 + (j - (x + 1)) + 1 from by omega]
              exact h
            case measure => first | (simp [intOf]; done) | (simp [intOf]; omega)
      · have hf : ((first n).toNat : Int) = 128 + (j : Int) := by rw [first_pos n hn (by rw [← Hmd.out]; exact h8), ← Hmd.out, hjk]
        have Hf : Hid (Value.int .u8 (128 + (j : Int)) = u8v (first n)) := Lib.hid (by unfold u8v; rw [hf])
        have hj8 : (j : Int) ≤ 8 := by omega
        clear hf
        obtain ⟨p, c, rfl⟩ := own_shape hown.out
        have hbw := hB.out.1.size
        have hlit := own_lit (w := wr) (first n)
        rw [← Hf.out] at hlit
        have Hlit := Lib.hid hlit
        have hk : n.natAbs = m := Hmd.out.symm
        have Hall : Hid (digs n j = []) := Lib.hid (by rw [hjk, ← hk]; exact digs_all n)
        have Hdg : Hid (∀ t, t < j → digs n (t + 1) ++ [dig n t] = digs n t ∧ dig n t = UInt8.ofNat (m / 2 ^ (8 * t) % 256)) := Lib.hid (fun t ht => ⟨digs_step n t (by rw [hk, ← hjk]; exact ht), by unfold dig mask; rw [if_neg hn, UInt8.xor_zero, hk]⟩)
        have Hnum : Hid (first n :: digs n 0 = num n) := Lib.hid rfl
        have Hjk := Lib.hid hjk
        have Hjn : Hid ((num n).length = 1 + j) := Lib.hid (by rw [num_len, hk, hjk])
        clear hlit hk hjk
        obtain ⟨wA, hwA⟩ : ∃ x, x = wr := ⟨_, rfl⟩
        subst hwA
        go_wp2_with fail
        go_loopw [6, 7] (fun o i wr => ∃ t : Nat, t ≤ j ∧ i = .int .i64 ((t : Int) - 1) ∧ Hid (wr.ownsRow wA.heap.size 5 1 o (1 + (j - t)) ((first n :: digs n t).map u8v)) ∧ Hid (Bk wA.heap.size wA wr)) (fun _ i _ => (intOf i + 1).toNat)
        case atStart =>
          refine ⟨j, Nat.le_refl _, rfl, Lib.hid ?_, Lib.hid ((Bk.refl _ _).alloc (Nat.le_refl _) _)⟩
          rw [Hall.out, Nat.sub_self]
          exact Hlit.out
        case round =>
          obtain ⟨t, ht, rfl, hown2, hB2⟩ := hrel
          have hbw2 := hB2.out.1.size
          rcases Nat.eq_zero_or_pos t with t0 | t0
          · subst t0
            have hown2' := hown2.out
            rw [Nat.sub_zero] at hown2'
            obtain ⟨g2, c2, cur2, rfl, _, hblk2, hcur2, hcell2⟩ := own_form hown2' (by omega)
            have k4 : (convert 76 9 (.slice (some ⟨g2, 0, none⟩) (1 + j) c2)).run Try.prog wr = .ok (.string ⟨(num n).toArray⟩) wr := by
              rw [← Hjn.out]
              refine run_convert_bytes_back wr 76 9 5 ⟨g2, 0, none⟩ c2 (num n) Try.underlying76 Try.underlying5 Try.underlying9 (fun x hx => ?_)
              rw [add_flat, Nat.zero_add, cell_of_row wr g2 x _ _ _ hblk2, hcell2 x (by rw [Hjn.out] at hx; omega), Hnum.out]
              simp [u8v, hx]
            have HBf := Lib.hid (Below.trans hB.out.1 (hB2.out.1.mono hbw))
            clear hblk2 hcell2 hcur2 hown2' hown2
            go_wp2_with fail
            go_ret
            exact ⟨rfl, HBf.out⟩
          · obtain ⟨x, rfl⟩ : ∃ x, t = x + 1 := ⟨t - 1, by omega⟩
            obtain ⟨gl, cl, curl, hvl, _, hbl, hcl, hcell⟩ := own_form hown.out (show 0 < j by omega)
            obtain ⟨rfl, rfl⟩ : p = some ⟨gl, 0, none⟩ ∧ c = cl := by simpa using hvl
            have hgl : gl < wA.heap.size := (Array.getElem?_eq_some_iff.1 hbl).1
            have hdx := Hdg.out x (by omega)
            obtain ⟨B, hBq⟩ : ∃ B, B = dig n x := ⟨_, rfl⟩
            have cx : wr.cell? ⟨gl, x, none⟩ = some (.int .u8 (B.toNat : Int)) := by
              rw [cell_of_row wr gl x _ _ _ ((hB2.out.1.block gl hgl).trans hbl), hcell x (by omega), lows_get m j x (by omega), ← hdx.2, hBq]; rfl
            have Hu : Hid (Value.int .u8 (B.toNat : Int) = u8v (dig n x)) := Lib.hid (by rw [hBq]; rfl)
            clear hBq
            have Hdx := Lib.hid hdx.1
            have ex : (((x + 1 : Nat) : Int)) - 1 = (x : Int) := by omega
            rw [ex]
            clear hdx hcell hbl hvl
            go_wp2_with (at_builtin; refine wpList_append_one rfl (.tmp 47) (.tmp 49) 76 rfl wA.heap.size 5 i0 _ 1 Try.underlying76 Hi0.out Hz0.out Hz1.out Hz2.out rfl u6 (1 + (j - (x + 1))) _ rfl (hown2.out.alloc _) wr.heap.size 1 (.int .u8 (B.toNat : Int)) rfl (by simp [go_sem]) rfl (by omega) (by omega) (by simp; omega) ?_; intro v3 w3 hown3 hg3; have HB3 := Lib.hid (bk_own (a := wA) (hB2.out.alloc (by omega) (.cells #[.int .u8 (B.toNat : Int)] 5)) (hown2.out.alloc _) hg3 (Nat.le_refl _)); have HO3 := Lib.hid hown3; clear hown3 hg3)
            go_roundw
            case rel =>
              refine ⟨x, by omega, by go_num, Lib.hid ?_, HB3⟩
              have h := HO3.out
              rw [Hu.out, ← List.map_singleton (f := u8v), ← List.map_append, List.cons_append, Hdx.out] at h
              rw [show 1 + (j - x) = 1 + (j - (x + 1)) + 1 from by omega]
              exact h
            case measure => first | (simp [intOf]; done) | (simp [intOf]; omega)
    · have hbs := hB.out.1.size
      have hj2 := hjs h0
      clear hjs
      have hq0 : (0 : Int) < (q : Int) := by omega
      have Hu : Hid (Value.int .u8 ((q : Int) % 256) = u8v (UInt8.ofNat (q % 256))) := Lib.hid (by unfold u8v; rw [UInt8.toNat_ofNat']; congr 1; omega)
      go_wp2_with (at_builtin; refine wpList_append_one rfl (.tmp 15) (.tmp 19) 76 rfl w1.heap.size 5 i0 _ 1 Try.underlying76 Hi0.out Hz0.out Hz1.out Hz2.out rfl u3 j _ rfl (hown.out.alloc _) wr.heap.size 1 (.int .u8 ((q : Int) % 256)) rfl (by simp [go_sem]) rfl (by omega) (by omega) (by simp; omega) ?_; intro v3 w3 hown3 hg3; have HB3 := Lib.hid (bk_own (a := w1) (hB.out.alloc (by omega) (.cells #[.int .u8 ((q : Int) % 256)] 5)) (hown.out.alloc _) hg3 (Nat.le_refl _)); have HO3 := Lib.hid hown3; clear hown3 hg3)
      go_roundw
      case rel =>
        refine ⟨j + 1, by omega, ?_, Lib.hid ?_, HB3⟩
        · rw [← Hdn.out]; simp
        · have h := HO3.out
          rw [Hu.out, ← List.map_singleton (f := u8v), ← List.map_append] at h
          rw [lows_snoc, ← Hq.out]
          exact h
      case measure => simp [intOf]; omega
end Go.Proofs.Ytepcihfkkeahhaa
