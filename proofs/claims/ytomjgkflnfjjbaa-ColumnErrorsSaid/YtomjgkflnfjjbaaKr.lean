/- The reference's Number (written by wip/bin/gen_kr.py). -/
import Derived.Test.YtomjgkflnfjjbaaRow
import Derived.Test.YtomjgkflnfjjbaaKo
namespace Go.Proofs.Ytomjgkflnfjjbaa
open Go.ChangeShapes Go.WideShapes Go.ChangeAt Go.RowKit En

theorem low_sz (m j : Nat) (h : m < 18446744073709551616) (hj : j < sz m) : m / 2 ^ (8 * j) ≠ 0 := by
  obtain ⟨_, h2, _⟩ := Lib.bitLenAux_bounds 64 m h (by
    intro h0; rw [h0] at hj; exact absurd hj (by have : sz 0 = 0 := by decide
                                                 omega))
  have h2' : 2 ^ (Lib.bitLen m - 1) ≤ m := h2
  have h3 : 2 ^ (8 * j) ≤ m := Nat.le_trans (Nat.pow_le_pow_right (by omega) (by unfold sz at hj; omega)) h2'
  have h4 : 1 ≤ m / 2 ^ (8 * j) := (Nat.one_le_div_iff (Nat.pow_pos (by omega))).2 h3
  omega
theorem top_sz (m : Nat) (h : m < 18446744073709551616) : m < 2 ^ (8 * sz m) := by
  by_cases h0 : m = 0
  · subst h0; exact Nat.pow_pos (by omega)
  · obtain ⟨_, _, h3⟩ := Lib.bitLenAux_bounds 64 m h h0
    exact Nat.lt_of_lt_of_le h3 (Nat.pow_le_pow_right (by omega) (by unfold sz; show Lib.bitLen m ≤ _; omega))
theorem div_next (m j : Nat) : m / 2 ^ (8 * j) / 256 = m / 2 ^ (8 * (j + 1)) := by rw [Nat.div_div_eq_div_mul, show 8 * (j + 1) = 8 * j + 8 by omega, Nat.pow_add]
/-- The j lowest bytes, the highest one of them first. -/
def upb (m j : Nat) : List UInt8 := (List.range j).map fun i => UInt8.ofNat (m / 2 ^ (8 * (j - 1 - i)) % 256)
theorem upb_succ (m j : Nat) : upb m (j + 1) = UInt8.ofNat (m / 2 ^ (8 * j) % 256) :: upb m j := by
  unfold upb
  rw [List.range_succ_eq_map, List.map_cons, List.map_map]
  have e : j + 1 - 1 - 0 = j := by omega
  rw [e]
  congr 1
  refine List.map_congr_left fun i hi => ?_
  have := List.mem_range.1 hi
  show UInt8.ofNat (m / 2 ^ (8 * (j + 1 - 1 - (i + 1))) % 256) = _
  rw [show j + 1 - 1 - (i + 1) = j - 1 - i by omega]
theorem upb_len (m j : Nat) : (upb m j).length = j := by simp [upb]
/-- The first t bytes turned. -/
def flb (l : List UInt8) (t : Nat) : List UInt8 := (l.take t).map (fun b => 255 - b) ++ l.drop t
theorem flb_len (l : List UInt8) (t : Nat) : (flb l t).length = l.length := by simp [flb]; omega
theorem flb_get (l : List UInt8) (t : Nat) (h : t < l.length) : (flb l t)[t]? = some l[t] := by
  unfold flb
  rw [List.getElem?_append_right (by simp; omega)]
  simp [Nat.min_eq_left (Nat.le_of_lt h), h]
theorem flb_step (l : List UInt8) (t : Nat) (h : t < l.length) : (flb l t).set t (255 - l[t]) = flb l (t + 1) := by
  unfold flb
  rw [List.set_append_right _ _ (by simp; omega)]
  have e : ((l.take t).map (fun b => 255 - b)).length = t := by simp; omega
  rw [e, Nat.sub_self, List.take_succ_eq_append_getElem h, List.map_append, List.append_assoc, List.drop_eq_getElem_cons h]
  rfl
theorem flb_all (l : List UInt8) : flb l l.length = l.map (fun b => 255 - b) := by simp [flb]
theorem num_pos0 (n : Int) (h : 0 < n) : num n = first n :: upb n.natAbs (sz n.natAbs) := by
  show first n :: digs n 0 = _
  congr 1
  unfold digs upb dig mask
  rw [if_neg (by omega), Nat.sub_zero]
  exact List.map_congr_left fun i _ => UInt8.xor_zero
theorem xor255 (b : UInt8) : b ^^^ 255 = 255 - b := by
  have : ∀ b : Fin 256, UInt8.ofNat b.val ^^^ 255 = 255 - UInt8.ofNat b.val := by decide +kernel
  have h := this ⟨b.toNat, UInt8.toNat_lt b⟩
  simpa using h
theorem num_neg0 (n : Int) (h : n < 0) : num n = first n :: (upb n.natAbs (sz n.natAbs)).map (fun b => 255 - b) := by
  show first n :: digs n 0 = _
  congr 1
  unfold digs upb dig mask
  rw [if_pos h, Nat.sub_zero, List.map_map]
  exact List.map_congr_left fun i _ => xor255 _
theorem own_lit {w W : World} {base : Nat} (hb : base ≤ w.heap.size) (b : UInt8) (hW : W = w.alloc (.cells #[u8v b] 5)) : W.ownsRow base 5 1 (.slice (some ⟨w.heap.size, 0, none⟩) 1 1) 1 ([b].map u8v) := by
  subst hW
  exact ⟨rfl, .inr ⟨w.heap.size, 1, #[u8v b], rfl, hb, Deep.blk_alloc_new w _, Nat.le_refl _, by unfold maxLen; omega, rfl, rfl⟩⟩
theorem own_src {w : World} {base e n : Nat} {v : Value} {xs : List Value} (h : w.ownsRow base e 1 v n xs) : ∃ A c, v = .slice A n c ∧ (A = none → n = 0 ∧ c = 0) ∧ ∀ ad, A = some ad → ∀ j u, xs[j]? = some u → w.cell? (ad.add j) = some u := by
  rcases Nat.eq_zero_or_pos n with h0 | h0
  · subst h0
    have hl := h.1
    have hx : xs = [] := List.eq_nil_of_length_eq_zero (by simpa using hl)
    subst hx
    rcases h.2 with ⟨rfl, _⟩ | ⟨g, cap, cur, rfl, _⟩
    · exact ⟨none, 0, rfl, (fun _ => ⟨rfl, rfl⟩), (fun ad e => nomatch e)⟩
    · exact ⟨_, _, rfl, (fun e => nomatch e), (fun ad e j u hu => by simp at hu)⟩
  · obtain ⟨g, c, rfl, _, _, _, hc⟩ := own_pos h h0
    exact ⟨_, _, rfl, (fun e => nomatch e), (fun ad e j u hu => by injection e with e; subst e; exact hc j u hu)⟩
theorem own_store {w : World} {base e n g c : Nat} {xs : List Value} (h : w.ownsRow base e 1 (.slice (some ⟨g, 0, none⟩) n c) n xs) (i : Nat) (_hi : i < n) (u : Value) : (w.setCell ⟨g, i, none⟩ u).ownsRow base e 1 (.slice (some ⟨g, 0, none⟩) n c) n (xs.set i u) := by
  refine ⟨by rw [List.length_set]; exact h.1, ?_⟩
  rcases h.2 with ⟨h1, _⟩ | ⟨g', cap, cur, hv, hbase, hg, hn, hcap, hsz, htake⟩
  · cases h1
  · injection hv with h1 h2 h3
    injection h1 with h1
    injection h1 with h1
    subst h1
    refine .inr ⟨g, cap, cur.setIfInBounds i u, by rw [h3], hbase, blk_set u hg, hn, hcap, by simpa using hsz, ?_⟩
    rw [← htake, Array.toList_setIfInBounds, List.take_set]
theorem u8_ones (l : List UInt8) : ∀ u ∈ l.map u8v, u.oneCell' = true := fun u hu => by
  obtain ⟨x, _, rfl⟩ := List.mem_map.1 hu
  rfl
theorem alloc_src {w : World} {A : Option Addr} {xs : List Value} (h : ∀ ad, A = some ad → ∀ j u, xs[j]? = some u → w.cell? (ad.add j) = some u) (o : Obj) : ∀ ad, A = some ad → ∀ j u, xs[j]? = some u → (w.alloc o).cell? (ad.add j) = some u := fun ad e j u hu => by
  have h1 := h ad e j u hu
  have hlt : (ad.add j).block < w.heap.size := by
    unfold World.cell? at h1
    by_cases hb : (ad.add j).block < w.heap.size
    · exact hb
    · rw [Array.getElem?_eq_none (by omega)] at h1; cases h1
  rw [World.cell?_alloc_lt w o _ hlt]; exact h1
theorem rnum_zero (w : World) : Calls Try.prog 30 #[.int .i64 0] w fun e w' => e = .returned (.string ⟨(num 0).toArray⟩) ∧ Below w.heap.size w w' := by
  go_enter Try.func30, Try.ntmps30
  go_wp2_with fail
  go_ret
  exact ⟨by rfl, Below.refl _ _⟩
theorem conv_own (w : World) (g c n : Nat) (l : List UInt8) (hl : l.length = n) (h : ∀ j u, (l.map u8v)[j]? = some u → w.cell? ((⟨g, 0, none⟩ : Addr).add j) = some u) :
    (convert 90 9 (.slice (some ⟨g, 0, none⟩) n c)).run Try.prog w = .ok (.string ⟨l.toArray⟩) w := by
  subst hl
  refine run_convert_bytes_back w 90 9 5 ⟨g, 0, none⟩ c l Try.underlying90 Try.underlying5 Try.underlying9 (fun x hx => ?_)
  rw [h x (u8v l[x]) (by simp [hx])]
  simp [u8v]
theorem own_free {w : World} {base e n g c : Nat} {xs : List Value} (h : w.ownsRow base e 1 (.slice (some ⟨g, 0, none⟩) n c) n xs) (i : Nat) : w.frozen? ⟨g, i, none⟩ = false := by
  rcases h.2 with ⟨h1, _⟩ | ⟨g', cap, cur, hv, _, hg, _⟩
  · cases h1
  · injection hv with h1
    injection h1 with h1
    injection h1 with h1
    subst h1
    simp [World.frozen?, hg]
set_option maxRecDepth 100000 in
set_option maxHeartbeats 4000000 in
theorem rnum_pos (n : Int) (h1 : -9223372036854775808 ≤ n) (h2 : n ≤ 9223372036854775807) (hn : 0 < n) (w : World) :
    Calls Try.prog 30 #[.int .i64 n] w fun e w' => e = .returned (.string ⟨(num n).toArray⟩) ∧ Below w.heap.size w w' := by
  obtain ⟨i0, hi0, hz0, hz1, hz2⟩ := info_parts u8_info
  have Hi0 := Lib.hid hi0
  have Hz0 := Lib.hid hz0
  have Hz1 := Lib.hid hz1
  have Hz2 := Lib.hid hz2
  obtain ⟨m, rfl⟩ : ∃ m : Nat, n = (m : Int) := ⟨n.toNat, by omega⟩
  have hne : ((m : Int) == 0) = false := by simp; omega
  have hlt : decide ((m : Int) < 0) = false := by simp
  have hab : (m : Int).natAbs = m := Int.natAbs_natCast m
  have Hnum := Lib.hid (num_pos0 (m : Int) hn)
  have hm64 : (m : Int).natAbs < 18446744073709551616 := by omega
  have hm0 : (m : Int).natAbs ≠ 0 := by omega
  have h8 := sz_le (m : Int).natAbs hm64
  have Htop := Lib.hid (top_sz (m : Int).natAbs hm64)
  have Hlow := Lib.hid (fun j (hj : j < sz (m : Int).natAbs) => low_sz (m : Int).natAbs j hm64 hj)
  have Hf : Hid (((first (m : Int)).toNat : Int) = 128 + (sz (m : Int).natAbs : Int)) := Lib.hid (first_pos (m : Int) (by omega) h8)
  have hk0 : 0 < sz (m : Int).natAbs := by
    rcases Nat.eq_zero_or_pos (sz (m : Int).natAbs) with h0 | h0
    · have := Htop.out
      rw [h0] at this
      omega
    · exact h0
  rw [hab] at hm64 h8 Htop Hlow Hf Hnum hk0
  have Hnil : Hid (w.ownsRow w.heap.size 5 1 (.slice none 0 0) 0 (List.map u8v [])) := Lib.hid (by exact ⟨rfl, Or.inl ⟨rfl, rfl⟩⟩)
  obtain ⟨F, hF⟩ : ∃ F, F = first (m : Int) := ⟨_, rfl⟩
  rw [← hF] at Hf Hnum
  obtain ⟨K, hK⟩ : ∃ K, K = sz m := ⟨_, rfl⟩
  rw [← hK] at h8 Htop Hlow Hf Hnum hk0
  clear hi0 hz0 hz1 hz2 hF hm0 hK hab
  go_enter Try.func30, Try.ntmps30
  go_wp2_with fail
  go_loopw [4, 5] (fun v q wr => ∃ j : Nat, j ≤ K ∧ q = .int .u64 ((m / 2 ^ (8 * j) : Nat) : Int) ∧ Hid (wr.ownsRow w.heap.size 5 1 v j ((upb m j).map u8v)) ∧ Hid (Below w.heap.size w wr)) (fun _ q _ => (intOf q).toNat)
  case atStart => exact ⟨0, Nat.zero_le _, by simp, Hnil, Lib.hid (Below.refl _ _)⟩
  case round =>
    obtain ⟨j, hj, rfl, HO, HB⟩ := hrel
    obtain ⟨q, hq⟩ : ∃ q, q = m / 2 ^ (8 * j) := ⟨_, rfl⟩
    rw [← hq]
    have hsz := HB.out.size
    obtain ⟨A, c, rfl, hnone, hsrc⟩ := own_src HO.out
    have HNone := Lib.hid hnone
    have HSrc := Lib.hid hsrc
    clear hnone hsrc
    by_cases h0 : q = 0
    · have hjk : j = K := by
        rcases Nat.lt_or_ge j K with hh | hh
        · exact absurd (by rw [← hq]; exact h0) (Hlow.out j hh)
        · omega
      subst hjk
      subst h0
      rw [show (((0 : Nat)) : Int) = (0 : Int) from rfl]
      clear hq hj
      have hjI : (j : Int) ≤ 8 := by omega
      have e5 : IntKind.u8.wrap (128 + (j : Int)) = ((F.toNat : Nat) : Int) := by rw [Hf.out]; simp only [IntKind.wrap_u8]; omega
      have e5' : 128 + (j : Int) = ((F.toNat : Nat) : Int) := Hf.out.symm
      have HL : Hid (∀ W, W = wr.alloc (.cells #[.int .u8 ((F.toNat : Nat) : Int)] 5) → W.ownsRow w.heap.size 5 1 (.slice (some ⟨wr.heap.size, 0, none⟩) 1 1) 1 ([F].map u8v)) := Lib.hid (fun W hW => own_lit hsz F hW)
      obtain ⟨f, hf⟩ : ∃ f : Int, f = ((F.toNat : Nat) : Int) := ⟨_, rfl⟩
      rw [← hf] at HL e5 e5'
      clear hf e5
      go_wp2_with (at_builtin; refine wpList_append_more rfl (.tmp 52) (.tmp 53) 90 rfl w.heap.size 5 i0 _ 1 Try.underlying90 Hi0.out Hz0.out Hz1.out Hz2.out rfl (.slice (some ⟨wr.heap.size, 0, none⟩) 1 1) 1 ([F].map u8v) rfl (HL.out _ rfl) A j c rfl ((upb m j).map u8v) (by simp [upb_len]) HNone.out (alloc_src HSrc.out _) (u8_ones _) (by omega) (by omega) (by simp; omega) ?_; intro v2 w2 hown2 hg2; have HB2 := Lib.hid (below_grownBy (B := w.heap.size) (a := w) (HB.out.alloc hsz _) (HL.out _ rfl) hg2 (Nat.le_refl _) (Nat.le_refl _)); obtain ⟨g3, c3, rfl, _, _, _, hcell3⟩ := own_pos hown2 (by omega); have k4 : (convert 90 9 (.slice (some ⟨g3, 0, none⟩) (1 + j) c3)).run Try.prog w2 = .ok (.string ⟨(num (m : Int)).toArray⟩) w2 := (conv_own w2 g3 c3 (1 + j) (num (m : Int)) (by rw [Hnum.out]; simp [upb_len]; omega) (by rw [Hnum.out]; exact hcell3)); clear hown2 hg2 hcell3)
      go_ret
      exact ⟨rfl, HB2.out⟩
    · have hjs : j < K := by
        rcases Nat.lt_or_ge j K with hh | hh
        · exact hh
        · exfalso; apply h0
          rw [hq, show j = K by omega]
          exact Nat.div_eq_of_lt Htop.out
      have Hdn := Lib.hid (show q / 256 = m / 2 ^ (8 * (j + 1)) by rw [hq]; exact div_next m j)
      have HUp : Hid (upb m (j + 1) = UInt8.ofNat (q % 256) :: upb m j) := Lib.hid (by rw [hq]; exact upb_succ m j)
      have hq64 : q < 18446744073709551616 := by rw [hq]; exact Nat.lt_of_le_of_lt (Nat.div_le_self _ _) hm64
      obtain ⟨b, hb⟩ : ∃ b, b = UInt8.ofNat (q % 256) := ⟨_, rfl⟩
      rw [← hb] at HUp
      have e2 : bits .and .u64 (q : Int) 255 = ((b.toNat : Nat) : Int) := by
        refine (u64_and_nat q 255 hq64 (by decide)).trans ?_
        rw [hb, show (255 : Nat) = 2 ^ 8 - 1 from rfl, Nat.and_two_pow_sub_one_eq_mod, UInt8.toNat_ofNat']; omega
      have hb8 := UInt8.toNat_lt b
      have e3 : IntKind.u8.wrap ((b.toNat : Nat) : Int) = ((b.toNat : Nat) : Int) := by simp only [IntKind.wrap_u8]; omega
      have hqp : decide (0 < q) = true := by simp; omega
      have hqd : q / 256 < q := by omega
      have HL : Hid (∀ W, W = wr.alloc (.cells #[.int .u8 ((b.toNat : Nat) : Int)] 5) → W.ownsRow w.heap.size 5 1 (.slice (some ⟨wr.heap.size, 0, none⟩) 1 1) 1 ([b].map u8v)) := Lib.hid (fun W hW => own_lit hsz b hW)
      clear hq hb
      go_wp2_with (at_builtin; refine wpList_append_more rfl (.tmp 24) (.tmp 25) 90 rfl w.heap.size 5 i0 _ 1 Try.underlying90 Hi0.out Hz0.out Hz1.out Hz2.out rfl (.slice (some ⟨wr.heap.size, 0, none⟩) 1 1) 1 ([b].map u8v) rfl (HL.out _ rfl) A j c rfl ((upb m j).map u8v) (by simp [upb_len]) HNone.out (alloc_src HSrc.out _) (u8_ones _) (by omega) (by omega) (by simp; omega) ?_; intro v2 w2 hown2 hg2; have HB2 := Lib.hid (below_grownBy (B := w.heap.size) (a := w) (HB.out.alloc hsz _) (HL.out _ rfl) hg2 (Nat.le_refl _) (Nat.le_refl _)); have HO2 : Hid (w2.ownsRow w.heap.size 5 1 v2 (j + 1) ((upb m (j + 1)).map u8v)) := Lib.hid (by rw [HUp.out, Nat.add_comm j 1]; exact hown2); clear hown2 hg2)
      clear e2 e3
      go_roundw
      case rel => exact ⟨j + 1, by omega, by rw [← Hdn.out]; simp, HO2, HB2⟩
      case measure => simp [intOf] <;> omega
set_option maxRecDepth 100000 in
set_option maxHeartbeats 4000000 in
theorem rnum_neg (n : Int) (h1 : -9223372036854775808 ≤ n) (h2 : n ≤ 9223372036854775807) (hn : n < 0) (w : World) :
    Calls Try.prog 30 #[.int .i64 n] w fun e w' => e = .returned (.string ⟨(num n).toArray⟩) ∧ Below w.heap.size w w' := by
  obtain ⟨i0, hi0, hz0, hz1, hz2⟩ := info_parts u8_info
  have Hi0 := Lib.hid hi0
  have Hz0 := Lib.hid hz0
  have Hz1 := Lib.hid hz1
  have Hz2 := Lib.hid hz2
  have hne : (n == 0) = false := by simp; omega
  have hlt : decide (n < 0) = true := by simpa using hn
  have e1 : IntKind.u64.wrap ((0 : Int) - IntKind.u64.wrap n) = ((n.natAbs : Nat) : Int) := by simp only [IntKind.wrap_u64]; omega
  have e1' : IntKind.u64.wrap (-IntKind.u64.wrap n) = ((n.natAbs : Nat) : Int) := by simp only [IntKind.wrap_u64]; omega
  have Hnum := Lib.hid (num_neg0 n hn)
  have hm64 : n.natAbs < 18446744073709551616 := by omega
  have hm0 : n.natAbs ≠ 0 := by omega
  have h8 := sz_le n.natAbs hm64
  have Htop := Lib.hid (top_sz n.natAbs hm64)
  have Hlow := Lib.hid (fun j (hj : j < sz n.natAbs) => low_sz n.natAbs j hm64 hj)
  have Hf : Hid (((first n).toNat : Int) = 128 - (sz n.natAbs : Int)) := Lib.hid (first_neg n (by omega) h8)
  have hk0 : 0 < sz n.natAbs := by
    rcases Nat.eq_zero_or_pos (sz n.natAbs) with h0 | h0
    · have := Htop.out
      rw [h0] at this
      omega
    · exact h0
  obtain ⟨m, hm⟩ : ∃ m, m = n.natAbs := ⟨_, rfl⟩
  rw [← hm] at e1 e1' hm64 h8 Htop Hlow Hf Hnum hk0
  have Hnil : Hid (w.ownsRow w.heap.size 5 1 (.slice none 0 0) 0 (List.map u8v [])) := Lib.hid (by exact ⟨rfl, Or.inl ⟨rfl, rfl⟩⟩)
  obtain ⟨F, hF⟩ : ∃ F, F = first n := ⟨_, rfl⟩
  rw [← hF] at Hf Hnum
  obtain ⟨K, hK⟩ : ∃ K, K = sz m := ⟨_, rfl⟩
  rw [← hK] at h8 Htop Hlow Hf Hnum hk0
  clear hi0 hz0 hz1 hz2 hm hF hm0 hK
  go_enter Try.func30, Try.ntmps30
  go_wp2_with fail
  clear e1 e1'
  go_loopw [4, 5] (fun v q wr => ∃ j : Nat, j ≤ K ∧ q = .int .u64 ((m / 2 ^ (8 * j) : Nat) : Int) ∧ Hid (wr.ownsRow w.heap.size 5 1 v j ((upb m j).map u8v)) ∧ Hid (Below w.heap.size w wr)) (fun _ q _ => (intOf q).toNat)
  case atStart => exact ⟨0, Nat.zero_le _, by simp, Hnil, Lib.hid (Below.refl _ _)⟩
  case round =>
    obtain ⟨j, hj, rfl, HO, HB⟩ := hrel
    obtain ⟨q, hq⟩ : ∃ q, q = m / 2 ^ (8 * j) := ⟨_, rfl⟩
    rw [← hq]
    have hsz := HB.out.size
    obtain ⟨A, c, rfl, hnone, hsrc⟩ := own_src HO.out
    have HNone := Lib.hid hnone
    have HSrc := Lib.hid hsrc
    clear hnone hsrc
    by_cases h0 : q = 0
    · have hjk : j = K := by
        rcases Nat.lt_or_ge j K with hh | hh
        · exact absurd (by rw [← hq]; exact h0) (Hlow.out j hh)
        · omega
      subst hjk
      subst h0
      rw [show (((0 : Nat)) : Int) = (0 : Int) from rfl]
      clear hq hj
      have hjI : (j : Int) ≤ 8 := by omega
      obtain ⟨g0, c0, hAe, hbg, hgl, _, _⟩ := own_pos HO.out hk0
      injection hAe with hAe _ hce
      subst hAe
      subst hce
      have e5 : IntKind.u8.wrap (128 - (j : Int)) = ((F.toNat : Nat) : Int) := by rw [Hf.out]; simp only [IntKind.wrap_u8]; omega
      have e5' : 128 - (j : Int) = ((F.toNat : Nat) : Int) := Hf.out.symm
      have e6 : IntKind.u8.wrap (128 + (j : Int)) = 128 + (j : Int) := by simp only [IntKind.wrap_u8]; omega
      obtain ⟨f, hf⟩ : ∃ f : Int, f = ((F.toNat : Nat) : Int) := ⟨_, rfl⟩
      rw [← hf] at e5 e5'
      have HFf := Lib.hid hf
      clear hf e5
      obtain ⟨wA, hwA⟩ : ∃ x, x = wr := ⟨_, rfl⟩
      subst hwA
      go_wp2_with fail
      clear e6
      go_loopw [7] (fun iv wr => ∃ t : Nat, t ≤ j ∧ iv = .int .i64 (t : Int) ∧ Hid (wr.ownsRow w.heap.size 5 1 (.slice (some ⟨g0, 0, none⟩) j c) j ((flb (upb m j) t).map u8v)) ∧ Hid (Below w.heap.size w wr)) (fun iv _ => j - (intOf iv).toNat)
      case atStart => exact ⟨0, Nat.zero_le _, rfl, Lib.hid (by simpa [flb] using HO.out), HB⟩
      case round =>
        obtain ⟨t, ht, rfl, HO2, HB2⟩ := hrel
        have hsz2 := HB2.out.size
        by_cases hlt2 : t < j
        · have hul : t < (upb m j).length := by rw [upb_len]; exact hlt2
          obtain ⟨g1, c1, he1, _, hg1, _, hcl⟩ := own_pos HO2.out (by omega)
          injection he1 with he1
          injection he1 with he1
          injection he1 with he1
          subst he1
          have hcell := hcl t (u8v (upb m j)[t]) (by rw [List.getElem?_map, flb_get _ _ hul]; rfl)
          rw [add_flat, Nat.zero_add] at hcell
          have HSt := Lib.hid (flb_step (upb m j) t hul)
          obtain ⟨b, hb⟩ : ∃ b, b = (upb m j)[t] := ⟨_, rfl⟩
          rw [← hb] at hcell HSt
          have hb8 := UInt8.toNat_lt b
          have e7 : IntKind.u8.wrap (255 - ((b.toNat : Nat) : Int)) = (((255 - b).toNat : Nat) : Int) := by
            rw [UInt8.toNat_sub_of_le 255 b (by rw [UInt8.le_iff_toNat_le]; show b.toNat ≤ 255; omega)]
            simp only [IntKind.wrap_u8]
            show _ = ((255 - b.toNat : Nat) : Int)
            omega
          have e7' : 255 - ((b.toNat : Nat) : Int) = (((255 - b).toNat : Nat) : Int) := by
            rw [UInt8.toNat_sub_of_le 255 b (by rw [UInt8.le_iff_toNat_le]; show b.toNat ≤ 255; omega)]
            show _ = ((255 - b.toNat : Nat) : Int)
            omega
          have hcell2 : wr.cell? ⟨g0, t, none⟩ = some (.int .u8 ((b.toNat : Nat) : Int)) := hcell
          have hfr : wr.frozen? ⟨g0, t, none⟩ = false := own_free HO2.out t
          have htI : (t : Int) < (j : Int) := by omega
          have ht0 : (0 : Int) ≤ (t : Int) := by omega
          have hw1 : IntKind.i64.wrap ((t : Int) + 1) = (t : Int) + 1 := by simp only [IntKind.wrap_i64]; omega
          clear hcl hcell hb
          go_wp2_with fail
          have HO3 := Lib.hid (own_store HO2.out t hlt2 (u8v (255 - b)))
          clear e7 e7'
          go_roundw
          case rel => exact ⟨t + 1, by omega, by go_num, Lib.hid (by rw [← HSt.out, List.map_set]; exact HO3.out), Lib.hid (HB2.out.setCell (p := ⟨g0, t, none⟩) hbg _)⟩
          case measure => simp [intOf] <;> omega
        · obtain rfl : t = j := by omega
          have HOf : Hid (wr.ownsRow w.heap.size 5 1 (.slice (some ⟨g0, 0, none⟩) t c) t (((upb m t).map (fun b => 255 - b)).map u8v)) := Lib.hid (by
            have h := HO2.out
            have e8 := flb_all (upb m t)
            rw [upb_len] at e8
            rwa [e8] at h)
          obtain ⟨A2, c2, hv2, hnone2, hsrc2⟩ := own_src HOf.out
          injection hv2 with hA2 _ hc2
          subst hA2
          subst hc2
          have HNone2 := Lib.hid hnone2
          have HSrc2 := Lib.hid hsrc2
          have HL : Hid (∀ W, W = wr.alloc (.cells #[.int .u8 f] 5) → W.ownsRow w.heap.size 5 1 (.slice (some ⟨wr.heap.size, 0, none⟩) 1 1) 1 ([F].map u8v)) := Lib.hid (fun W hW => own_lit hsz2 F (by rw [hW, HFf.out]; rfl))
          clear hnone2 hsrc2
          go_wp2_with (at_builtin; refine wpList_append_more rfl (.tmp 52) (.tmp 53) 90 rfl w.heap.size 5 i0 _ 1 Try.underlying90 Hi0.out Hz0.out Hz1.out Hz2.out rfl (.slice (some ⟨wr.heap.size, 0, none⟩) 1 1) 1 ([F].map u8v) rfl (HL.out _ rfl) (some ⟨g0, 0, none⟩) t c rfl (((upb m t).map (fun b => 255 - b)).map u8v) (by simp [upb_len]) HNone2.out (alloc_src HSrc2.out _) (u8_ones _) (by omega) (by omega) (by simp; omega) ?_; intro v2 w2 hown2 hg2; have HB3 := Lib.hid (below_grownBy (B := w.heap.size) (a := w) (HB2.out.alloc hsz2 _) (HL.out _ rfl) hg2 (Nat.le_refl _) (Nat.le_refl _)); obtain ⟨g3, c3, rfl, _, _, _, hcell3⟩ := own_pos hown2 (by omega); have k4 : (convert 90 9 (.slice (some ⟨g3, 0, none⟩) (1 + t) c3)).run Try.prog w2 = .ok (.string ⟨(num n).toArray⟩) w2 := (conv_own w2 g3 c3 (1 + t) (num n) (by rw [Hnum.out]; simp [upb_len]; omega) (by rw [Hnum.out]; exact hcell3)); clear hown2 hg2 hcell3)
          go_ret
          exact ⟨rfl, HB3.out⟩
    · have hjs : j < K := by
        rcases Nat.lt_or_ge j K with hh | hh
        · exact hh
        · exfalso; apply h0
          rw [hq, show j = K by omega]
          exact Nat.div_eq_of_lt Htop.out
      have Hdn := Lib.hid (show q / 256 = m / 2 ^ (8 * (j + 1)) by rw [hq]; exact div_next m j)
      have HUp : Hid (upb m (j + 1) = UInt8.ofNat (q % 256) :: upb m j) := Lib.hid (by rw [hq]; exact upb_succ m j)
      have hq64 : q < 18446744073709551616 := by rw [hq]; exact Nat.lt_of_le_of_lt (Nat.div_le_self _ _) hm64
      obtain ⟨b, hb⟩ : ∃ b, b = UInt8.ofNat (q % 256) := ⟨_, rfl⟩
      rw [← hb] at HUp
      have e2 : bits .and .u64 (q : Int) 255 = ((b.toNat : Nat) : Int) := by
        refine (u64_and_nat q 255 hq64 (by decide)).trans ?_
        rw [hb, show (255 : Nat) = 2 ^ 8 - 1 from rfl, Nat.and_two_pow_sub_one_eq_mod, UInt8.toNat_ofNat']; omega
      have hb8 := UInt8.toNat_lt b
      have e3 : IntKind.u8.wrap ((b.toNat : Nat) : Int) = ((b.toNat : Nat) : Int) := by simp only [IntKind.wrap_u8]; omega
      have hqp : decide (0 < q) = true := by simp; omega
      have hqd : q / 256 < q := by omega
      have HL : Hid (∀ W, W = wr.alloc (.cells #[.int .u8 ((b.toNat : Nat) : Int)] 5) → W.ownsRow w.heap.size 5 1 (.slice (some ⟨wr.heap.size, 0, none⟩) 1 1) 1 ([b].map u8v)) := Lib.hid (fun W hW => own_lit hsz b hW)
      clear hq hb
      go_wp2_with (at_builtin; refine wpList_append_more rfl (.tmp 24) (.tmp 25) 90 rfl w.heap.size 5 i0 _ 1 Try.underlying90 Hi0.out Hz0.out Hz1.out Hz2.out rfl (.slice (some ⟨wr.heap.size, 0, none⟩) 1 1) 1 ([b].map u8v) rfl (HL.out _ rfl) A j c rfl ((upb m j).map u8v) (by simp [upb_len]) HNone.out (alloc_src HSrc.out _) (u8_ones _) (by omega) (by omega) (by simp; omega) ?_; intro v2 w2 hown2 hg2; have HB2 := Lib.hid (below_grownBy (B := w.heap.size) (a := w) (HB.out.alloc hsz _) (HL.out _ rfl) hg2 (Nat.le_refl _) (Nat.le_refl _)); have HO2 : Hid (w2.ownsRow w.heap.size 5 1 v2 (j + 1) ((upb m (j + 1)).map u8v)) := Lib.hid (by rw [HUp.out, Nat.add_comm j 1]; exact hown2); clear hown2 hg2)
      clear e2 e3
      go_roundw
      case rel => exact ⟨j + 1, by omega, by rw [← Hdn.out]; simp, HO2, HB2⟩
      case measure => simp [intOf] <;> omega
theorem rnum_any (n : Int) (h1 : -9223372036854775808 ≤ n) (h2 : n ≤ 9223372036854775807) (w : World) :
    Calls Try.prog 30 #[.int .i64 n] w fun e w' => e = .returned (.string ⟨(num n).toArray⟩) ∧ Below w.heap.size w w' := by
  rcases Int.lt_trichotomy n 0 with h | h | h
  · exact rnum_neg n h1 h2 h w
  · subst h; exact rnum_zero w
  · exact rnum_pos n h1 h2 h w
end Go.Proofs.Ytomjgkflnfjjbaa
