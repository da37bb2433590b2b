/- The reference's Bits. -/
import Derived.Test.YtomjgkflnfjjbaaKs
namespace Go.Proofs.Ytomjgkflnfjjbaa
open Go.ChangeShapes Go.WideShapes Go.ChangeAt Go.RowKit En

/-- No bit stands behind the first t bits. -/
def PI (q : List Nat) (t : Nat) : Prop := ∀ i, q.getD i 0 < 2 ^ min 8 (t - 8 * i)
theorem PI.zero (n : Nat) : PI (List.replicate n 0) 0 := fun i => by
  have e : (List.replicate n 0).getD i 0 = 0 := by
    by_cases h : i < n
    · simp [List.getD, h]
    · simp [List.getD, h]
  rw [e]; exact Nat.pow_pos (by omega)
theorem PI.low {q : List Nat} {t : Nat} (h : PI q t) : q.getD (t / 8) 0 < 2 ^ (t % 8) := by
  have := h (t / 8)
  rwa [show min 8 (t - 8 * (t / 8)) = t % 8 by omega] at this
theorem or_add (x s b : Nat) (hx : x < 2 ^ s) (hb : b ≤ 1) : x ||| b * 2 ^ s = x + b * 2 ^ s := by
  rcases (by omega : b = 0 ∨ b = 1) with rfl | rfl
  · simp
  · rw [Nat.one_mul, Nat.or_comm, nat_join s (2 ^ s) x (Nat.mod_self _) hx, Nat.add_comm]
theorem PI.step {q : List Nat} {t : Nat} (h : PI q t) (b : Nat) (hb : b ≤ 1) : PI (q.set (t / 8) (q.getD (t / 8) 0 ||| b * 2 ^ (t % 8))) (t + 1) := fun i => by
  have hlow := h.low
  by_cases hi : i = t / 8
  · subst hi
    by_cases hl : t / 8 < q.length
    · rw [show (q.set (t / 8) (q.getD (t / 8) 0 ||| b * 2 ^ (t % 8))).getD (t / 8) 0 = q.getD (t / 8) 0 ||| b * 2 ^ (t % 8) by simp [List.getD, hl]]
      rw [or_add _ _ _ hlow hb, show min 8 (t + 1 - 8 * (t / 8)) = t % 8 + 1 by omega, Nat.pow_succ]
      have : b * 2 ^ (t % 8) ≤ 1 * 2 ^ (t % 8) := Nat.mul_le_mul_right _ hb
      omega
    · rw [show (q.set (t / 8) (q.getD (t / 8) 0 ||| b * 2 ^ (t % 8))).getD (t / 8) 0 = 0 by simp [List.getD, hl]]
      exact Nat.pow_pos (by omega)
  · rw [show (q.set (t / 8) (q.getD (t / 8) 0 ||| b * 2 ^ (t % 8))).getD i 0 = q.getD i 0 by simp [List.getD, List.getElem?_set_ne (fun e => hi e.symm)]]
    exact Nat.lt_of_lt_of_le (h i) (Nat.pow_le_pow_right (by omega) (by omega))
theorem PI.pack {q : List Nat} {a : Nat} (h : PI q a) (n k : Nat) : PI (pkL a n q k) (a + k) := by
  induction k with
  | zero => exact h
  | succ k ih => exact ih.step (n / 2 ^ k % 2) (by omega)
theorem PI.all (L : List Int) (i : Nat) : PI (pkA L i) (i * wdF L) := by
  induction i with
  | zero => rw [Nat.zero_mul]; exact PI.zero _
  | succ i ih =>
    have := ih.pack (dfF L i) (wdF L)
    rwa [show i * wdF L + wdF L = (i + 1) * wdF L by rw [Nat.add_mul, Nat.one_mul]] at this
theorem set_same (q : List Nat) (i : Nat) : q.set i (q.getD i 0) = q := by
  by_cases h : i < q.length
  · rw [show q.getD i 0 = q[i] by simp [List.getD, h]]; exact List.set_getElem_self h
  · exact List.set_eq_of_length_le (by omega)
theorem pkL_skip (a n : Nat) (q : List Nat) (k : Nat) (h : n / 2 ^ k % 2 = 0) : pkL a n q (k + 1) = pkL a n q k := by
  show (pkL a n q k).set ((a + k) / 8) ((pkL a n q k).getD ((a + k) / 8) 0 ||| n / 2 ^ k % 2 * 2 ^ ((a + k) % 8)) = _
  rw [h, Nat.zero_mul, Nat.or_zero, set_same]
theorem pkL_put (a n : Nat) (q : List Nat) (k : Nat) (hq : PI q a) (h : n / 2 ^ k % 2 = 1) : pkL a n q (k + 1) = (pkL a n q k).set ((a + k) / 8) ((pkL a n q k).getD ((a + k) / 8) 0 + 2 ^ ((a + k) % 8)) := by
  show (pkL a n q k).set ((a + k) / 8) ((pkL a n q k).getD ((a + k) / 8) 0 ||| n / 2 ^ k % 2 * 2 ^ ((a + k) % 8)) = _
  rw [h, or_add _ _ _ (hq.pack n k).low (by omega), Nat.one_mul]
/- What the inner loop computes, each result under a name. -/
def btI (x : Int) (j : Nat) : Nat := x.toNat / 2 ^ j % 2
def muN (i w : Nat) : Nat := i * w
def p2N (s : Nat) : Nat := 2 ^ s % 256
def adN (x y : Nat) : Nat := (x + y) % 256
def pwN (w : Nat) : Nat := 2 ^ w
def Sb (x : Int) : Prop := 0 ≤ x ∧ x < 9223372036854775808
def W62 (w : Nat) : Prop := w ≤ 62
theorem i64_and_nat (a b : Nat) (ha : a < 9223372036854775808) (hb : b < 9223372036854775808) : bits .and .i64 (a : Int) (b : Int) = ((a &&& b : Nat) : Int) := by
  have hx : a &&& b < 2 ^ 63 := Nat.and_lt_two_pow _ (by omega)
  show IntKind.i64.wrap ((BitVec.ofInt 64 (a : Int) &&& BitVec.ofInt 64 (b : Int)).toNat : Int) = _
  rw [BitVec.toNat_and, ofInt_u64 a (by omega), ofInt_u64 b (by omega), IntKind.wrap_i64]
  omega
theorem and1_at (x : Int) (j : Nat) (h : Sb x) : bits .and .i64 (x / 2 ^ j) 1 = ((btI x j : Nat) : Int) := by
  obtain ⟨h1, h2⟩ := h
  obtain ⟨n, rfl⟩ : ∃ n : Nat, x = (n : Int) := ⟨x.toNat, by omega⟩
  have e1 : ((n : Int) / 2 ^ j) = ((n / 2 ^ j : Nat) : Int) := by simp
  have e2 : n / 2 ^ j < 9223372036854775808 := Nat.lt_of_le_of_lt (Nat.div_le_self _ _) (by omega)
  rw [e1]
  refine (i64_and_nat (n / 2 ^ j) 1 e2 (by decide)).trans ?_
  rw [Nat.and_one_is_mod]; rfl
theorem mul_at (i w : Nat) (h : Sm (muN i w)) : wrap64 ((i : Int) * (w : Int)) = ((muN i w : Nat) : Int) := by
  unfold Sm muN at h
  unfold muN wrap64
  have e : (i : Int) * (w : Int) = ((i * w : Nat) : Int) := by simp
  rw [e]; omega
theorem mul_at' (i w : Nat) (h : Sm (muN i w)) : IntKind.i64.wrap ((i : Int) * (w : Int)) = ((muN i w : Nat) : Int) := by
  rw [← mul_at i w h]; simp only [IntKind.wrap_i64]; unfold wrap64; omega
theorem add7_at (p : Nat) (h : Sm (smN p 7)) : wrap64 ((p : Int) + 7) = ((smN p 7 : Nat) : Int) := sum_at' p 7 h
theorem add7_at' (p : Nat) (h : Sm (smN p 7)) : IntKind.i64.wrap ((p : Int) + 7) = ((smN p 7 : Nat) : Int) := sum_at p 7 h
theorem p2_at (s : Nat) : IntKind.u8.wrap (2 ^ s) = ((p2N s : Nat) : Int) := by
  have e : ((2 : Int) ^ s) = ((2 ^ s : Nat) : Int) := by simp
  rw [e]; unfold p2N; simp only [IntKind.wrap_u8]; omega
theorem ad8_at (x y : Nat) : IntKind.u8.wrap ((x : Int) + (y : Int)) = ((adN x y : Nat) : Int) := by unfold adN; simp only [IntKind.wrap_u8]; omega
theorem p2i_at (w : Nat) (h : W62 w) : IntKind.i64.wrap (2 ^ w) = ((pwN w : Nat) : Int) := by
  have e : ((2 : Int) ^ w) = ((pwN w : Nat) : Int) := by unfold pwN; simp
  have h2 : pwN w ≤ 2 ^ 62 := Nat.pow_le_pow_right (by omega) h
  rw [e]; simp only [IntKind.wrap_i64]; omega
theorem wrap_at' (p : Nat) (h : Sm p) : wrap64 (p : Int) = (p : Int) := by unfold Sm at h; unfold wrap64; omega
theorem p2i_at' (w : Nat) (h : W62 w) : wrap64 (2 ^ w) = ((pwN w : Nat) : Int) := by
  have := p2i_at w h
  rw [← this]; simp only [IntKind.wrap_i64]; unfold wrap64; omega
theorem wd_lt (L : List Int) (d w : Nat) (hd : d = (gtF L - lsF L).toNat) (h64 : d < 18446744073709551616) (h : w < wdF L) : pwN w ≤ d := by
  have e : wdF L = Lib.bitLen d := by rw [hd]; rfl
  rw [e] at h
  have hd0 : d ≠ 0 := by
    intro h0
    rw [h0] at h
    have : Lib.bitLen 0 = 0 := by decide
    omega
  obtain ⟨_, h2, _⟩ := Lib.bitLenAux_bounds 64 d h64 hd0
  have h' : w < Lib.bitLenAux 64 d := h
  exact Nat.le_trans (Nat.pow_le_pow_right (by omega) (by omega)) h2
theorem wd_eq (L : List Int) (d : Nat) (hd : d = (gtF L - lsF L).toNat) (h64 : d < 18446744073709551616) : d < pwN (wdF L) := by
  have e : wdF L = Lib.bitLen d := by rw [hd]; rfl
  rw [e]
  by_cases hd0 : d = 0
  · subst hd0; exact Nat.pow_pos (by omega)
  · exact (Lib.bitLenAux_bounds 64 d h64 hd0).2.2
section
attribute [local go_sem] sum_at sum_at' wrap_at wrap_at' quo_at quo_at' rem_at rem_at' and1_at mul_at mul_at' add7_at add7_at' p2_at ad8_at p2i_at p2i_at'
set_option maxRecDepth 100000 in
set_option maxHeartbeats 4000000 in
theorem rbits_any (A : Option Addr) (c : Nat) (L : List Int) (hl : L.length ≤ 4096) (hL : Vs L) (w : World) (hR : Rd (Value.int .i64) w A L) :
    Calls Try.prog 32 #[.slice A L.length c] w fun e w' => e = .returned (.tuple #[.int .i64 ((wdF L : Nat) : Int), .string ⟨(pkB L).toArray⟩]) ∧ Below w.heap.size w w' := by
  have HR := Lib.hid hR
  have HL := Lib.hid hL
  have HZ := Lib.hid (rzone_any A c L (by omega) w hR)
  have b1 := lsF_bd hL
  have b2 := gtF_bd hL
  have b3 := ls_le_gt L
  have hw62 := wdF_le hL
  obtain ⟨d, hd⟩ : ∃ d, d = (gtF L - lsF L).toNat := ⟨_, rfl⟩
  have hdI : gtF L - lsF L = (d : Int) := by omega
  have HdI := Lib.hid hdI
  have HW1 := Lib.hid (fun w h => wd_lt L d w hd (by omega) h)
  have HW2 := Lib.hid (wd_eq L d hd (by omega))
  have HDf := Lib.hid (fun i (hi : i < L.length) => (by
      have h1 := lsF_le L i hi
      have h2 := getD_vs hL i
      unfold dfF
      omega : (L.getD i 0 - lsF L = ((dfF L i : Nat) : Int)) ∧ dfF L i ≤ 4611686018427387904))
  have HF := Lib.hid (fun i (hi : i < L.length) => fits L.length (wdF L) i hi)
  have HSz : Hid (szF L.length (wdF L) = dvN (smN (muN L.length (wdF L)) 7)) := Lib.hid rfl
  have hsz := szF_le L.length (wdF L) hl hw62
  have HPL := Lib.hid (pkA_len L)
  have HPS : Hid (∀ i, pkA L (i + 1) = pkL (i * wdF L) (dfF L i) (pkA L i) (wdF L)) := Lib.hid (fun i => rfl)
  have HPB := Lib.hid (pkA_byte L)
  have HPI := Lib.hid (PI.all L)
  have HBl := Lib.hid (pkB_len L)
  have HBd : Hid (pkB L = (pkA L L.length).map fun x => UInt8.ofNat x) := Lib.hid rfl
  have HP0 : Hid (pkA L 0 = List.replicate (szF L.length (wdF L)) 0) := Lib.hid rfl
  obtain ⟨wd, hwd⟩ : ∃ wd, wd = wdF L := ⟨_, rfl⟩
  obtain ⟨ls, hls⟩ : ∃ ls, ls = lsF L := ⟨_, rfl⟩
  obtain ⟨gt, hgt⟩ : ∃ gt, gt = gtF L := ⟨_, rfl⟩
  rw [← hwd] at hw62 HW1 HW2 HF HSz hsz HPL HPS HPI HBl HP0 ⊢
  rw [← hls] at HZ b1 b3 hdI HdI HDf
  rw [← hgt] at HZ b2 b3 hdI HdI
  clear hwd hls hgt hd hR hL hdI
  go_enter Try.func32, Try.ntmps32
  go_wp2_with fail
  refine HZ.out.mono ?_
  rintro e w1 ⟨rfl, hb⟩
  have HB1 := Lib.hid hb
  clear hb
  go_wp2_with fail
  go_loop [6] (fun wv => ∃ j : Nat, j ≤ wd ∧ wv = .int .i64 (j : Int)) (fun wv => wd - (intOf wv).toNat)
  case atStart => exact ⟨0, Nat.zero_le _, rfl⟩
  case round =>
    obtain ⟨j, hj, rfl⟩ := hrel
    have hj62 : W62 j := by unfold W62; omega
    have hjb : (j : Int) ≤ 62 := by omega
    by_cases hlt : j < wd
    · have h1 := HW1.out j hlt
      have hd1 : decide (((pwN j : Nat) : Int) ≤ gt - ls) = true := by rw [HdI.out]; simp; exact h1
      clear h1
      go_wp2_with fail
      go_round
      case rel => exact ⟨j + 1, by omega, by go_num⟩
      case measure => simp [intOf] <;> omega
    · obtain rfl : j = wd := by omega
      have h1 := HW2.out
      have hd1 : decide (((pwN j : Nat) : Int) ≤ gt - ls) = false := by rw [HdI.out]; simp; omega
      have hs1 : Sm (muN L.length j) := by
        have := Nat.mul_le_mul hl hw62
        unfold Sm muN; omega
      have hs2 : Sm (smN (muN L.length j) 7) := by
        have := Nat.mul_le_mul hl hw62
        unfold Sm smN muN; omega
      have hs3 : Sm (dvN (smN (muN L.length j) 7)) := by rw [← HSz.out]; unfold Sm; omega
      have hmk := make_bytes (dvN (smN (muN L.length j) 7)) (by rw [← HSz.out]; omega) w1
      clear h1
      go_wp2_with fail
      clear hmk
      have HM : Hid (By (w1.alloc (.cells (List.replicate (dvN (smN (muN L.length j) 7)) (.int .u8 0)).toArray 5)) w1.heap.size (pkA L 0)) := Lib.hid (by
        unfold By
        rw [Deep.blk_alloc_new w1 _, HP0.out, HSz.out]
        simp [byV])
      obtain ⟨sz, hsz0⟩ : ∃ sz, sz = dvN (smN (muN L.length j) 7) := ⟨_, rfl⟩
      rw [← hsz0] at HM HSz
      rw [HSz.out] at hsz HF HPL HBl
      rw [← hsz0]
      clear hsz0 hs3 hs1 hs2
      obtain ⟨wd, hwd⟩ : ∃ wd, wd = j := ⟨_, rfl⟩
      subst hwd
      go_loopw [8, 9] (fun iv _ wr => ∃ i : Nat, i ≤ L.length ∧ iv = .int .i64 (i : Int) ∧ Hid (By wr w1.heap.size (pkA L i)) ∧ Hid (Below w1.heap.size w1 wr)) (fun iv _ _ => L.length - (intOf iv).toNat)
      case atStart => exact ⟨0, Nat.zero_le _, rfl, HM, Lib.hid ((Below.refl _ _).alloc (Nat.le_refl _) _)⟩
      case round =>
        obtain ⟨i, hi, rfl, HW, HG⟩ := hrel
        obtain ⟨wo, hwo⟩ : ∃ x, x = wr := ⟨_, rfl⟩
        subst hwo
        by_cases hlt2 : i < L.length
        · have hiI : (i : Int) < (L.length : Int) := by omega
          have hi0 : (0 : Int) ≤ (i : Int) := by omega
          obtain ⟨hdf, hdf2⟩ := HDf.out i hlt2
          have hfit := HF.out i hlt2
          have HS := Lib.hid (HPS.out i)
          have HQ := Lib.hid (HPI.out i)
          have Hq8 := Lib.hid (HPB.out i)
          have Hql := Lib.hid (HPL.out i)
          obtain ⟨n, hn⟩ : ∃ n, n = dfF L i := ⟨_, rfl⟩
          rw [← hn] at hdf hdf2 HS
          have hx : L.getD i 0 = L[i] := by simp [List.getD, List.getElem?_eq_getElem hlt2]
          rw [hx] at hdf
          have Hdf := Lib.hid hdf
          have hbx := HL.out _ (List.getElem_mem hlt2)
          obtain ⟨v, hv⟩ : ∃ v, v = L[i] := ⟨_, rfl⟩
          have Hv := Lib.hid hv
          rw [← hv] at hdf Hdf hbx
          obtain ⟨q, hq⟩ : ∃ q, q = pkA L i := ⟨_, rfl⟩
          rw [← hq] at HS HQ Hq8 Hql HW
          clear hx hv hn hq hdf
          obtain ⟨b, off, rfl, hbl, _⟩ := int_at HR.out i hlt2
          have HGo := Lib.hid (HB1.out.trans (HG.out.mono HB1.out.size))
          go_wp2_with fail
          go_loopw [9, 10] (fun kv _ wr => ∃ k : Nat, k ≤ wd ∧ kv = .int .i64 (k : Int) ∧ Hid (By wr w1.heap.size (pkL (i * wd) n q k)) ∧ Hid (Below w1.heap.size w1 wr)) (fun kv _ _ => wd - (intOf kv).toNat)
          case atStart => exact ⟨0, Nat.zero_le _, rfl, HW, HG⟩
          case round =>
            obtain ⟨k, hk, rfl, HWk, HGk⟩ := hrel
            by_cases hlt3 : k < wd
            · have hkI : (k : Int) < (wd : Int) := by omega
              have hk0 : (0 : Int) ≤ (k : Int) := by omega
              have hk64 : (k : Int) ≤ 62 := by omega
              have hcv : wr.cell? ⟨b, off + i, none⟩ = some (.int .i64 v) := by
                obtain ⟨b', off', e, _, h⟩ := int_at (HR.out.below (HB1.out.trans (HGk.out.mono HB1.out.size))) i hlt2
                cases e
                rw [h, Hv.out]
              have hSb : Sb (v - ls) := by rw [Hdf.out]; exact ⟨by omega, by omega⟩
              have hbv : btI (v - ls) k = n / 2 ^ k % 2 := by unfold btI; rw [Hdf.out, Int.toNat_natCast]
              have hw1 : IntKind.i64.wrap ((k : Int) + 1) = (k : Int) + 1 := by simp only [IntKind.wrap_i64]; omega
              by_cases hbt : n / 2 ^ k % 2 = 1
              · have hbt1 : btI (v - ls) k = 1 := by rw [hbv, hbt]
                have hpm : muN i wd ≤ 253952 := Nat.mul_le_mul (show i ≤ 4096 by omega) hw62
                have hs1 : Sm (muN i wd) := by unfold Sm; omega
                have hs2 : Sm (smN (muN i wd) k) := by unfold Sm smN; omega
                have hil : dvN (smN (muN i wd) k) < sz := by unfold dvN smN muN; omega
                have hs3 : Sm (dvN (smN (muN i wd) k)) := by unfold Sm dvN smN; omega
                have hs4 : Sm (rmN (smN (muN i wd) k)) := by unfold Sm rmN; omega
                have hr8 : rmN (smN (muN i wd) k) ≤ 7 := by unfold rmN; omega
                have hlen : (pkL (i * wd) n q k).length = sz := by rw [pkL_len, Hql.out]
                have hcell := by_cell HWk.out (dvN (smN (muN i wd) k)) (by omega)
                have hfr := by_frozen HWk.out (dvN (smN (muN i wd) k))
                have hlg := by_lt HWk.out
                have hlow := (HQ.out.pack n k).low
                have HSp := Lib.hid (pkL_put (i * wd) n q k HQ.out hbt)
                obtain ⟨x, hx⟩ : ∃ x : Nat, x = (pkL (i * wd) n q k).getD (dvN (smN (muN i wd) k)) 0 := ⟨_, rfl⟩
                rw [← hx] at hcell
                have hxs : (pkL (i * wd) n q k).getD ((i * wd + k) / 8) 0 = x := hx.symm
                rw [hxs] at HSp hlow
                have had : adN x (p2N (rmN (smN (muN i wd) k))) = x + 2 ^ ((i * wd + k) % 8) := by
                  have e1 : rmN (smN (muN i wd) k) = (i * wd + k) % 8 := rfl
                  have e2 : 2 ^ ((i * wd + k) % 8) ≤ 2 ^ 7 := Nat.pow_le_pow_right (by omega) (by omega)
                  unfold adN p2N
                  rw [e1, Nat.mod_eq_of_lt (show 2 ^ ((i * wd + k) % 8) < 256 by omega), Nat.mod_eq_of_lt (by omega)]
                have hdv : dvN (smN (muN i wd) k) = (i * wd + k) / 8 := rfl
                have HSq : Hid (pkL (i * wd) n q (k + 1) = (pkL (i * wd) n q k).set (dvN (smN (muN i wd) k)) (adN x (p2N (rmN (smN (muN i wd) k))))) := Lib.hid (by rw [had, hdv]; exact HSp.out)
                have hilI : ((dvN (smN (muN i wd) k) : Nat) : Int) < (sz : Int) := by omega
                clear hx hxs hlow had hdv hlen hbv hbt hpm
                go_wp2_with fail
                go_roundw
                case rel => exact ⟨k + 1, by omega, by go_num, by rw [HSq.out]; exact Lib.hid (by_set HWk.out _ _), Lib.hid (HGk.out.setCell (p := ⟨w1.heap.size, _, none⟩) (Nat.le_refl _) _)⟩
                case measure => simp [intOf] <;> omega
              · have hbt0 : btI (v - ls) k = 0 := by rw [hbv]; omega
                have HSq := Lib.hid (pkL_skip (i * wd) n q k (by omega))
                clear hbv hbt
                go_wp2_with fail
                go_roundw
                case rel => exact ⟨k + 1, by omega, by go_num, by rw [HSq.out]; exact HWk, HGk⟩
                case measure => simp [intOf] <;> omega
            · obtain rfl : k = wd := by omega
              have hw1 : IntKind.i64.wrap ((i : Int) + 1) = (i : Int) + 1 := by simp only [IntKind.wrap_i64]; omega
              go_wp2_with fail
              go_roundw
              case rel => exact ⟨i + 1, by omega, by go_num, by rw [HS.out]; exact HWk, HGk⟩
              case measure => simp [intOf] <;> omega
        · obtain rfl : i = L.length := by omega
          have k4 : ∀ W : World, By W w1.heap.size (pkA L L.length) → (convert 90 9 (.slice (some ⟨w1.heap.size, 0, none⟩) sz sz)).run Try.prog W = .ok (.string ⟨(pkB L).toArray⟩) W := fun W hW => by
            rw [← HBl.out]
            refine run_convert_bytes_back W 90 9 5 ⟨w1.heap.size, 0, none⟩ (pkB L).length (pkB L) Try.underlying90 Try.underlying5 Try.underlying9 (fun k hk => ?_)
            have hk2 : k < (pkA L L.length).length := by rw [HPL.out]; have := HBl.out; omega
            rw [add_flat, Nat.zero_add, by_cell hW k hk2]
            have hx := HPB.out L.length _ (List.getElem_mem hk2)
            have e5 : (pkB L)[k] = UInt8.ofNat (pkA L L.length)[k] := by simp [HBd.out]
            rw [e5]
            simp [List.getD, List.getElem?_eq_getElem hk2, UInt8.toNat_ofNat']
            omega
          have k5 := fun n => k4 (wo.drewN n) HW.out
          have k6 := k4 wo.drew HW.out
          have HGo := Lib.hid (HB1.out.trans (HG.out.mono HB1.out.size))
          clear k4
          go_wp2_with fail
          go_quiet (fail)
          go_wp2_with fail
          exact bodyPost_ret (results_tmp2 rfl _ _ _) rfl ⟨rfl, below_drewN HGo.out _⟩
end
end Go.Proofs.Ytomjgkflnfjjbaa
