/- The statement FractionParses: for any string, the law returns true and changes nothing. No condition. -/
import Derived.Test.YtmhheepnojbgoaaRow
import Derived.Test.YtmhheepnojbgoaaRPn
import Derived.Test.YtmhheepnojbgoaaRPp
import Derived.Test.YtmhheepnojbgoaaParse
namespace Go.Proofs.Ytmhheepnojbgoaa.lawParses
open Go.Proofs.Ytmhheepnojbgoaa Go.ChangeShapes Go.WideShapes Go.ChangeAt Go.RowKit Go.Joins Pl

theorem scan_facts (U : ByteArray) (n : Int) (k : Nat) (h : scanL 0 0 U.data.toList = (n, k)) : k ≤ U.size ∧ 0 ≤ n ∧ n < 10 ^ k := by
  have hb := scan_bd U.data.toList 0 0 (by omega) (by simp)
  rw [h] at hb
  have hl : U.data.toList.length = U.size := by simp
  obtain ⟨-, h1, h2, h3⟩ := hb
  simp only [] at h1 h2 h3
  exact ⟨by omega, h2, h3⟩
theorem pow_mono {k j : Nat} (h : k ≤ j) : (10 : Int) ^ k ≤ 10 ^ j := by
  have : (10 : Nat) ^ k ≤ 10 ^ j := Nat.pow_le_pow_right (by omega) h
  have e1 : ((10 ^ k : Nat) : Int) = (10 : Int) ^ k := by simp
  have e2 : ((10 ^ j : Nat) : Int) = (10 : Int) ^ j := by simp
  omega
theorem pow_prod {n : Int} {k c : Nat} (h0 : 0 ≤ n) (h : n < 10 ^ k) (hkc : k + c ≤ 15) : 1 ≤ (10 : Int) ^ c ∧ (10 : Int) ^ c ≤ 1000000000000000 ∧ 0 ≤ n * 10 ^ c ∧ n * 10 ^ c ≤ 1000000000000000 := by
  have p1 : 0 < (10 : Int) ^ c := Int.pow_pos (by omega)
  have p2 := pow_mono (show c ≤ 15 by omega)
  have p3 : n * 10 ^ c ≤ 10 ^ k * 10 ^ c := Int.mul_le_mul_of_nonneg_right (by omega) (by omega)
  rw [← Int.pow_add] at p3
  have p4 := pow_mono hkc
  exact ⟨by omega, by omega, Int.mul_nonneg h0 (by omega), by omega⟩
theorem nil_of {r : ByteArray} (h : r.size = 0) : r.data.toList = [] := by
  have hl : r.data.toList.length = r.size := by simp
  exact List.eq_nil_of_length_eq_zero (by omega)
theorem ne_nil_of {r : ByteArray} (h : 0 < r.size) : r.data.toList ≠ [] := by
  have hl : r.data.toList.length = r.size := by simp
  intro e; rw [e] at hl; simp at hl; omega
theorem empty_facts {r : ByteArray} (h : r.size = 0) : (r.toList == [37]) = false ∧ r.toList.isEmpty = true ∧ r.toList = [] := by
  have := nil_of h
  rw [ByteArray.toList_eq, this]; exact ⟨rfl, rfl, rfl⟩
theorem full_facts {r : ByteArray} (h : 0 < r.size) : r.toList.isEmpty = false := by
  have := ne_nil_of h
  rw [ByteArray.toList_eq]; simpa using this
theorem pc_true {r : ByteArray} (h : r.data.toList = [37]) : (r.toList == [37]) = true := by rw [ByteArray.toList_eq, h]; rfl
theorem pc_false {r : ByteArray} (h : ¬ r.data.toList = [37]) : (r.toList == [37]) = false := by rw [ByteArray.toList_eq]; simpa using h
theorem pc_size {r : ByteArray} (h : r.data.toList = [37]) : 0 < r.size := by
  have hl : r.data.toList.length = r.size := by simp
  rw [h] at hl; simp at hl; omega
theorem byte_true {x y : UInt8} (h : x = y) : ((x.toNat : Int) == (y.toNat : Int)) = true := by rw [h]; simp
theorem byte_false {x y : UInt8} (h : ¬ x = y) : ((x.toNat : Int) == (y.toNat : Int)) = false := by
  have : x.toNat ≠ y.toNat := fun e => h (UInt8.toNat_inj.1 e)
  simp; omega


theorem main_neg (s u : ByteArray) (hs : s.size ≤ 16) (h0 : 0 < s.size) (h45 : ((s[0].toNat : Int) == 45) = true) (hh : Hid ((s.data.toList.head? == some 45) = true)) (hu : Hid (s.extract 1 s.size = u)) (hus : u.size ≤ 16) : ∃ N D E, Gives 44 s N D E ∧ Gives 45 s N D E := by
  obtain ⟨n, k, hnk⟩ : ∃ n k, scanL 0 0 u.data.toList = (n, k) := ⟨_, _, rfl⟩
  obtain ⟨k1, k2, k3⟩ := scan_facts u n k hnk
  have H := Lib.hid hnk
  rcases Nat.eq_zero_or_pos k with hk | hk
  · subst hk
    exact ⟨0, 0, 14, parse_neg_bad s u hs (by omega) hh hu 0 0 (fun w => quot_none u hus n H w), fun w => rparse_neg_none s u hs h0 h45 hu hus n H w⟩
  have hk' : 0 < (k : Int) := by omega
  have n2 : n ≤ 10000000000000000 := by have := pow_mono (show k ≤ 16 by omega); omega
  obtain ⟨t, ht⟩ : ∃ t, u.extract k u.size = t := ⟨_, rfl⟩
  have hts : t.size = u.size - k := by rw [← ht, ext_size]
  have hts' : t.size ≤ 16 := by omega
  have HT := Lib.hid ht
  by_cases t0 : 0 < t.size
  · have hth := head_get t t0
    by_cases t47 : t[0] = 47
    · have b47 : ((t[0].toNat : Int) == 47) = true := byte_true t47
      have hh47 : Hid (t.data.toList.head? = some 47) := Lib.hid (by rw [hth, t47])
      obtain ⟨v, hv⟩ : ∃ v, t.extract 1 t.size = v := ⟨_, rfl⟩
      have hvs : v.size = t.size - 1 := by rw [← hv, ext_size]
      have hvs' : v.size ≤ 16 := by omega
      have HV := Lib.hid hv
      obtain ⟨m, c, hmc⟩ : ∃ m c, scanL 0 0 v.data.toList = (m, c) := ⟨_, _, rfl⟩
      obtain ⟨c1, c2, c3⟩ := scan_facts v m c hmc
      have H2 := Lib.hid hmc
      have q := quot_slash u t v hus n m k c H hk' k1 HT hh47 hts' HV hvs' H2
      rcases Nat.eq_zero_or_pos c with hc | hc
      · subst hc
        exact ⟨0, 0, 14, parse_neg_bad s u hs (by omega) hh hu n m (fun w => q false (by simp) w), fun w => rparse_neg_slash0 s u hs h0 h45 hu hus n k H hk' k1 k2 n2 t HT hts' t0 b47 v HV hvs' m H2 w⟩
      have m2 : m ≤ 10000000000000000 := by have := pow_mono (show c ≤ 16 by omega); omega
      obtain ⟨r, hr⟩ : ∃ r, t.extract (1 + c) t.size = r := ⟨_, rfl⟩
      have hrs : r.size = t.size - (1 + c) := by rw [← hr, ext_size]
      have HR := Lib.hid hr
      have hc' : 0 < (c : Int) := by omega
      have hct : 1 + c ≤ t.size := by omega
      by_cases hcv : c = v.size
      · obtain ⟨e1, e2, e3⟩ := empty_facts (show r.size = 0 by omega)
        have q := fun w => q true (by simp [hcv] at hc ⊢; omega) w
        by_cases hm : m = 0
        · have mz : (m == 0) = true := by simp [hm]
          refine ⟨0, 0, 19, parse_neg_zero s u hs (by omega) hh hu n (fun w => by have := q w; rw [hm] at this; exact this) k2 (by omega), fun w => rparse_neg_slash_zero s u hs h0 h45 hu hus n k H hk' k1 k2 n2 t HT hts' t0 b47 v HV hvs' m c H2 hc' hct c2 m2 r HR e1 e2 e3 mz w⟩
        · have mz : (m == 0) = false := by simp [hm]
          exact ⟨mkN (-(n)) m, mkD (-(n)) m, mkE (-(n)) m, parse_neg_ok s u hs (by omega) hh hu n m q k2 (by omega) (by omega) (by omega), fun w => rparse_neg_slash s u hs h0 h45 hu hus n k H hk' k1 k2 n2 t HT hts' t0 b47 v HV hvs' m c H2 hc' hct c2 m2 r HR e1 e2 e3 mz (by omega) w⟩
      · have e2 := full_facts (show 0 < r.size by omega)
        have q := fun w => q false (by simp [hcv]) w
        by_cases e : r.data.toList = [37]
        · exact ⟨0, 0, 14, parse_neg_bad s u hs (by omega) hh hu n m q, fun w => rparse_neg_slash_bada s u hs h0 h45 hu hus n k H hk' k1 k2 n2 t HT hts' t0 b47 v HV hvs' m c H2 hc' hct c2 m2 r HR (pc_true e) e2 w⟩
        · exact ⟨0, 0, 14, parse_neg_bad s u hs (by omega) hh hu n m q, fun w => rparse_neg_slash_badb s u hs h0 h45 hu hus n k H hk' k1 k2 n2 t HT hts' t0 b47 v HV hvs' m c H2 hc' hct c2 m2 r HR (pc_false e) e2 w⟩
    · have b47 : ((t[0].toNat : Int) == 47) = false := byte_false t47
      have hn47 : Hid (t.data.toList.head? ≠ some 47) := Lib.hid (by rw [hth]; simpa using t47)
      by_cases t46 : t[0] = 46
      · have b46 : ((t[0].toNat : Int) == 46) = true := byte_true t46
        have hh46 : Hid (t.data.toList.head? = some 46) := Lib.hid (by rw [hth, t46])
        obtain ⟨v, hv⟩ : ∃ v, t.extract 1 t.size = v := ⟨_, rfl⟩
        have hvs : v.size = t.size - 1 := by rw [← hv, ext_size]
        have hvs' : v.size ≤ 16 := by omega
        have HV := Lib.hid hv
        obtain ⟨m, c, hmc⟩ : ∃ m c, scanL 0 0 v.data.toList = (m, c) := ⟨_, _, rfl⟩
        obtain ⟨c1, c2, c3⟩ := scan_facts v m c hmc
        have H2 := Lib.hid hmc
        rcases Nat.eq_zero_or_pos c with hc | hc
        · subst hc
          exact ⟨0, 0, 14, parse_neg_bad s u hs (by omega) hh hu 0 0 (fun w => quot_point0 u t v hus n m k H hk' k1 HT hh46 hts' HV hvs' H2 w), fun w => rparse_neg_point0 s u hs h0 h45 hu hus n k H hk' k1 k2 n2 t HT hts' t0 b47 b46 v HV hvs' m H2 w⟩
        have m2 : m ≤ 10000000000000000 := by have := pow_mono (show c ≤ 16 by omega); omega
        obtain ⟨r, hr⟩ : ∃ r, t.extract (1 + c) t.size = r := ⟨_, rfl⟩
        have hrs : r.size = t.size - (1 + c) := by rw [← hr, ext_size]
        have HR := Lib.hid hr
        have hr' : v.extract c v.size = r := by
          apply bytes_inj
          rw [ext_drop, ← hv, ext_drop, ← hr, ext_drop, List.drop_drop]
        have HR' := Lib.hid hr'
        have hc' : 0 < (c : Int) := by omega
        have hct : 1 + c ≤ t.size := by omega
        obtain ⟨p1, p2, p3, p4⟩ := pow_prod k2 k3 (show k + c ≤ 15 by omega)
        have q := quot_point u t v r hus n m (10 ^ c) k c H hk' k1 HT hh46 hts' HV hvs' H2 hc' c1 (Lib.hid rfl) (by omega) (by omega) p3 (by omega) c2 m2 HR'
        obtain ⟨P, hP⟩ : ∃ P : Int, (10 : Int) ^ c = P := ⟨_, rfl⟩
        rw [hP] at p1 p2 p3 p4 q
        have HP := Lib.hid hP
        have ps := Int.mul_nonneg k2 (show (0 : Int) ≤ P by omega)
        by_cases e : r.data.toList = [37]
        · exact ⟨mkN (-(n * P + m)) (100 * P), mkD (-(n * P + m)) (100 * P), mkE (-(n * P + m)) (100 * P), parse_neg_ok s u hs (by omega) hh hu (n * P + m) (100 * P) (fun w => q (100 * P) true (by rw [if_pos e]) (by simp [e]) w) (by omega) (by omega) (by omega) (by omega), fun w => rparse_neg_point_pc s u hs h0 h45 hu hus n k H hk' k1 k2 n2 t HT hts' t0 b47 b46 v HV hvs' m c H2 hc' hct c2 m2 r HR P HP p1 p2 p3 (by omega) (pc_true e) w⟩
        · by_cases e0 : r.size = 0
          · obtain ⟨e1, e2, e3⟩ := empty_facts e0
            exact ⟨mkN (-(n * P + m)) P, mkD (-(n * P + m)) P, mkE (-(n * P + m)) P, parse_neg_ok s u hs (by omega) hh hu (n * P + m) P (fun w => q P true (by rw [if_neg e]) (by simp [nil_of e0]) w) (by omega) (by omega) (by omega) (by omega), fun w => rparse_neg_point s u hs h0 h45 hu hus n k H hk' k1 k2 n2 t HT hts' t0 b47 b46 v HV hvs' m c H2 hc' hct c2 m2 r HR P HP p1 p2 p3 (by omega) e1 e2 e3 w⟩
          · have e2 := full_facts (show 0 < r.size by omega)
            exact ⟨0, 0, 14, parse_neg_bad s u hs (by omega) hh hu (n * P + m) P (fun w => q P false (by rw [if_neg e]) (by simp [e, ne_nil_of (show 0 < r.size by omega)]) w), fun w => rparse_neg_point_bad s u hs h0 h45 hu hus n k H hk' k1 k2 n2 t HT hts' t0 b47 b46 v HV hvs' m c H2 hc' hct c2 m2 r HR P HP p1 p2 p3 (by omega) (pc_false e) e2 w⟩
      · have b46 : ((t[0].toNat : Int) == 46) = false := byte_false t46
        have hn46 : Hid (t.data.toList.head? ≠ some 46) := Lib.hid (by rw [hth]; simpa using t46)
        have q := quot_plain u t hus n k H hk' k1 HT hn47 hn46 hts'
        by_cases e : t.data.toList = [37]
        · exact ⟨mkN (-(n)) 100, mkD (-(n)) 100, mkE (-(n)) 100, parse_neg_ok s u hs (by omega) hh hu n 100 (fun w => q 100 true (by rw [if_pos e]) (by simp [e]) w) k2 (by omega) (by omega) (by omega), fun w => rparse_neg_plain_pc s u hs h0 h45 hu hus n k H hk' k1 k2 n2 t HT hts' t0 b47 b46 (pc_true e) w⟩
        · exact ⟨0, 0, 14, parse_neg_bad s u hs (by omega) hh hu n 1 (fun w => q 1 false (by rw [if_neg e]) (by simp [e, ne_nil_of t0]) w), fun w => rparse_neg_plain_bad s u hs h0 h45 hu hus n k H hk' k1 k2 n2 t HT hts' t0 b47 b46 (pc_false e) (full_facts t0) w⟩
  · have e0 : t.size = 0 := by omega
    have en := nil_of e0
    obtain ⟨e1, e2, e3⟩ := empty_facts e0
    have q := quot_plain u t hus n k H hk' k1 HT (Lib.hid (by rw [en]; simp)) (Lib.hid (by rw [en]; simp)) hts'
    exact ⟨mkN (-(n)) 1, mkD (-(n)) 1, mkE (-(n)) 1, parse_neg_ok s u hs (by omega) hh hu n 1 (fun w => q 1 true (by rw [if_neg (by rw [en]; simp)]) (by simp [en]) w) k2 (by omega) (by omega) (by omega), fun w => rparse_neg_plain s u hs h0 h45 hu hus n k H hk' k1 k2 n2 t HT hts' t0 (by omega) e1 e2 e3 w⟩


theorem main_pos (s : ByteArray) (hs : s.size ≤ 16) (h0 : 0 < s.size) (h45 : ((s[0].toNat : Int) == 45) = false) (hh : Hid ((s.data.toList.head? == some 45) = false)) : ∃ N D E, Gives 44 s N D E ∧ Gives 45 s N D E := by
  obtain ⟨n, k, hnk⟩ : ∃ n k, scanL 0 0 s.data.toList = (n, k) := ⟨_, _, rfl⟩
  obtain ⟨k1, k2, k3⟩ := scan_facts s n k hnk
  have H := Lib.hid hnk
  rcases Nat.eq_zero_or_pos k with hk | hk
  · subst hk
    exact ⟨0, 0, 14, parse_pos_bad s hs hh 0 0 (fun w => quot_none s hs n H w), fun w => rparse_pos_none s hs h0 h45 n H w⟩
  have hk' : 0 < (k : Int) := by omega
  have n2 : n ≤ 10000000000000000 := by have := pow_mono (show k ≤ 16 by omega); omega
  obtain ⟨t, ht⟩ : ∃ t, s.extract k s.size = t := ⟨_, rfl⟩
  have hts : t.size = s.size - k := by rw [← ht, ext_size]
  have hts' : t.size ≤ 16 := by omega
  have HT := Lib.hid ht
  by_cases t0 : 0 < t.size
  · have hth := head_get t t0
    by_cases t47 : t[0] = 47
    · have b47 : ((t[0].toNat : Int) == 47) = true := byte_true t47
      have hh47 : Hid (t.data.toList.head? = some 47) := Lib.hid (by rw [hth, t47])
      obtain ⟨v, hv⟩ : ∃ v, t.extract 1 t.size = v := ⟨_, rfl⟩
      have hvs : v.size = t.size - 1 := by rw [← hv, ext_size]
      have hvs' : v.size ≤ 16 := by omega
      have HV := Lib.hid hv
      obtain ⟨m, c, hmc⟩ : ∃ m c, scanL 0 0 v.data.toList = (m, c) := ⟨_, _, rfl⟩
      obtain ⟨c1, c2, c3⟩ := scan_facts v m c hmc
      have H2 := Lib.hid hmc
      have q := quot_slash s t v hs n m k c H hk' k1 HT hh47 hts' HV hvs' H2
      rcases Nat.eq_zero_or_pos c with hc | hc
      · subst hc
        exact ⟨0, 0, 14, parse_pos_bad s hs hh n m (fun w => q false (by simp) w), fun w => rparse_pos_slash0 s hs h0 h45 n k H hk' k1 k2 n2 t HT hts' t0 b47 v HV hvs' m H2 w⟩
      have m2 : m ≤ 10000000000000000 := by have := pow_mono (show c ≤ 16 by omega); omega
      obtain ⟨r, hr⟩ : ∃ r, t.extract (1 + c) t.size = r := ⟨_, rfl⟩
      have hrs : r.size = t.size - (1 + c) := by rw [← hr, ext_size]
      have HR := Lib.hid hr
      have hc' : 0 < (c : Int) := by omega
      have hct : 1 + c ≤ t.size := by omega
      by_cases hcv : c = v.size
      · obtain ⟨e1, e2, e3⟩ := empty_facts (show r.size = 0 by omega)
        have q := fun w => q true (by simp [hcv] at hc ⊢; omega) w
        by_cases hm : m = 0
        · have mz : (m == 0) = true := by simp [hm]
          refine ⟨0, 0, 19, parse_pos_zero s hs hh n (fun w => by have := q w; rw [hm] at this; exact this) k2 (by omega), fun w => rparse_pos_slash_zero s hs h0 h45 n k H hk' k1 k2 n2 t HT hts' t0 b47 v HV hvs' m c H2 hc' hct c2 m2 r HR e1 e2 e3 mz w⟩
        · have mz : (m == 0) = false := by simp [hm]
          exact ⟨mkN (n) m, mkD (n) m, mkE (n) m, parse_pos_ok s hs hh n m q k2 (by omega) (by omega) (by omega), fun w => rparse_pos_slash s hs h0 h45 n k H hk' k1 k2 n2 t HT hts' t0 b47 v HV hvs' m c H2 hc' hct c2 m2 r HR e1 e2 e3 mz (by omega) w⟩
      · have e2 := full_facts (show 0 < r.size by omega)
        have q := fun w => q false (by simp [hcv]) w
        by_cases e : r.data.toList = [37]
        · exact ⟨0, 0, 14, parse_pos_bad s hs hh n m q, fun w => rparse_pos_slash_bada s hs h0 h45 n k H hk' k1 k2 n2 t HT hts' t0 b47 v HV hvs' m c H2 hc' hct c2 m2 r HR (pc_true e) e2 w⟩
        · exact ⟨0, 0, 14, parse_pos_bad s hs hh n m q, fun w => rparse_pos_slash_badb s hs h0 h45 n k H hk' k1 k2 n2 t HT hts' t0 b47 v HV hvs' m c H2 hc' hct c2 m2 r HR (pc_false e) e2 w⟩
    · have b47 : ((t[0].toNat : Int) == 47) = false := byte_false t47
      have hn47 : Hid (t.data.toList.head? ≠ some 47) := Lib.hid (by rw [hth]; simpa using t47)
      by_cases t46 : t[0] = 46
      · have b46 : ((t[0].toNat : Int) == 46) = true := byte_true t46
        have hh46 : Hid (t.data.toList.head? = some 46) := Lib.hid (by rw [hth, t46])
        obtain ⟨v, hv⟩ : ∃ v, t.extract 1 t.size = v := ⟨_, rfl⟩
        have hvs : v.size = t.size - 1 := by rw [← hv, ext_size]
        have hvs' : v.size ≤ 16 := by omega
        have HV := Lib.hid hv
        obtain ⟨m, c, hmc⟩ : ∃ m c, scanL 0 0 v.data.toList = (m, c) := ⟨_, _, rfl⟩
        obtain ⟨c1, c2, c3⟩ := scan_facts v m c hmc
        have H2 := Lib.hid hmc
        rcases Nat.eq_zero_or_pos c with hc | hc
        · subst hc
          exact ⟨0, 0, 14, parse_pos_bad s hs hh 0 0 (fun w => quot_point0 s t v hs n m k H hk' k1 HT hh46 hts' HV hvs' H2 w), fun w => rparse_pos_point0 s hs h0 h45 n k H hk' k1 k2 n2 t HT hts' t0 b47 b46 v HV hvs' m H2 w⟩
        have m2 : m ≤ 10000000000000000 := by have := pow_mono (show c ≤ 16 by omega); omega
        obtain ⟨r, hr⟩ : ∃ r, t.extract (1 + c) t.size = r := ⟨_, rfl⟩
        have hrs : r.size = t.size - (1 + c) := by rw [← hr, ext_size]
        have HR := Lib.hid hr
        have hr' : v.extract c v.size = r := by
          apply bytes_inj
          rw [ext_drop, ← hv, ext_drop, ← hr, ext_drop, List.drop_drop]
        have HR' := Lib.hid hr'
        have hc' : 0 < (c : Int) := by omega
        have hct : 1 + c ≤ t.size := by omega
        obtain ⟨p1, p2, p3, p4⟩ := pow_prod k2 k3 (show k + c ≤ 15 by omega)
        have q := quot_point s t v r hs n m (10 ^ c) k c H hk' k1 HT hh46 hts' HV hvs' H2 hc' c1 (Lib.hid rfl) (by omega) (by omega) p3 (by omega) c2 m2 HR'
        obtain ⟨P, hP⟩ : ∃ P : Int, (10 : Int) ^ c = P := ⟨_, rfl⟩
        rw [hP] at p1 p2 p3 p4 q
        have HP := Lib.hid hP
        have ps := Int.mul_nonneg k2 (show (0 : Int) ≤ P by omega)
        by_cases e : r.data.toList = [37]
        · exact ⟨mkN (n * P + m) (100 * P), mkD (n * P + m) (100 * P), mkE (n * P + m) (100 * P), parse_pos_ok s hs hh (n * P + m) (100 * P) (fun w => q (100 * P) true (by rw [if_pos e]) (by simp [e]) w) (by omega) (by omega) (by omega) (by omega), fun w => rparse_pos_point_pc s hs h0 h45 n k H hk' k1 k2 n2 t HT hts' t0 b47 b46 v HV hvs' m c H2 hc' hct c2 m2 r HR P HP p1 p2 p3 (by omega) (pc_true e) w⟩
        · by_cases e0 : r.size = 0
          · obtain ⟨e1, e2, e3⟩ := empty_facts e0
            exact ⟨mkN (n * P + m) P, mkD (n * P + m) P, mkE (n * P + m) P, parse_pos_ok s hs hh (n * P + m) P (fun w => q P true (by rw [if_neg e]) (by simp [nil_of e0]) w) (by omega) (by omega) (by omega) (by omega), fun w => rparse_pos_point s hs h0 h45 n k H hk' k1 k2 n2 t HT hts' t0 b47 b46 v HV hvs' m c H2 hc' hct c2 m2 r HR P HP p1 p2 p3 (by omega) e1 e2 e3 w⟩
          · have e2 := full_facts (show 0 < r.size by omega)
            exact ⟨0, 0, 14, parse_pos_bad s hs hh (n * P + m) P (fun w => q P false (by rw [if_neg e]) (by simp [e, ne_nil_of (show 0 < r.size by omega)]) w), fun w => rparse_pos_point_bad s hs h0 h45 n k H hk' k1 k2 n2 t HT hts' t0 b47 b46 v HV hvs' m c H2 hc' hct c2 m2 r HR P HP p1 p2 p3 (by omega) (pc_false e) e2 w⟩
      · have b46 : ((t[0].toNat : Int) == 46) = false := byte_false t46
        have hn46 : Hid (t.data.toList.head? ≠ some 46) := Lib.hid (by rw [hth]; simpa using t46)
        have q := quot_plain s t hs n k H hk' k1 HT hn47 hn46 hts'
        by_cases e : t.data.toList = [37]
        · exact ⟨mkN (n) 100, mkD (n) 100, mkE (n) 100, parse_pos_ok s hs hh n 100 (fun w => q 100 true (by rw [if_pos e]) (by simp [e]) w) k2 (by omega) (by omega) (by omega), fun w => rparse_pos_plain_pc s hs h0 h45 n k H hk' k1 k2 n2 t HT hts' t0 b47 b46 (pc_true e) w⟩
        · exact ⟨0, 0, 14, parse_pos_bad s hs hh n 1 (fun w => q 1 false (by rw [if_neg e]) (by simp [e, ne_nil_of t0]) w), fun w => rparse_pos_plain_bad s hs h0 h45 n k H hk' k1 k2 n2 t HT hts' t0 b47 b46 (pc_false e) (full_facts t0) w⟩
  · have e0 : t.size = 0 := by omega
    have en := nil_of e0
    obtain ⟨e1, e2, e3⟩ := empty_facts e0
    have q := quot_plain s t hs n k H hk' k1 HT (Lib.hid (by rw [en]; simp)) (Lib.hid (by rw [en]; simp)) hts'
    exact ⟨mkN (n) 1, mkD (n) 1, mkE (n) 1, parse_pos_ok s hs hh n 1 (fun w => q 1 true (by rw [if_neg (by rw [en]; simp)]) (by simp [en]) w) k2 (by omega) (by omega) (by omega), fun w => rparse_pos_plain s hs h0 h45 n k H hk' k1 k2 n2 t HT hts' t0 (by omega) e1 e2 e3 w⟩


set_option maxHeartbeats 1000000 in
theorem rparse_empty (s : ByteArray) (hs : s.size = 0) : Gives 45 s 0 0 14 := by
  have h0 : ¬ (0 : Int) < s.size := by omega
  have h0' : ¬ 0 < s.size := by omega
  have h : Hid (scanL 0 0 s.data.toList = (0, 0)) := Lib.hid (by rw [nil_of hs]; rfl)
  intro w
  go_enter Try.func45, Try.ntmps45
  go_wp2_with fail
  refine (rscan_at s (by omega) 0 0 h _).mono ?_
  rintro e w1 ⟨rfl, rfl⟩
  go_wp2_with fail
  refine bodyPost_ret (v := .tuple #[.agg #[.int .i64 0, .int .i64 0], .int .i64 14]) (by simp [results, Try.results45, go_sem, *]) rfl ⟨rfl, by (repeat' (first | (with_reducible exact Below.refl _ _) | (with_reducible assumption) | (with_reducible refine Below.alloc ?_ ?_ _) | (with_reducible refine below_drewN ?_ _) | (with_reducible refine Below.drew ?_) | (with_reducible refine Below.setCell ?_ ?_ _) | go_size))⟩

theorem walk (s : ByteArray) (_hs : s.size ≤ maxLen) (w : World) :
    Calls Try.prog 11 #[.string s] w fun e w' => e = .returned (.bool true) ∧ Below w.heap.size w w' := by
  by_cases hs : s.size ≤ 16
  · by_cases h0 : 0 < s.size
    · have hth := head_get s h0
      by_cases h45 : s[0] = 45
      · have b45 : ((s[0].toNat : Int) == 45) = true := byte_true h45
        have hh : Hid ((s.data.toList.head? == some 45) = true) := Lib.hid (by rw [hth, h45]; rfl)
        obtain ⟨u, hu⟩ : ∃ u, s.extract 1 s.size = u := ⟨_, rfl⟩
        have hus : u.size = s.size - 1 := by rw [← hu, ext_size]
        obtain ⟨N, D, E, hp, hr⟩ := main_neg s u hs h0 b45 hh (Lib.hid hu) (by omega)
        exact law_same s hs N D E hp hr w
      · have b45 : ((s[0].toNat : Int) == 45) = false := byte_false h45
        have hh : Hid ((s.data.toList.head? == some 45) = false) := Lib.hid (head_ne s 45 (by rw [hth]; simpa using h45))
        obtain ⟨N, D, E, hp, hr⟩ := main_pos s hs h0 b45 hh
        exact law_same s hs N D E hp hr w
    · have e0 : s.size = 0 := by omega
      have hh : Hid ((s.data.toList.head? == some 45) = false) := Lib.hid (by rw [nil_of e0]; rfl)
      have h : Hid (scanL 0 0 s.data.toList = (0, 0)) := Lib.hid (by rw [nil_of e0]; rfl)
      exact law_same s hs 0 0 14 (parse_pos_bad s hs hh 0 0 (fun w => quot_none s hs 0 h w)) (rparse_empty s e0) w
  · exact law_long s hs w

set_option maxRecDepth 100000 in
theorem lifted (os : Os) (started : os.Started) (H : Type) (enc : TypeId × Value → H) :
    ReturnsInHanded {} Try.checked os 11 .any (Rows.fractionParsesSpec.pre6 enc Try.prog Try.f11 Rows.fractionParsesRow.domain false) (Rows.fractionParsesSpec.post enc Try.prog Try.f11 false true false false) := by
  refine returnsInHanded_of_change (C := Try.checked) own started (by kernel_rfl) Try.func11
    (ChangeSpec.witness6 (enc := enc) (C := Try.checked) false ⟨#[], #[.string ByteArray.empty], []⟩ 8 (by kernel_rfl) (by kernel_rfl) (by kernel_rfl) (by kernel_rfl)) ?_
  intro W base args ds gs before hval0 hW _ _
  have hval : ∀ (j : Nat) t v, Try.f11.params[j]? = some t → args[j]? = some v → Value.okWide Try.prog W .any base t v := hval0
  have hW' := hW
  obtain ⟨p, q, hA0, hV, rfl, _, _⟩ := hW
  have hA : DataW.TrodAll enc Try.prog W 0 (fun _ => true) true Try.f11.params.toList args.toList ds p := hA0
  rw [Try.params11] at hA hval
  obtain ⟨v0, vs0, d0, ds0, p0, q0, hargs0, rfl, rfl, h0, r0⟩ := trodAll_cons hA
  obtain ⟨rfl, rfl, rfl⟩ := trodAll_nil r0
  obtain rfl : args = #[v0] := by cases args; simp_all
  obtain ⟨rfl, rfl⟩ := trodVars_none hV
  obtain ⟨s0, rfl, rfl, rfl, ws0⟩ := Go.ChangeMaps.open_string Try.underlying9 (hval 0 9 v0 rfl rfl) h0
  clear hA0 hval0
  simp only [List.append_nil] at hW'
  refine (walk s0 ws0 W).mono fun e W' ⟨he, hb⟩ => ?_
  subst he
  exact ⟨_, rfl, post_plain hW' hb (fun _ _ _ => trodAll_mk1 (shut_bool Try.underlying4 _)) (fun sp => trodAll_cons_mk (Go.ChangeMaps.shut_string Try.underlying9 ws0) trodAll_mk0) (fun _ => rfl) (ok_one (by kernel_rfl) rfl (okWide_bool_mk Try.underlying4 _))⟩

theorem proved : Rows.FractionParsesSaid :=
  OpenClaim.holds_of_wide 11 Try.f11 rfl rfl rfl rfl rfl rfl rfl ⟨rfl, rfl, rfl, rfl, rfl⟩ rfl rfl rfl rfl rfl (by kernel_rfl) Try.func11 (by kernel_rfl)
    (of_decide_eq_true (by kernel_rfl)) (by unfold Func.isWrapper; first | (rw [if_pos (by decide +kernel)]; kernel_rfl) | (rw [if_neg (by decide +kernel)]; exact ⟨rfl, rfl⟩))
    (fun os started H enc _ => lifted os started H enc)

end Go.Proofs.Ytmhheepnojbgoaa.lawParses
