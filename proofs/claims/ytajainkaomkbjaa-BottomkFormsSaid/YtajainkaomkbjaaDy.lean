/- Union and Overlap of any two sketches; kept, to the value. -/
import Derived.Test.YtajainkaomkbjaaDx
namespace Go.Proofs.Ytajainkaomkbjaa
open Go.ChangeShapes Go.WideShapes Go.ChangeAt Go.RowKit Go.Joins Bt

/-- Whether one of the first j keys is k. -/
def anK (L : List Ky) (k : Ky) (j : Nat) : Bool := (L.take j).any (fun x => decide (x = k))
theorem anK_succ (L : List Ky) (k : Ky) (j : Nat) (h : j < L.length) : anK L k (j + 1) = (anK L k j || decide (L[j] = k)) := by
  unfold anK; rw [List.take_succ_eq_append_getElem h, List.any_append]; simp
/-- Whether a list has a key. -/
def inS (L : List Ky) (k : Ky) : Bool := anK L k L.length
theorem inS_iff (L : List Ky) (k : Ky) : inS L k = true ↔ k ∈ L := by
  unfold inS anK; rw [List.take_length, List.any_eq_true]; simp
theorem srt_find {d : List Ky} (h : Srt d) (k : Ky) : decide (d[lw d k]? = some k) = inS d k := by
  rw [Bool.eq_iff_iff, inS_iff, decide_eq_true_iff]
  constructor
  · exact List.mem_of_getElem?
  · intro hk
    obtain ⟨j, hj, rfl⟩ := List.mem_iff_getElem.1 hk
    have e : lw d d[j] = j := lw_eq d d[j] j (by omega) (fun i hi hi2 => srt_get h hi hj) (fun _ => kl_irrefl _)
    rw [e, List.getElem?_eq_getElem hj]
/-- How many of the first j keys both lists have. -/
def cnB (a b X : List Ky) (j : Nat) : Nat := ((X.take j).filter (fun k => inS a k && inS b k)).length
theorem cnB_succ (a b X : List Ky) (j : Nat) (h : j < X.length) : cnB a b X (j + 1) = cnB a b X j + if (inS a X[j] && inS b X[j]) = true then 1 else 0 := by
  unfold cnB
  rw [List.take_succ_eq_append_getElem h, List.filter_append, List.length_append]
  congr 1
  by_cases hh : (inS a X[j] && inS b X[j]) = true <;> simp [hh]
theorem cnB_le (a b X : List Ky) (j : Nat) : cnB a b X j ≤ j := by
  unfold cnB
  refine Nat.le_trans (List.length_filter_le _ _) ?_
  rw [List.length_take]; omega
theorem ovC_cnB {a b : List Ky} (ha : Srt a) (hb : Srt b) (X : List Ky) (j : Nat) : ovC a b X j = cnB a b X j := by
  unfold ovC cnB
  congr 2
  funext k
  unfold inB
  rw [srt_find ha, srt_find hb]
theorem cnB_comm (a b X : List Ky) (j : Nat) : cnB a b X j = cnB b a X j := by
  unfold cnB
  congr 2
  funext k
  rw [Bool.and_comm]
theorem cnB_self (a : List Ky) (j : Nat) (hj : j ≤ a.length) : cnB a a a j = j := by
  unfold cnB
  have e : (a.take j).filter (fun k => inS a k && inS a k) = a.take j := List.filter_eq_self.2 (fun k hk => by rw [Bool.and_self]; exact (inS_iff _ _).2 (List.mem_of_mem_take hk))
  rw [e, List.length_take]; omega
/-- The share of the keys that two sets have in common. -/
def shN (n : Nat) (S T : List Ky) : Nat := if ((mrg S T).take n).length = 0 then 0 else cnB (S.take n) (T.take n) ((mrg S T).take n) ((mrg S T).take n).length * 1000000 / ((mrg S T).take n).length
theorem shN_comm {n : Nat} {S T : List Ky} (hS : Srt S) (hT : Srt T) : shN n T S = shN n S T := by
  unfold shN
  rw [mrg_comm hT hS, cnB_comm]
theorem shN_self {n : Nat} (hn : 0 < n) {S : List Ky} (hS : Srt S) : shN n S S = if S.length = 0 then 0 else 1000000 := by
  unfold shN
  rw [mrg_self hS, cnB_self _ _ (Nat.le_refl _)]
  have h1 : (S.take n).length = 0 ↔ S.length = 0 := by rw [List.length_take]; omega
  by_cases h : S.length = 0
  · rw [if_pos h, if_pos (h1.2 h)]
  · rw [if_neg h, if_neg (fun e => h (h1.1 e))]
    exact Nat.mul_div_cancel_left _ (by have := mt h1.1 h; omega)
set_option maxRecDepth 100000 in
theorem overlap_all (g h n : Nat) (sd : Int) (hn : n ≤ 1024) (S T : List Ky) (hS : Srt S) (hT : Srt T) (w : World) (hk : Sk w g n sd (skt n S)) (hk2 : Sk w h n sd (skt n T)) :
    Calls Try.prog 33 #[.pointer (some ⟨g, 0, none⟩), .pointer (some ⟨h, 0, none⟩)] w fun e w' => e = .returned (.tuple #[.int .i64 ((shN n S T : Nat) : Int), .int .i64 0]) ∧ Below w.heap.size w w' := by
  refine (overlap_any g h n sd hn (skt n S) (skt n T) (skt_len n S) (skt_len n T) (skt_srt hS n) (skt_srt hT n) w hk hk2 (skt n (mrg S T)).1 (skt n (mrg S T)).2 (kep_mrg n S T) (by have := skt_len n (mrg S T); omega)).mono ?_
  rintro e w' ⟨rfl, hb⟩
  refine ⟨?_, hb⟩
  rw [ovC_cnB (skt_srt hS n) (skt_srt hT n)]
  show Ending.returned (.tuple #[.int .i64 (if ((mrg S T).take n).length = 0 then (0 : Int) else ((cnB (S.take n) (T.take n) ((mrg S T).take n) ((mrg S T).take n).length * 1000000 / ((mrg S T).take n).length : Nat) : Int)), .int .i64 0]) = _
  unfold shN
  split <;> rfl
theorem union_all (g h n : Nat) (sd : Int) (hn0 : 0 < n) (hn : n ≤ 1024) (S T : List Ky) (hb1 : Hb S) (hb2 : Hb T) (w : World) (hk : Sk w g n sd (skt n S)) (hk2 : Sk w h n sd (skt n T)) :
    Calls Try.prog 32 #[.pointer (some ⟨g, 0, none⟩), .pointer (some ⟨h, 0, none⟩)] w fun e w' => e = .returned (.tuple #[.int .i64 ((dstN n (mrg S T) : Nat) : Int), .int .i64 0]) ∧ Below w.heap.size w w' := by
  have HU := Lib.hid (union_ok g h n sd hn (skt n S) (skt n T) (skt_len n S) (skt_len n T) w hk hk2)
  rw [kep_mrg] at HU
  have HD := Lib.hid (fun W hs => distinct_any w.heap.size n sd hn0 hn (mrg S T) (hb_mrg hb1 hb2) W hs)
  obtain ⟨D, hD⟩ : ∃ D, D = dstN n (mrg S T) := ⟨_, rfl⟩
  rw [← hD] at HD ⊢
  clear hk hk2 hD
  go_enter Try.func32, Try.ntmps32
  go_wp2_with fail
  with_reducible refine HU.out.mono ?_
  rintro e w1 ⟨rfl, hsk, hb⟩
  have HB := Lib.hid hb
  have HS := Lib.hid hsk
  clear hb hsk
  go_wp2_with fail
  with_reducible refine (HD.out _ HS.out).mono ?_
  rintro e w2 ⟨rfl, hb⟩
  have HB2 := Lib.hid (bz_call HB.out hb)
  clear hb
  go_wp2_with fail
  go_ret2
  exact ⟨rfl, HB2.out⟩
set_option maxRecDepth 100000 in
theorem kept_val (n : Nat) (sd : Int) (A : Option Addr) (l c : Nat) (hlc : l ≤ c) (w : World) :
    Calls Try.prog 26 #[.agg #[.int .i64 (n : Int), .int .i64 sd, .slice A l c]] w fun e w' => e = .returned (.slice A (min l n) c) ∧ Below w.heap.size w w' := by
  have HB : Hid (∀ v, Below w.heap.size w (w.alloc (.cells v 28))) := Lib.hid (fun v => (Below.refl _ _).alloc (Nat.le_refl _) _)
  obtain ⟨m, hm⟩ : ∃ m, m = min l n := ⟨_, rfl⟩
  rw [← hm]
  have hmI : min (l : Int) (n : Int) = (m : Int) := by omega
  have hmc : (m : Int) ≤ (c : Int) := by omega
  have hm0 : (0 : Int) ≤ (m : Int) := by omega
  clear hm
  go_enter Try.func26, Try.ntmps26
  go_wp2_with fail
  go_ret
  exact ⟨rfl, HB.out _⟩
end Go.Proofs.Ytajainkaomkbjaa
