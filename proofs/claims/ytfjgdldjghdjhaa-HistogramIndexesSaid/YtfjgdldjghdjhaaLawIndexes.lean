/- HistogramIndexes: for every value the law returns true. No condition. -/
import Derived.Test.YtfjgdldjghdjhaaHi
namespace Go.Proofs.Ytfjgdldjghdjhaa.lawIndexes
open Go.ChangeShapes Go.WideShapes Go.ChangeAt Go.RowKit Go.Joins

set_option maxRecDepth 100000 in
set_option maxHeartbeats 2000000 in
theorem walk_bad (w : World) (v : Int) (h : v < 0 ∨ 1099511627776 < v) :
    Calls Try.prog 3 #[.int .i64 v] w fun e w' => e = .returned (.bool true) ∧ Below w.heap.size w w' := by
  have HI := Lib.hid (fun W => index_bad v h W)
  by_cases h0 : v < 0
  · have d0 : decide (v < 0) = true := by simpa using h0
    clear h
    go_enter Try.func3, Try.ntmps3
    go_wp2_with fail
    refine (known_any _).mono ?_
    rintro e w1 ⟨rfl, hb⟩
    have HB1 := Lib.hid hb
    clear hb
    go_wp2_with (go_at_call 13; refine (HI.out _).mono ?_; rintro e w' ⟨rfl, rfl⟩)
    go_ret
    exact ⟨rfl, HB1.out⟩
  · have d0 : decide (v < 0) = false := by simpa using h0
    have d1 : decide (1099511627776 < v) = true := by simp; omega
    clear h
    go_enter Try.func3, Try.ntmps3
    go_wp2_with fail
    refine (known_any _).mono ?_
    rintro e w1 ⟨rfl, hb⟩
    have HB1 := Lib.hid hb
    clear hb
    go_wp2_with (go_at_call 13; refine (HI.out _).mono ?_; rintro e w' ⟨rfl, rfl⟩)
    go_ret
    exact ⟨rfl, HB1.out⟩
set_option maxRecDepth 100000 in
set_option maxHeartbeats 2000000 in
theorem walk_zero (w : World) (v : Nat) (h : v ≤ 1099511627776) (hz : v = 0)  (hn : ix v < 16) :
    Calls Try.prog 3 #[.int .i64 (v : Int)] w fun e w' => e = .returned (.bool true) ∧ Below w.heap.size w w' := by
  have HI := Lib.hid (fun W => index_ok v h W)
  have HL := Lib.hid (fun W => lindex_any v h W)
  have h5 := ix_lt v h
  have HB := Lib.hid (fun W => bounds_ok (ix v) h5 W)
  obtain ⟨hin1, hin2⟩ := ix_in v h
  have hhi := (lo_le_hi (ix v) h5).2
  have hlo : loN (ix v) = ix v := if_pos hn
  have hhi2 : hiN (ix v) = ix v := if_pos hn
  have hnI : ((ix v : Nat) : Int) < 16 := by omega
  have hnG : ¬ (16 : Int) ≤ ((ix v : Nat) : Int) := by omega
  rw [hlo, hhi2] at HB
  rw [hlo] at hin1
  rw [hhi2] at hin2
  obtain ⟨n, hnn⟩ : ∃ n, n = ix v := ⟨_, rfl⟩
  rw [← hnn] at HI HL HB h5 hnI hnG hin1 hin2
  subst hz
  obtain rfl : n = 0 := by omega
  clear h hn hnn hlo hhi2 hhi hin1 hin2 h5 hnI hnG
  rw [show (((0 : Nat) : Int)) = 0 from rfl] at HI HL HB ⊢
  go_enter Try.func3, Try.ntmps3
  go_wp2_with fail
  refine (known_any _).mono ?_
  rintro e w1 ⟨rfl, hb⟩
  have HB1 := Lib.hid hb
  clear hb
  go_wp2_with (first
    | (go_at_call 13; (with_reducible refine (HI.out _).mono ?_); rintro e w' ⟨rfl, rfl⟩)
    | (go_at_call 14; refine (HB.out _).mono ?_; rintro e w2 ⟨rfl, hb⟩; have HB2 := Lib.hid (HB1.out.trans (hb.mono HB1.out.size)); clear hb)
    | (go_at_call 15; refine (HL.out _).mono ?_; rintro e w' ⟨rfl, rfl⟩))
  go_ret
  exact ⟨rfl, HB2.out⟩
set_option maxRecDepth 100000 in
set_option maxHeartbeats 2000000 in
theorem walk_ss (w : World) (v : Nat) (h : v ≤ 1099511627776) (hz : 0 < v) (hs : ix (v - 1) = ix v) (hn : ix v < 16) :
    Calls Try.prog 3 #[.int .i64 (v : Int)] w fun e w' => e = .returned (.bool true) ∧ Below w.heap.size w w' := by
  have HI := Lib.hid (fun W => index_ok v h W)
  have HL := Lib.hid (fun W => lindex_any v h W)
  have h5 := ix_lt v h
  have HB := Lib.hid (fun W => bounds_ok (ix v) h5 W)
  obtain ⟨hin1, hin2⟩ := ix_in v h
  have hhi := (lo_le_hi (ix v) h5).2
  have hlo : loN (ix v) = ix v := if_pos hn
  have hhi2 : hiN (ix v) = ix v := if_pos hn
  have hnI : ((ix v : Nat) : Int) < 16 := by omega
  have hnG : ¬ (16 : Int) ≤ ((ix v : Nat) : Int) := by omega
  rw [hlo, hhi2] at HB
  rw [hlo] at hin1
  rw [hhi2] at hin2
  have HI2 := Lib.hid (fun W => index_ok (v - 1) (by omega) W)
  rw [show ((v - 1 : Nat) : Int) = (v : Int) - 1 by omega] at HI2
  rw [hs] at HI2
  obtain ⟨n, hnn⟩ : ∃ n, n = ix v := ⟨_, rfl⟩
  rw [← hnn] at HI HL HB h5 hnI hnG hin1 hin2 HI2
  have hvI : (v : Int) ≤ 1099511627776 := by omega
  have hv1 : (1 : Int) ≤ (v : Int) := by omega
  have hvz : ((v : Int) == 0) = false := by simp; omega
  have hvn : v = n := by omega
  subst hvn
  clear h hn hlo hhi2 hin1 hin2 hz hnn hs
  go_enter Try.func3, Try.ntmps3
  go_wp2_with fail
  refine (known_any _).mono ?_
  rintro e w1 ⟨rfl, hb⟩
  have HB1 := Lib.hid hb
  clear hb
  go_wp2_with (first
    | (go_at_call 13; (with_reducible refine (HI.out _).mono ?_); rintro e w' ⟨rfl, rfl⟩)
    | (go_at_call 13; (with_reducible refine (HI2.out _).mono ?_); rintro e w' ⟨rfl, rfl⟩)
    | (go_at_call 14; refine (HB.out _).mono ?_; rintro e w2 ⟨rfl, hb⟩; have HB2 := Lib.hid (HB1.out.trans (hb.mono HB1.out.size)); clear hb)
    | (go_at_call 15; refine (HL.out _).mono ?_; rintro e w' ⟨rfl, rfl⟩))
  go_ret
  exact ⟨rfl, HB2.out⟩
set_option maxRecDepth 100000 in
set_option maxHeartbeats 2000000 in
theorem walk_ns (w : World) (v : Nat) (h : v ≤ 1099511627776) (hz : 0 < v) (hs : ix (v - 1) + 1 = ix v ∧ v = loN (ix v)) (hn : ix v < 16) :
    Calls Try.prog 3 #[.int .i64 (v : Int)] w fun e w' => e = .returned (.bool true) ∧ Below w.heap.size w w' := by
  have HI := Lib.hid (fun W => index_ok v h W)
  have HL := Lib.hid (fun W => lindex_any v h W)
  have h5 := ix_lt v h
  have HB := Lib.hid (fun W => bounds_ok (ix v) h5 W)
  obtain ⟨hin1, hin2⟩ := ix_in v h
  have hhi := (lo_le_hi (ix v) h5).2
  have hlo : loN (ix v) = ix v := if_pos hn
  have hhi2 : hiN (ix v) = ix v := if_pos hn
  have hnI : ((ix v : Nat) : Int) < 16 := by omega
  have hnG : ¬ (16 : Int) ≤ ((ix v : Nat) : Int) := by omega
  rw [hlo, hhi2] at HB
  rw [hlo] at hin1
  rw [hhi2] at hin2
  have HI2 := Lib.hid (fun W => index_ok (v - 1) (by omega) W)
  rw [show ((v - 1 : Nat) : Int) = (v : Int) - 1 by omega] at HI2
  obtain ⟨hs1, hs2⟩ := hs
  rw [hlo] at hs2
  obtain ⟨n, hnn⟩ : ∃ n, n = ix v := ⟨_, rfl⟩
  rw [← hnn] at HI HL HB h5 hnI hnG hin1 hin2 hs1 hs2
  obtain ⟨m, hm⟩ : ∃ m, m = ix (v - 1) := ⟨_, rfl⟩
  rw [← hm] at HI2 hs1
  have hvI : (v : Int) ≤ 1099511627776 := by omega
  have hv1 : (1 : Int) ≤ (v : Int) := by omega
  have hvz : ((v : Int) == 0) = false := by simp; omega
  have hvn : v = n := by omega
  subst hvn
  have hmm : (m : Int) = (v : Int) - 1 := by omega
  have hne : (((m : Nat) : Int) == ((v : Nat) : Int)) = false := by simp; omega
  rw [hmm] at HI2 hne
  clear h hn hlo hhi2 hin1 hin2 hz hnn hs1 hm
  go_enter Try.func3, Try.ntmps3
  go_wp2_with fail
  refine (known_any _).mono ?_
  rintro e w1 ⟨rfl, hb⟩
  have HB1 := Lib.hid hb
  clear hb
  go_wp2_with (first
    | (go_at_call 13; (with_reducible refine (HI.out _).mono ?_); rintro e w' ⟨rfl, rfl⟩)
    | (go_at_call 13; (with_reducible refine (HI2.out _).mono ?_); rintro e w' ⟨rfl, rfl⟩)
    | (go_at_call 14; refine (HB.out _).mono ?_; rintro e w2 ⟨rfl, hb⟩; have HB2 := Lib.hid (HB1.out.trans (hb.mono HB1.out.size)); clear hb)
    | (go_at_call 15; refine (HL.out _).mono ?_; rintro e w' ⟨rfl, rfl⟩))
  go_ret
  exact ⟨rfl, HB2.out⟩
set_option maxRecDepth 100000 in
set_option maxHeartbeats 2000000 in
theorem walk_sg (w : World) (v : Nat) (h : v ≤ 1099511627776) (hz : 0 < v) (hs : ix (v - 1) = ix v) (hn : 16 ≤ ix v) :
    Calls Try.prog 3 #[.int .i64 (v : Int)] w fun e w' => e = .returned (.bool true) ∧ Below w.heap.size w w' := by
  have HI := Lib.hid (fun W => index_ok v h W)
  have HL := Lib.hid (fun W => lindex_any v h W)
  have h5 := ix_lt v h
  have HB := Lib.hid (fun W => bounds_ok (ix v) h5 W)
  obtain ⟨hin1, hin2⟩ := ix_in v h
  have hhi := (lo_le_hi (ix v) h5).2
  have hna := narrow (ix v) hn
  have hnI : ¬ ((ix v : Nat) : Int) < 16 := by omega
  have hnG : (16 : Int) ≤ ((ix v : Nat) : Int) := by omega
  obtain ⟨lo, hlo⟩ : ∃ lo, lo = loN (ix v) := ⟨_, rfl⟩
  obtain ⟨hi, hhi2⟩ : ∃ hi, hi = hiN (ix v) := ⟨_, rfl⟩
  rw [← hlo] at HB hin1 hna
  rw [← hhi2] at HB hin2 hna hhi
  have HI2 := Lib.hid (fun W => index_ok (v - 1) (by omega) W)
  rw [show ((v - 1 : Nat) : Int) = (v : Int) - 1 by omega] at HI2
  rw [hs] at HI2
  obtain ⟨n, hnn⟩ : ∃ n, n = ix v := ⟨_, rfl⟩
  rw [← hnn] at HI HL HB h5 hnI hnG HI2
  have hvI : (v : Int) ≤ 1099511627776 := by omega
  have hv1 : (1 : Int) ≤ (v : Int) := by omega
  have hvz : ((v : Int) == 0) = false := by simp; omega
  have g1 : (lo : Int) ≤ (v : Int) := by omega
  have g2 : (v : Int) ≤ (hi : Int) := by omega
  have g3 : (hi : Int) ≤ 1099511627776 := by omega
  have g4 : decide ((lo : Int) < 8 * ((hi : Int) - (lo : Int) + 1)) = false := by simp; omega
  have g5 : decide ((v : Int) < (lo : Int)) = false := by simp; omega
  have g6 : decide ((hi : Int) < (v : Int)) = false := by simp; omega
  have g7 : (n : Int) < 305 := by omega
  clear h hn hlo hhi2 hin1 hin2 hz hna hhi hnn hs
  go_enter Try.func3, Try.ntmps3
  go_wp2_with fail
  refine (known_any _).mono ?_
  rintro e w1 ⟨rfl, hb⟩
  have HB1 := Lib.hid hb
  clear hb
  go_wp2_with (first
    | (go_at_call 13; (with_reducible refine (HI.out _).mono ?_); rintro e w' ⟨rfl, rfl⟩)
    | (go_at_call 13; (with_reducible refine (HI2.out _).mono ?_); rintro e w' ⟨rfl, rfl⟩)
    | (go_at_call 14; refine (HB.out _).mono ?_; rintro e w2 ⟨rfl, hb⟩; have HB2 := Lib.hid (HB1.out.trans (hb.mono HB1.out.size)); clear hb)
    | (go_at_call 15; refine (HL.out _).mono ?_; rintro e w' ⟨rfl, rfl⟩))
  go_ret
  exact ⟨rfl, HB2.out⟩
set_option maxRecDepth 100000 in
set_option maxHeartbeats 2000000 in
theorem walk_ng (w : World) (v : Nat) (h : v ≤ 1099511627776) (hz : 0 < v) (hs : ix (v - 1) + 1 = ix v ∧ v = loN (ix v)) (hn : 16 ≤ ix v) :
    Calls Try.prog 3 #[.int .i64 (v : Int)] w fun e w' => e = .returned (.bool true) ∧ Below w.heap.size w w' := by
  have HI := Lib.hid (fun W => index_ok v h W)
  have HL := Lib.hid (fun W => lindex_any v h W)
  have h5 := ix_lt v h
  have HB := Lib.hid (fun W => bounds_ok (ix v) h5 W)
  obtain ⟨hin1, hin2⟩ := ix_in v h
  have hhi := (lo_le_hi (ix v) h5).2
  have hna := narrow (ix v) hn
  have hnI : ¬ ((ix v : Nat) : Int) < 16 := by omega
  have hnG : (16 : Int) ≤ ((ix v : Nat) : Int) := by omega
  obtain ⟨lo, hlo⟩ : ∃ lo, lo = loN (ix v) := ⟨_, rfl⟩
  obtain ⟨hi, hhi2⟩ : ∃ hi, hi = hiN (ix v) := ⟨_, rfl⟩
  rw [← hlo] at HB hin1 hna
  rw [← hhi2] at HB hin2 hna hhi
  have HI2 := Lib.hid (fun W => index_ok (v - 1) (by omega) W)
  rw [show ((v - 1 : Nat) : Int) = (v : Int) - 1 by omega] at HI2
  obtain ⟨hs1, hs2⟩ := hs
  rw [← hlo] at hs2
  obtain ⟨n, hnn⟩ : ∃ n, n = ix v := ⟨_, rfl⟩
  rw [← hnn] at HI HL HB h5 hnI hnG hs1
  obtain ⟨m, hm⟩ : ∃ m, m = ix (v - 1) := ⟨_, rfl⟩
  rw [← hm] at HI2 hs1
  have hvI : (v : Int) ≤ 1099511627776 := by omega
  have hv1 : (1 : Int) ≤ (v : Int) := by omega
  have hvz : ((v : Int) == 0) = false := by simp; omega
  have g1 : (lo : Int) ≤ (v : Int) := by omega
  have g2 : (v : Int) ≤ (hi : Int) := by omega
  have g3 : (hi : Int) ≤ 1099511627776 := by omega
  have g4 : decide ((lo : Int) < 8 * ((hi : Int) - (lo : Int) + 1)) = false := by simp; omega
  have g5 : decide ((v : Int) < (lo : Int)) = false := by simp; omega
  have g6 : decide ((hi : Int) < (v : Int)) = false := by simp; omega
  have g7 : (n : Int) < 305 := by omega
  have hmm : (m : Int) = (n : Int) - 1 := by omega
  have hne : (((m : Nat) : Int) == ((n : Nat) : Int)) = false := by simp; omega
  rw [hmm] at HI2 hne
  clear h hn hlo hhi2 hin1 hin2 hz hna hhi hnn hs1 hm
  subst hs2
  go_enter Try.func3, Try.ntmps3
  go_wp2_with fail
  refine (known_any _).mono ?_
  rintro e w1 ⟨rfl, hb⟩
  have HB1 := Lib.hid hb
  clear hb
  go_wp2_with (first
    | (go_at_call 13; (with_reducible refine (HI.out _).mono ?_); rintro e w' ⟨rfl, rfl⟩)
    | (go_at_call 13; (with_reducible refine (HI2.out _).mono ?_); rintro e w' ⟨rfl, rfl⟩)
    | (go_at_call 14; refine (HB.out _).mono ?_; rintro e w2 ⟨rfl, hb⟩; have HB2 := Lib.hid (HB1.out.trans (hb.mono HB1.out.size)); clear hb)
    | (go_at_call 15; refine (HL.out _).mono ?_; rintro e w' ⟨rfl, rfl⟩))
  go_ret
  exact ⟨rfl, HB2.out⟩
theorem walk (w : World) (v : Int) (_wv : (Lit.int .i64 v).wf = true) :
    Calls Try.prog 3 #[.int .i64 v] w fun e w' => e = .returned (.bool true) ∧ Below w.heap.size w w' := by
  by_cases h : v < 0 ∨ 1099511627776 < v
  · exact walk_bad w v h
  · obtain ⟨k, rfl⟩ : ∃ k : Nat, v = (k : Int) := ⟨v.toNat, by omega⟩
    have hk : k ≤ 1099511627776 := by omega
    by_cases hz : k = 0
    · exact walk_zero w k hk hz (by subst hz; decide +kernel)
    · by_cases hn : ix k < 16
      · rcases ix_next k (by omega) hk with hs | hs
        · exact walk_ss w k hk (by omega) hs hn
        · exact walk_ns w k hk (by omega) hs hn
      · rcases ix_next k (by omega) hk with hs | hs
        · exact walk_sg w k hk (by omega) hs (by omega)
        · exact walk_ng w k hk (by omega) hs (by omega)
set_option maxRecDepth 100000 in
theorem lifted (os : Os) (started : os.Started) (H : Type) (enc : TypeId × Value → H) :
    ReturnsInHanded {} Try.checked os 3 .any (Rows.histogramIndexesSpec.pre6 enc Try.prog Try.f3 Rows.histogramIndexesRow.domain false) (Rows.histogramIndexesSpec.post enc Try.prog Try.f3 false true false false) := by
  refine returnsInHanded_of_change (C := Try.checked) own started (by kernel_rfl) Try.func3
    (ChangeSpec.witness6 (enc := enc) (C := Try.checked) false ⟨#[], #[.int .i64 0], []⟩ 8 (by kernel_rfl) (by kernel_rfl) (by kernel_rfl) (by kernel_rfl)) ?_
  intro W base args ds gs before hval0 hW _ _
  have hval : ∀ (j : Nat) t v, Try.f3.params[j]? = some t → args[j]? = some v → Value.okWide Try.prog W .any base t v := hval0
  have hW' := hW
  obtain ⟨p, q, hA0, hV, rfl, _, _⟩ := hW
  have hA : DataW.TrodAll enc Try.prog W 0 (fun _ => true) true Try.f3.params.toList args.toList ds p := hA0
  rw [Try.params3] at hA hval
  obtain ⟨v0, vs0, d0, ds0, p0, q0, hargs0, rfl, rfl, h0, r0⟩ := trodAll_cons hA
  obtain ⟨rfl, rfl, rfl⟩ := trodAll_nil r0
  obtain rfl : args = #[v0] := by cases args; simp_all
  obtain ⟨rfl, rfl⟩ := trodVars_none hV
  obtain ⟨a0, rfl, rfl, rfl, wa0⟩ := open_int Try.underlying3 (hval 0 3 v0 rfl rfl) h0
  clear hA0 hval0
  simp only [List.append_nil] at hW'
  refine (walk W a0 wa0).mono fun e W' ⟨he, hb⟩ => ?_
  subst he
  exact ⟨_, rfl, post_mem hW' hb (fun _ _ _ => trodAll_mk1 (shut_bool Try.underlying4 _)) (fun _ _ => by
    exact trodAll_cons_mk (shut_int Try.underlying3 wa0) trodAll_mk0) (fun _ => rfl) (ok_one (by kernel_rfl) rfl (okWide_bool_mk Try.underlying4 _))⟩

theorem proved : Rows.HistogramIndexesSaid :=
  OpenClaim.holds_of_wide 3 Try.f3 rfl rfl rfl rfl rfl rfl rfl ⟨rfl, rfl, rfl, rfl, rfl⟩ rfl rfl rfl rfl rfl (by kernel_rfl) Try.func3 (by kernel_rfl)
    (of_decide_eq_true (by kernel_rfl)) (by unfold Func.isWrapper; first | (rw [if_pos (by decide +kernel)]; kernel_rfl) | (rw [if_neg (by decide +kernel)]; exact ⟨rfl, rfl⟩))
    (fun os started H enc _ => lifted os started H enc)

end Go.Proofs.Ytfjgdldjghdjhaa.lawIndexes
