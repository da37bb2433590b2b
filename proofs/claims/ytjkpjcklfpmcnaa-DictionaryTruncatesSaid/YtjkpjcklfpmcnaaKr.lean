/- The reference's Keep. -/
import Derived.Test.YtjkpjcklfpmcnaaKk
namespace Go.Proofs.Ytjkpjcklfpmcnaa
open Go.ChangeShapes Go.WideShapes Go.ChangeAt Go.RowKit Dp

/-- What the reference's Keep leaves behind. -/
def KeepRef (w w' : World) (e : Ending) (L : List ByteArray) (U : List Int) : Prop :=
  Out Value.string w' e (if fe (stE L) U = 0 then kp L U L.length else []) (fe (stE L) U) ∧ Below w.heap.size w w'
theorem stV_size {D : List ByteArray} (hs : ∀ x ∈ D, x.size ≤ 255) (u : Int) : (stV D u).size ≤ 255 := by
  unfold stV List.getD
  cases h : D[u.toNat]? with
  | none => decide
  | some x => exact hs x (List.mem_of_getElem? h)
theorem map_stV {D : List ByteArray} (hs : ∀ x ∈ D, x.size ≤ 255) (U : List Int) : ∀ x ∈ U.map (stV D), x.size ≤ 255 := fun x hx => by
  obtain ⟨u, _, rfl⟩ := List.mem_map.1 hx
  exact stV_size hs u
theorem kept_build {D : List ByteArray} (hS : Srt D) (hs : ∀ x ∈ D, x.size ≤ 255) (hl : D.length ≤ 4096) {U : List Int} (h : fe (stE D) U = 0) : bdE (U.map (stV D)) = 0 ∧ bdV (U.map (stV D)) = kp D U D.length := by
  have hk := kept_bld hS h
  have := kp_len D U D.length
  have o := bdE_ok (map_stV hs U) (by rw [hk]; omega)
  exact ⟨o.1, o.2.trans hk⟩
set_option maxRecDepth 100000 in
set_option maxHeartbeats 1000000 in
theorem rkeep_any (A B : Option Addr) (c d : Nat) (D : List ByteArray) (U : List Int) (hS : Srt D) (hs : ∀ x ∈ D, x.size ≤ 255) (hL : D.length ≤ 4096) (hU : U.length ≤ 100000) (w : World) (hR : Rd Value.string w A D) (hR2 : Rd (Value.int .i64) w B U) :
    Calls Try.prog 36 #[.slice A D.length c, .slice B U.length d] w fun e w' => KeepRef w w' e D U := by
  have h1 := rstrings_any A B c d D U (by omega) hU w hR hR2
  by_cases h : fe (stE D) U = 0
  · have hr : res (stE D) (stV D) U = U.map (stV D) := by unfold res; rw [if_pos h]
    rw [hr, h] at h1
    have hb := fun X x W => rbuild_any X x (U.map (stV D)) (by rw [List.length_map]; omega) (fun y hy => by have := map_stV hs U y hy; omega) W
    rw [(kept_build hS hs hL h).1, (kept_build hS hs hL h).2] at hb
    have hP : ∀ e w', (Out Value.string w' e (kp D U D.length) 0 ∧ Below w.heap.size w w') → KeepRef w w' e D U := fun e w' g => by
      unfold KeepRef; rw [h, if_pos rfl]; exact g
    obtain ⟨N, hN⟩ : ∃ N, N = U.map (stV D) := ⟨_, rfl⟩
    obtain ⟨K, hK⟩ : ∃ K, K = kp D U D.length := ⟨_, rfl⟩
    rw [← hN] at h1 hb
    rw [← hK] at hb hP
    clear hr hN hK hR hR2 hS hs
    have HB := Lib.hid hb
    have HP := Lib.hid hP
    clear hb hP h
    go_enter Try.func36, Try.ntmps36
    go_wp2_with fail
    refine h1.mono ?_
    rintro e w1 ⟨⟨A1, c1, rfl, hc1, hr1⟩, hB1⟩
    have HB1 := Lib.hid hB1
    have HR1 := Lib.hid hr1
    clear hB1 hr1 h1
    go_wp2_with fail
    refine (HB.out A1 c1 w1 HR1.out).mono ?_
    rintro e w2 ⟨⟨A2, c2, rfl, hc2, _, hr2⟩, hB2⟩
    have HB2 := Lib.hid (below_to HB1.out hB2)
    have HR2 := Lib.hid hr2
    clear hB2 hr2
    go_wp2_with fail
    go_ret2
    exact HP.out _ _ ⟨⟨A2, c2, rfl, hc2, HR2.out⟩, HB2.out⟩
  · obtain h2 : fe (stE D) U = 2 := (fe_st D U).resolve_left h
    have hr : res (stE D) (stV D) U = [] := by unfold res; rw [if_neg h]
    rw [hr, h2] at h1
    have hP : ∀ e w', (Out Value.string w' e [] 2 ∧ Below w.heap.size w w') → KeepRef w w' e D U := fun e w' g => by
      unfold KeepRef; rw [h2, if_neg (by decide)]; exact g
    have HP := Lib.hid hP
    clear hP h h2 hr hR hR2 hS hs
    go_enter Try.func36, Try.ntmps36
    go_wp2_with fail
    refine h1.mono ?_
    rintro e w1 ⟨⟨A1, c1, rfl, hc1, hr1⟩, hB1⟩
    have HB1 := Lib.hid hB1
    clear hB1 hr1 h1
    go_wp2_with fail
    go_ret2
    exact HP.out _ _ ⟨⟨none, 0, rfl, Nat.le_refl _, Rd.nil⟩, HB1.out⟩
end Go.Proofs.Ytjkpjcklfpmcnaa
