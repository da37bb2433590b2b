/- The program's Keep, and the reference's. -/
import Derived.Test.YtjkpjcklfpmcnaaKp
import Derived.Maps.Own
import Derived.Maps.OwnOps
import Derived.Maps.Views
import Derived.Maps.Keyed
namespace Go.Proofs.Ytjkpjcklfpmcnaa
open Go.ChangeShapes Go.WideShapes Go.ChangeAt Go.RowKit Dp Go.Maps

theorem law_int : Keyed Try.prog 3 := int_keyed Try.underlying3
theorem zero_bool (w : World) : (zeroValue 4).run Try.prog w = .ok (.bool false) w := by kernel_rfl
theorem bool_inv {H : Type} {P : Program} {e : TypeId} (he : P.underlying e = some .bool) {v : Value} {z : DataW H × List MemPlace} (h : plainElem P e v = some z) : ∃ x, v = .bool x ∧ z = (.lit (.bool x), []) := by
  unfold plainElem at h
  rw [he] at h
  cases v <;> simp at h
  exact ⟨_, rfl, h.symm⟩
/-- A look-up at elements that are bools. -/
theorem wpList_lookup_bool {H : Type} {P : Program} (w : World) {ops : Array Oper} {rest : List Oper} {o : Oper} {a : Act} {Q : Exit → Act → World → Prop}
    (hg : o.guard = none) (m x : Operand) (t : TypeId) (hop : o.op = Op.lookup t m x false)
    (k e : TypeId) (K : Keyed P k) (ht : P.underlying t = some (.map k e)) (he : P.underlying e = some .bool) (hz : (zeroValue e).run P w = .ok (.bool false) w) (b n : Nat) (D : DataW H)
    (hm : a.eval m = .map (some b)) (hown : w.ownsMap P k (plainElem P e) b n D) (key : Value) (kl : Lit) (hx : a.eval x = key) (hkey : keyOf P k key = some kl)
    (c : Bool) (hc : D.atKey kl (.lit (.bool false)) = .lit (.bool c)) (hK : wpList P ops Q rest (a.put o.dst (.bool c)) w) :
    wpList P ops Q (o :: rest) a w := by
  refine wpList_plain hg fun K' hK' => ?_
  obtain ⟨v, ps, hrun, hv⟩ := hown.lookup K ht hz (plainElem_bool he false) hkey
  obtain ⟨x', rfl, hx'⟩ := bool_inv he hv
  simp only [Prod.mk.injEq] at hx'
  rw [hc] at hx'
  have e1 : c = x' := by
    have := hx'.1
    injection this with this
    injection this
  subst e1
  unfold Oper.wp
  simp [execOp, hop, hm, hx, hrun, Result.andThen]
  exact hK' _ _ hK
theorem wf_i64 {n : Int} (h1 : 0 ≤ n) (h2 : n ≤ 1000000) : (Lit.int .i64 n).wf = true := by
  simp [Lit.wf, IntKind.min, IntKind.max, IntKind.signed, IntKind.bits]; omega
theorem row_ne_map {H : Type} {w : World} {P : Program} {k : TypeId} {R : Value → Option (DataW H × List MemPlace)} {b n : Nat} {D : DataW H} {base e m : Nat} {v : Value} {xs : List Value} (h : w.ownsRow base e 1 v m xs) (hm : w.ownsMap P k R b n D) : some b ≠ v.ownBlock := by
  obtain ⟨es, clock, hb, _⟩ := hm
  rcases h.2 with ⟨rfl, _⟩ | ⟨g, cap, cur, rfl, _, hg, _⟩
  · simp [Value.ownBlock]
  · intro e
    have : b = g := by simpa [Value.ownBlock] using e
    subst this
    rw [hb] at hg; cases hg
theorem row_ne_row {w : World} {base e e' m m' : Nat} {v v' : Value} {xs xs' : List Value} (h : w.ownsRow base e 1 v m xs) (h' : w.ownsRow base e' 1 v' m' xs') (hne : e ≠ e') : v.ownBlock = none ∨ v.ownBlock ≠ v'.ownBlock := by
  rcases h.2 with ⟨rfl, _⟩ | ⟨g, cap, cur, rfl, _, hg, _⟩
  · exact .inl rfl
  · refine .inr fun e => ?_
    rcases h'.2 with ⟨rfl, _⟩ | ⟨g', cap', cur', rfl, _, hg', _⟩
    · simp [Value.ownBlock] at e
    · have : g = g' := by simpa [Value.ownBlock] using e
      subst this
      rw [hg] at hg'
      injection hg' with hg'
      injection hg' with _ ht
      exact hne ht
theorem below_map {B : Nat} {a w w' : World} {g : Nat} (h : Below B a w) (k : w.grownBy w' (some g)) (hB : B ≤ g) (hs : B ≤ a.heap.size) : Below B a w' :=
  ⟨k.os.trans h.os, k.tape.trans h.tape, k.output.trans h.output, Nat.le_trans h.size k.size, fun i hi => (k.block i (by have := h.size; omega) (fun e => by injection e with e; omega)).trans (h.block i hi)⟩
/-- The map says of each number whether it is among the codes. -/
def Says (Dm : DataW Unit) (U : List Int) : Prop := IsMap Dm ∧ ∀ c : Int, Dm.atKey (.int .i64 c) (.lit (.bool false)) = .lit (.bool (decide (c ∈ U)))
theorem says_nil : Says (.map []) [] := ⟨isMap_empty, fun c => by simp [DataW.atKey]⟩
theorem says_put {Dm : DataW Unit} {U : List Int} (h : Says Dm U) (u : Int) : Says (Dm.put (.int .i64 u) (.lit (.bool true))) (U ++ [u]) := by
  refine ⟨h.1.put _ _, fun c => ?_⟩
  by_cases e : c = u
  · subst e
    rw [atKey_put_same h.1 (by trivial)]
    simp
  · rw [atKey_put_other (by intro e2; injection e2 with _ e3; exact e e3), h.2 c]
    simp [e]
/-- What Keep returns. -/
def OutK (w : World) (e : Ending) (R : List ByteArray) (X : List Int) (E : Int) : Prop :=
  ∃ A c A2 c2, e = .returned (.tuple #[.slice A R.length c, .slice A2 X.length c2, .int .i64 E]) ∧ R.length ≤ c ∧ X.length ≤ c2 ∧ Rd Value.string w A R ∧ Rd (Value.int .i64) w A2 X
theorem ne_si : (9 : TypeId) ≠ 3 := by decide
theorem row_beside {w w' : World} {base m m' : Nat} {v v' : Value} {xs xs' : List Value} {o : Obj} {e e' : TypeId} (h : w.ownsRow base e 1 v m xs) (h' : w.ownsRow base e' 1 v' m' xs') (hne : e ≠ e') (hg : (w.alloc o).grownBy w' v'.ownBlock) : w'.ownsRow base e 1 v m xs :=
  World.ownsRow.kept (h.alloc o) hg (row_ne_row (h.alloc o) (h'.alloc o) hne)
theorem map_beside {H : Type} {w w' : World} {P : Program} {k : TypeId} {R : Value → Option (DataW H × List MemPlace)} {b n : Nat} {D : DataW H} {base e m : Nat} {v : Value} {xs : List Value} {o : Obj} (h : w.ownsMap P k R b n D) (h' : w.ownsRow base e 1 v m xs) (hg : (w.alloc o).grownBy w' v.ownBlock) : w'.ownsMap P k R b n D :=
  World.ownsMap.kept (h.alloc o) hg (row_ne_map (h'.alloc o) (h.alloc o))
def KeepPost (w w' : World) (e : Ending) (L : List ByteArray) (U : List Int) : Prop :=
  OutK w' e (if fe (stE L) U = 0 then kp L U L.length else []) (if fe (stE L) U = 0 then frL L U L.length else []) (fe (stE L) U) ∧ Below w.heap.size w w'
set_option maxRecDepth 100000 in
set_option maxHeartbeats 2000000 in
theorem keep_any (A B : Option Addr) (c d : Nat) (L : List ByteArray) (U : List Int) (hL : L.length ≤ 4096) (hU : U.length ≤ 100000) (w : World) (hR : Rd Value.string w A L) (hR2 : Rd (Value.int .i64) w B U) :
    Calls Try.prog 35 #[.slice A L.length c, .slice B U.length d] w fun e w' => KeepPost w w' e L U := by
  have HR := Lib.hid hR
  have HR2 := Lib.hid hR2
  have hmm := @run_makeMap Try.prog
  obtain ⟨i0, hi0, hz0, hz1, hz2⟩ := info_parts int_info
  obtain ⟨j0, hj0, hy0, hy1, hy2⟩ := info_parts str_info
  have Hi0 := Lib.hid hi0
  have Hz0 := Lib.hid hz0
  have Hz1 := Lib.hid hz1
  have Hz2 := Lib.hid hz2
  have Hj0 := Lib.hid hj0
  have Hy0 := Lib.hid hy0
  have Hy1 := Lib.hid hy1
  have Hy2 := Lib.hid hy2
  clear hR hR2 hi0 hz0 hz1 hz2 hj0 hy0 hy1 hy2
  go_enter Try.func35, Try.ntmps35
  go_wp2_with fail
  clear hmm
  go_loopw [4, 5, 15] (fun v4 v5 i wr => ∃ k : Nat, k ≤ U.length ∧ i = .int .i64 k ∧ v4 = .slice none 0 0 ∧ v5 = .slice none 0 0 ∧ (∃ Dm, Hid (wr.ownsMap Try.prog 3 (plainElem Try.prog 4) w.heap.size k Dm) ∧ Hid (Says Dm (U.take k))) ∧ Hid (Below w.heap.size w wr) ∧ Hid (∀ j, j < k → ∀ hj : j < U.length, stE L U[j] = 0)) (fun _ _ i _ => U.length - (intOf i).toNat)
  case atStart => exact ⟨0, Nat.zero_le _, rfl, rfl, rfl, ⟨_, Lib.hid (World.ownsMap_made _ _ _ _), Lib.hid says_nil⟩, Lib.hid ((Below.refl _ _).alloc (Nat.le_refl _) _), Lib.hid (fun j hj => absurd hj (by omega))⟩
  case round =>
    obtain ⟨k, hk, rfl, rfl, rfl, ⟨Dm, hown, hsays⟩, hB, hall⟩ := hrel
    by_cases hlt : k < U.length
    · obtain ⟨b, off, rfl, hb, hc⟩ := (HR2.out.below hB.out) k hlt
      have HH := Lib.hid (fe_hit (stE L) U k hall.out hlt)
      have HT : Hid (U.take (k + 1) = U.take k ++ [U[k]]) := Lib.hid (List.take_succ_eq_append_getElem hlt)
      obtain ⟨x, hxe⟩ : ∃ x, x = U[k] := ⟨_, rfl⟩
      have Hx := Lib.hid hxe
      rw [← hxe] at hc HH HT
      clear hxe
      cases hi : ixB x L.length with
      | false =>
        have hcall := isIndex_any x L.length wr
        rw [hi] at hcall
        have hE : stE L x = 2 := by unfold stE; rw [hi, if_neg (by decide)]
        have he : fe (stE L) U = 2 := by rw [HH.out (by rw [hE]; decide), hE]
        have He := Lib.hid he
        clear hi hE he
        go_wp2_with (go_at_call 55; refine hcall.mono ?_; rintro e w' ⟨rfl, rfl⟩)
        go_ret3
        refine ⟨?_, hB.out⟩
        rw [He.out, if_neg (by decide), if_neg (by decide)]
        exact ⟨none, 0, none, 0, rfl, Nat.le_refl _, Nat.le_refl _, Rd.nil, Rd.nil⟩
      | true =>
        have hcall := isIndex_any x L.length wr
        rw [hi] at hcall
        have hE : stE L x = 0 := by unfold stE; rw [if_pos hi]
        have HE := Lib.hid hE
        obtain ⟨m, rfl, hm⟩ := ixB_nat hi
        have hkey : keyOf Try.prog 3 (.int .i64 (m : Int)) = some (.int .i64 (m : Int)) := keyOf_int_mk Try.underlying3 (wf_i64 (by omega) (by omega))
        have HK := Lib.hid hkey
        clear hi hE hkey
        go_wp2_with (first | (go_at_call 55; refine hcall.mono ?_; rintro e w' ⟨rfl, rfl⟩) | (at_mapUpdate; refine wpList_mapUpdate_own _ rfl _ _ _ 70 rfl 3 4 law_int Try.underlying70 _ w.heap.size k _ rfl hown.out (by unfold maxLen; omega) _ _ _ rfl rfl HK.out _ [] (plainElem_bool Try.underlying4 true) ?_; intro w1 hown1 hgrow1))
        have HO1 := Lib.hid hown1
        have HB1 := Lib.hid (below_map hB.out hgrow1 (Nat.le_refl _) (Nat.le_refl _))
        clear hown1 hgrow1
        go_wp2_with fail
        go_roundw
        case rel =>
          refine ⟨k + 1, by omega, by go_num, rfl, rfl, ⟨_, HO1, ?_⟩, HB1, Lib.hid (fun j hj hj2 => ?_)⟩
          · rw [HT.out]; exact Lib.hid (says_put hsays.out _)
          · by_cases e : j = k
            · subst e; rw [← Hx.out]; exact HE.out
            · exact hall.out j (by omega) hj2
        case measure => simp [intOf]; omega
    · obtain rfl : k = U.length := by omega
      rw [List.take_length] at hsays
      have He : Hid (fe (stE L) U = 0) := Lib.hid (fe_all _ _ hall.out)
      clear hall hlt hk
      obtain ⟨n0, hn0⟩ : ∃ n0, n0 = U.length := ⟨_, rfl⟩
      rw [← hn0] at hown
      clear hn0
      have hM0 := Lib.hid hown
      clear hown
      go_wp2_with fail
      go_loopw [4, 5, 29] (fun v1 v2 i wr => ∃ k n : Nat, k ≤ L.length ∧ n ≤ k ∧ i = .int .i64 k ∧ Hid (wr.ownsMap Try.prog 3 (plainElem Try.prog 4) w.heap.size n0 Dm) ∧ Hid (wr.ownsRow w.heap.size 9 1 v1 n ((kp L U k).map Value.string)) ∧ Hid (wr.ownsRow w.heap.size 3 1 v2 k ((frL L U k).map (Value.int .i64))) ∧ Hid (Below w.heap.size w wr)) (fun _ _ i _ => L.length - (intOf i).toNat)
      case atStart => exact ⟨0, 0, Nat.zero_le _, Nat.le_refl _, rfl, hM0, Lib.hid ⟨by simp [kp], .inl ⟨rfl, rfl⟩⟩, Lib.hid ⟨by simp [frL], .inl ⟨rfl, rfl⟩⟩, hB⟩
      case round =>
        clear hB hM0
        obtain ⟨k, n, hk, hn, rfl, hM, hO1, hO2, hB⟩ := hrel
        by_cases hlt : k < L.length
        · obtain ⟨b, off, rfl, hb, hc⟩ := (HR.out.below hB.out) k hlt
          have hkey : keyOf Try.prog 3 (.int .i64 (k : Int)) = some (.int .i64 (k : Int)) := keyOf_int_mk Try.underlying3 (wf_i64 (by omega) (by omega))
          have HK := Lib.hid hkey
          have hA := hsays.out.2 (k : Int)
          have hT : kp L U (k + 1) = kp L U k ++ (if (k : Int) ∈ U then [L.getD k ByteArray.empty] else []) := rfl
          have hF := frL_succ L U k
          unfold frA at hF
          have hl1 : (kp L U k).length = n := by have := hO1.out.1; simpa using this
          rw [hl1] at hF
          rw [getD_at L k hlt] at hT
          obtain ⟨x, hxe⟩ : ∃ x, x = L[k] := ⟨_, rfl⟩
          rw [← hxe] at hc hT
          clear hkey hxe hl1
          obtain ⟨A1, c1, rfl, hc1⟩ := own_slice hO1.out
          by_cases hu : (k : Int) ∈ U
          · rw [if_pos hu] at hT hF
            rw [decide_eq_true hu] at hA
            have HA := Lib.hid hA
            have HT := Lib.hid hT
            have HF := Lib.hid hF
            clear hA hT hF hu
            go_wp2_with (first
              | (at_lookup; refine wpList_lookup_bool _ rfl _ _ 70 rfl 3 4 law_int Try.underlying70 Try.underlying4 (zero_bool _) w.heap.size n0 Dm rfl hM.out _ _ rfl HK.out true HA.out ?_)
              | (at_builtin; refine wpList_append_one rfl (.tmp 41) (.tmp 44) 31 rfl w.heap.size 3 i0 _ 8 Try.underlying31 Hi0.out Hz0.out Hz1.out Hz2.out rfl u5 k _ rfl (hO2.out.alloc _) wr.heap.size 1 (.int .i64 (n : Int)) rfl ?_ rfl ?_ ?_ ?_ ?_; exact (by simp [go_sem]); exact (by omega); exact (by omega); exact (by have := hB.out.size; simp; omega); intro v2 w2 hown2 hg2; have HX2 := Lib.hid hown2; have HX1 := Lib.hid (row_beside hO1.out hO2.out ne_si hg2); have HXM := Lib.hid (map_beside hM.out hO2.out hg2); have HXB := Lib.hid (below_grownBy (B := w.heap.size) (a := w) (hB.out.alloc hB.out.size (.cells #[.int .i64 (n : Int)] 3)) (hO2.out.alloc _) hg2 (Nat.le_refl _) (Nat.le_refl _)); clear hown2 hg2)
              | (at_builtin; refine wpList_append_one rfl (.tmp 46) (.tmp 48) 22 rfl w.heap.size 9 j0 _ 16 Try.underlying22 Hj0.out Hy0.out Hy1.out Hy2.out rfl (.slice A1 n c1) n _ rfl (HX1.out.alloc _) w2.heap.size 1 (.string x) rfl ?_ rfl ?_ ?_ ?_ ?_; exact (by simp [go_sem]); exact (by omega); exact (by omega); exact (by have := HXB.out.size; simp; omega); intro v3 w3 hown3 hg3; have HY1 := Lib.hid hown3; have HY2 := Lib.hid (row_beside HX2.out HX1.out (Ne.symm ne_si) hg3); have HYM := Lib.hid (map_beside HXM.out HX1.out hg3); have HYB := Lib.hid (below_grownBy (B := w.heap.size) (a := w) (HXB.out.alloc HXB.out.size (.cells #[.string x] 9)) (HX1.out.alloc _) hg3 (Nat.le_refl _) (Nat.le_refl _)); clear hown3 hg3))
            go_roundw
            case rel => exact ⟨k + 1, n + 1, by omega, by omega, by go_num, HYM, by rw [HT.out, List.map_append]; exact HY1, by rw [HF.out, List.map_append]; exact HY2, HYB⟩
            case measure => simp [intOf]; omega
          · rw [if_neg hu] at hT hF
            rw [decide_eq_false hu] at hA
            have HA := Lib.hid hA
            have HT := Lib.hid hT
            have HF := Lib.hid hF
            clear hA hT hF hu
            go_wp2_with (first
              | (at_lookup; refine wpList_lookup_bool _ rfl _ _ 70 rfl 3 4 law_int Try.underlying70 Try.underlying4 (zero_bool _) w.heap.size n0 Dm rfl hM.out _ _ rfl HK.out false HA.out ?_)
              | (at_builtin; refine wpList_append_one rfl (.tmp 38) (.tmp 39) 31 rfl w.heap.size 3 i0 _ 8 Try.underlying31 Hi0.out Hz0.out Hz1.out Hz2.out rfl u5 k _ rfl (hO2.out.alloc _) wr.heap.size 1 (.int .i64 (-1)) rfl ?_ rfl ?_ ?_ ?_ ?_; exact (by simp [go_sem]); exact (by omega); exact (by omega); exact (by have := hB.out.size; simp; omega); intro v2 w2 hown2 hg2; have HX2 := Lib.hid hown2; have HX1 := Lib.hid (row_beside hO1.out hO2.out ne_si hg2); have HXM := Lib.hid (map_beside hM.out hO2.out hg2); have HXB := Lib.hid (below_grownBy (B := w.heap.size) (a := w) (hB.out.alloc hB.out.size (.cells #[.int .i64 (-1)] 3)) (hO2.out.alloc _) hg2 (Nat.le_refl _) (Nat.le_refl _)); clear hown2 hg2))
            go_roundw
            case rel => exact ⟨k + 1, n, by omega, by omega, by go_num, HXM, by rw [HT.out, List.append_nil]; exact HX1, by rw [HF.out, List.map_append]; exact HX2, HXB⟩
            case measure => simp [intOf]; omega
        · obtain rfl : k = L.length := by omega
          obtain ⟨A1, c1, rfl, hc1, hr1⟩ := out_own hO1.out
          obtain ⟨A2, c2, rfl, hc2, hr2⟩ := out_own hO2.out
          have HR1 := Lib.hid hr1
          have HR3 := Lib.hid hr2
          clear hr1 hr2 hsays hM hO1 hO2
          obtain ⟨n1, hn1⟩ : ∃ n1, n1 = (kp L U L.length).length := ⟨_, rfl⟩
          obtain ⟨n2, hn2⟩ : ∃ n2, n2 = (frL L U L.length).length := ⟨_, rfl⟩
          have E1 := Lib.hid hn1
          have E2 := Lib.hid hn2
          rw [← hn1] at hc1 ⊢
          rw [← hn2] at hc2 ⊢
          clear hn1 hn2
          go_wp2_with fail
          go_ret3
          refine ⟨?_, hB.out⟩
          rw [He.out, if_pos rfl, if_pos rfl]
          exact ⟨A1, c1, A2, c2, by rw [← E1.out, ← E2.out]; rfl, by rw [← E1.out]; exact hc1, by rw [← E2.out]; exact hc2, HR1.out, HR3.out⟩
end Go.Proofs.Ytjkpjcklfpmcnaa
