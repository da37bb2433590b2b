/- The reference's Codes, Strings and Remap: lists that are appended to. -/
import Derived.Test.YtoohphhfigiicaaF
import Derived.Laws.AppendOwn
namespace Go.Proofs.Ytoohphhfigiicaa
open Go.ChangeShapes Go.WideShapes Go.ChangeAt Go.RowKit Dp

theorem own_below {w w' : World} {base e n : Nat} {v : Value} {xs : List Value} (h : w.ownsRow base e 1 v n xs) (hb : Below w.heap.size w w') : w'.ownsRow base e 1 v n xs :=
  World.ownsRow.kept (row := none) h ⟨hb.os, hb.tape, hb.output, hb.size, fun k hk _ => hb.block k hk⟩ (Classical.em _)
section
variable {P : Program} {w : World}
/-- append of one element, which lies in a block of one cell, to a row of the call's own. -/
theorem wpList_append_one {ops : Array Oper} {rest : List Oper} {o : Oper} {a : Act} {Q : Exit → Act → World → Prop} (hg : o.guard = none) (s x : Operand) (t : TypeId)
    (ho : o.op = .call { callee := .builtin .append, args := #[s, x], argTypes := #[t, t] })
    (base : Nat) (e : TypeId) (i : TypeInfo) (z : Value) (bytes : Nat) (ht : P.underlying t = some (.slice e)) (hi : P.info? e = some i) (hz : i.zero = some z)
    (hsize : i.size = 1) (hby : i.bytes = bytes) (hzs : z.cells.size = 1)
    (v : Value) (n : Nat) (xs : List Value) (hs : a.eval s = v) (hown : w.ownsRow base e 1 v n xs)
    (g c : Nat) (u : Value) (hx : a.eval x = .slice (some ⟨g, 0, none⟩) 1 c) (hu : w.cell? ⟨g, 0, none⟩ = some u) (h1 : u.oneCell' = true)
    (hn : n ≤ 1000000) (hb : bytes ≤ 1000000) (hbase : base ≤ w.heap.size)
    (h : ∀ v' w', w'.ownsRow base e 1 v' (n + 1) (xs ++ [u]) → w.grownBy w' v.ownBlock → wpList P ops Q rest (a.put o.dst v') w') : wpList P ops Q (o :: rest) a w := by
  refine wpList_append_own w hg s x t ho base e i z 1 bytes ht hi hz hsize hby hzs (by omega) v n xs hs hown ⟨g, 0, none⟩ 1 c [u] hx (by simp) (fun j y hy => ?_) (fun y hy => ?_) (by unfold maxLen; omega) ?_ hbase (fun v' w' h2 h3 _ => h v' w' h2 h3)
  · cases j with
    | zero => simp at hy; subst hy; exact hu
    | succ j => simp at hy
  · simp at hy; subst hy; exact h1
  · have := Nat.mul_le_mul (show n + 1 ≤ 1000001 by omega) hb
    omega
end
theorem below_grownBy {a w w' : World} {B base : Nat} {e n : Nat} {v : Value} {xs : List Value} (h : Below B a w) (hown : w.ownsRow base e 1 v n xs) (hg : w.grownBy w' v.ownBlock) (hB : B ≤ base) (hs : B ≤ a.heap.size) : Below B a w' := by
  refine ⟨hg.os.trans h.os, hg.tape.trans h.tape, hg.output.trans h.output, Nat.le_trans h.size hg.size, fun k hk => (hg.block k (by have := h.size; omega) (fun e => ?_)).trans (h.block k hk)⟩
  rcases hown.2 with ⟨rfl, _⟩ | ⟨g, cap, cur, rfl, hbase, _⟩
  · simp [Value.ownBlock] at e
  · simp [Value.ownBlock] at e; omega


theorem own_nil (w : World) (e : TypeId) : w.ownsRow w.heap.size e 1 (.slice none 0 0) 0 [] := ⟨by simp, .inl ⟨rfl, rfl⟩⟩
/-- A row of the call's own as a result. -/
theorem out_own {α : Type} {enc : α → Value} {w' : World} {base e n : Nat} {v : Value} {R : List α} (h : w'.ownsRow base e 1 v n (R.map enc)) : ∃ A c, v = .slice A R.length c ∧ R.length ≤ c ∧ Rd enc w' A R := by
  obtain ⟨A, c, rfl, hc⟩ := own_slice h
  have hn : n = R.length := by have := h.1; simpa using this.symm
  subst hn
  exact ⟨A, c, rfl, hc, Rd.own h⟩

set_option maxRecDepth 100000 in
set_option maxHeartbeats 1000000 in
theorem rcodes_any (A B : Option Addr) (c d : Nat) (L : List ByteArray) (M : List ByteArray) (hL : L.length ≤ 1000000) (hM : M.length ≤ 100000) (w : World) (hR : Rd Value.string w A L) (hR2 : Rd Value.string w B M) :
    Calls Try.prog 29 #[.slice A L.length c, .slice B M.length d] w fun e w' => Out (Value.int .i64) w' e (res (cdE L) (cdV L) M) (fe (cdE L) M) ∧ Below w.heap.size w w' := by
  obtain ⟨i0, hi0, hz0, hz1, hz2⟩ := info_parts int_info
  have Hi0 := Lib.hid hi0
  have Hz0 := Lib.hid hz0
  have Hz1 := Lib.hid hz1
  have Hz2 := Lib.hid hz2
  have HR := Lib.hid hR
  have HR2 := Lib.hid hR2
  clear hR hR2 hi0 hz0 hz1 hz2
  go_enter Try.func29, Try.ntmps29
  go_wp2_with fail
  go_loopw [6, 7] (fun v i wr => ∃ k : Nat, k ≤ M.length ∧ i = .int .i64 k ∧ Hid (wr.ownsRow w.heap.size 3 1 v k (((M.take k).map (cdV L)).map (Value.int .i64))) ∧ Hid (Below w.heap.size w wr) ∧ Hid (∀ j, j < k → ∀ hj : j < M.length, cdE L M[j] = 0)) (fun _ i _ => M.length - (intOf i).toNat)
  case atStart => exact ⟨0, Nat.zero_le _, rfl, Lib.hid (own_nil _ _), Lib.hid (Below.refl _ _), Lib.hid (fun j hj => absurd hj (by omega))⟩
  case round =>
    obtain ⟨k, hk, rfl, hO, hB, hall⟩ := hrel
    by_cases hlt : k < M.length
    · obtain ⟨b, off, rfl, hb, hc⟩ := (HR2.out.below hB.out) k hlt
      have HT := Lib.hid (map_take_succ M (cdV L) k hlt)
      have HH := Lib.hid (fe_hit (cdE L) M k hall.out hlt)
      obtain ⟨x, hxe⟩ : ∃ x, x = M[k] := ⟨_, rfl⟩
      have Hx := Lib.hid hxe
      rw [← hxe] at hc HT HH
      clear hxe
      go_wp2_with fail
      refine (rfind_any A c L x hL wr (HR.out.below hB.out)).mono ?_
      rintro e w1 ⟨rfl, hB1⟩
      have HO1 := Lib.hid (own_below hO.out hB1)
      have HB1 := Lib.hid (below_to hB.out hB1)
      clear hB1 hc
      cases hf : fd L x with
      | none =>
        have Hf := Lib.hid hf
        clear hf
        simp only [Option.getD_none, Option.isSome_none]
        go_wp2_with fail
        go_ret2
        have he : fe (cdE L) M = 10 := by
          rw [HH.out (by unfold cdE; rw [Hf.out]; decide)]; unfold cdE; rw [Hf.out]; rfl
        refine ⟨?_, HB1.out⟩
        unfold res
        rw [he, if_neg (by decide)]
        exact ⟨none, 0, rfl, Nat.le_refl _, Rd.nil⟩
      | some m =>
        have Hf := Lib.hid hf
        clear hf
        simp only [Option.getD_some, Option.isSome_some]
        go_wp2_with (at_builtin; refine wpList_append_one rfl (.tmp 27) (.tmp 29) 31 rfl w.heap.size 3 i0 _ 8 Try.underlying31 Hi0.out Hz0.out Hz1.out Hz2.out rfl u6 k _ rfl (HO1.out.alloc _) w1.heap.size 1 (.int .i64 (m : Int)) rfl (by simp [go_sem]) rfl (by omega) (by omega) (by have := HB1.out.size; simp; omega) ?_; intro v2 w2 hown2 hg2)
        have HO := Lib.hid hown2
        have HB := Lib.hid (below_grownBy (B := w.heap.size) (a := w) (HB1.out.alloc HB1.out.size (.cells #[.int .i64 (m : Int)] 3)) (HO1.out.alloc _) hg2 (Nat.le_refl _) (Nat.le_refl _))
        clear hown2 hg2
        go_wp2_with fail
        go_roundw
        case rel =>
          refine ⟨k + 1, by omega, by go_num, ?_, HB, Lib.hid (fun j hj hj2 => ?_)⟩
          · have hv : cdV L x = (m : Int) := by unfold cdV; rw [Hf.out]; rfl
            rw [HT.out, hv, List.map_append]
            exact HO
          · by_cases e : j = k
            · subst e; rw [← Hx.out]; unfold cdE; rw [Hf.out]; rfl
            · exact hall.out j (by omega) hj2
        case measure => simp [intOf]; omega
    · obtain rfl : k = M.length := by omega
      go_wp2_with fail
      go_ret2
      have he : fe (cdE L) M = 0 := fe_all _ _ hall.out
      refine ⟨?_, hB.out⟩
      unfold res
      rw [he, if_pos rfl]
      have h := hO.out
      rw [List.take_length] at h
      obtain ⟨A', c', e', hc', hr'⟩ := out_own h
      exact ⟨A', c', by rw [← e']; rfl, hc', hr'⟩

set_option maxRecDepth 100000 in
set_option maxHeartbeats 1000000 in
theorem rstrings_any (A B : Option Addr) (c d : Nat) (L : List ByteArray) (M : List Int) (_hL : L.length ≤ 1000000) (hM : M.length ≤ 100000) (w : World) (hR : Rd Value.string w A L) (hR2 : Rd (Value.int .i64) w B M) :
    Calls Try.prog 31 #[.slice A L.length c, .slice B M.length d] w fun e w' => Out Value.string w' e (res (stE L) (stV L) M) (fe (stE L) M) ∧ Below w.heap.size w w' := by
  obtain ⟨i0, hi0, hz0, hz1, hz2⟩ := info_parts str_info
  have Hi0 := Lib.hid hi0
  have Hz0 := Lib.hid hz0
  have Hz1 := Lib.hid hz1
  have Hz2 := Lib.hid hz2
  have HR := Lib.hid hR
  have HR2 := Lib.hid hR2
  clear hR hR2 hi0 hz0 hz1 hz2
  go_enter Try.func31, Try.ntmps31
  go_wp2_with fail
  go_loopw [6, 7] (fun v i wr => ∃ k : Nat, k ≤ M.length ∧ i = .int .i64 k ∧ Hid (wr.ownsRow w.heap.size 9 1 v k (((M.take k).map (stV L)).map Value.string)) ∧ Hid (Below w.heap.size w wr) ∧ Hid (∀ j, j < k → ∀ hj : j < M.length, stE L M[j] = 0)) (fun _ i _ => M.length - (intOf i).toNat)
  case atStart => exact ⟨0, Nat.zero_le _, rfl, Lib.hid (own_nil _ _), Lib.hid (Below.refl _ _), Lib.hid (fun j hj => absurd hj (by omega))⟩
  case round =>
    obtain ⟨k, hk, rfl, hO, hB, hall⟩ := hrel
    by_cases hlt : k < M.length
    · obtain ⟨b, off, rfl, hb, hc⟩ := (HR2.out.below hB.out) k hlt
      have HT := Lib.hid (map_take_succ M (stV L) k hlt)
      have HH := Lib.hid (fe_hit (stE L) M k hall.out hlt)
      obtain ⟨x, hxe⟩ : ∃ x, x = M[k] := ⟨_, rfl⟩
      have Hx := Lib.hid hxe
      rw [← hxe] at hc HT HH
      clear hxe
      cases hi : ixB x L.length with
      | false =>
        have hE : stE L x = 2 := by unfold stE; rw [hi, if_neg (by decide)]
        have he : fe (stE L) M = 2 := by rw [HH.out (by rw [hE]; decide), hE]
        have Hout : Hid (∀ e, e = Ending.returned (.tuple #[.slice none 0 0, .int .i64 2]) → Out Value.string wr e (res (stE L) (stV L) M) (fe (stE L) M)) := Lib.hid (by
          intro e he2; subst he2
          unfold res
          rw [he, if_neg (by decide)]
          exact ⟨none, 0, rfl, Nat.le_refl _, Rd.nil⟩)
        clear he hE
        unfold ixB at hi
        by_cases h0 : x < 0
        · clear hi
          go_wp2_with fail
          go_ret2
          exact ⟨Hout.out _ rfl, hB.out⟩
        · have h1 : (L.length : Int) ≤ x := by simp at hi; omega
          clear hi
          go_wp2_with fail
          go_ret2
          exact ⟨Hout.out _ rfl, hB.out⟩
      | true =>
        have Hi := Lib.hid hi
        obtain ⟨m, rfl, hm⟩ := ixB_nat hi
        obtain ⟨b2, off2, rfl, hb2, hc2⟩ := (HR.out.below hB.out) m hm
        have hv : stV L (m : Int) = L[m] := by unfold stV; rw [Int.toNat_natCast]; simp [List.getD, List.getElem?_eq_getElem hm]
        obtain ⟨y, hye⟩ : ∃ y, y = L[m] := ⟨_, rfl⟩
        rw [← hye] at hc2 hv
        have Hv := Lib.hid hv
        clear hi hye hv
        go_wp2_with (at_builtin; refine wpList_append_one rfl (.tmp 28) (.tmp 36) 22 rfl w.heap.size 9 i0 _ 16 Try.underlying22 Hi0.out Hz0.out Hz1.out Hz2.out rfl u6 k _ rfl (hO.out.alloc _) wr.heap.size 1 (Value.string y) rfl (by simp [go_sem]) rfl (by omega) (by omega) (by have := hB.out.size; simp; omega) ?_; intro v2 w2 hown2 hg2)
        have HO := Lib.hid hown2
        have HB := Lib.hid (below_grownBy (B := w.heap.size) (a := w) (hB.out.alloc hB.out.size (.cells #[Value.string y] 9)) (hO.out.alloc _) hg2 (Nat.le_refl _) (Nat.le_refl _))
        clear hown2 hg2
        go_wp2_with fail
        go_roundw
        case rel =>
          refine ⟨k + 1, by omega, by go_num, ?_, HB, Lib.hid (fun j hj hj2 => ?_)⟩
          · rw [HT.out, Hv.out, List.map_append]
            exact HO
          · by_cases e : j = k
            · subst e; rw [← Hx.out]; unfold stE; rw [if_pos Hi.out]
            · exact hall.out j (by omega) hj2
        case measure => simp [intOf]; omega
    · obtain rfl : k = M.length := by omega
      go_wp2_with fail
      go_ret2
      have he : fe (stE L) M = 0 := fe_all _ _ hall.out
      refine ⟨?_, hB.out⟩
      unfold res
      rw [he, if_pos rfl]
      have h := hO.out
      rw [List.take_length] at h
      obtain ⟨A', c', e', hc', hr'⟩ := out_own h
      exact ⟨A', c', by rw [← e']; rfl, hc', hr'⟩

set_option maxRecDepth 100000 in
set_option maxHeartbeats 1000000 in
theorem rremap_any (A B : Option Addr) (c d : Nat) (L : List Int) (M : List Int) (_hL : L.length ≤ 1000000) (hM : M.length ≤ 100000) (w : World) (hR : Rd (Value.int .i64) w A L) (hR2 : Rd (Value.int .i64) w B M) :
    Calls Try.prog 38 #[.slice B M.length d, .slice A L.length c] w fun e w' => Out (Value.int .i64) w' e (res (rmE L) (rmV L) M) (fe (rmE L) M) ∧ Below w.heap.size w w' := by
  obtain ⟨i0, hi0, hz0, hz1, hz2⟩ := info_parts int_info
  have Hi0 := Lib.hid hi0
  have Hz0 := Lib.hid hz0
  have Hz1 := Lib.hid hz1
  have Hz2 := Lib.hid hz2
  have HR := Lib.hid hR
  have HR2 := Lib.hid hR2
  clear hR hR2 hi0 hz0 hz1 hz2
  go_enter Try.func38, Try.ntmps38
  go_wp2_with fail
  go_loopw [6, 7] (fun v i wr => ∃ k : Nat, k ≤ M.length ∧ i = .int .i64 k ∧ Hid (wr.ownsRow w.heap.size 3 1 v k (((M.take k).map (rmV L)).map (Value.int .i64))) ∧ Hid (Below w.heap.size w wr) ∧ Hid (∀ j, j < k → ∀ hj : j < M.length, rmE L M[j] = 0)) (fun _ i _ => M.length - (intOf i).toNat)
  case atStart => exact ⟨0, Nat.zero_le _, rfl, Lib.hid (own_nil _ _), Lib.hid (Below.refl _ _), Lib.hid (fun j hj => absurd hj (by omega))⟩
  case round =>
    obtain ⟨k, hk, rfl, hO, hB, hall⟩ := hrel
    by_cases hlt : k < M.length
    · obtain ⟨b, off, rfl, hb, hc⟩ := (HR2.out.below hB.out) k hlt
      have HT := Lib.hid (map_take_succ M (rmV L) k hlt)
      have HH := Lib.hid (fe_hit (rmE L) M k hall.out hlt)
      obtain ⟨x, hxe⟩ : ∃ x, x = M[k] := ⟨_, rfl⟩
      have Hx := Lib.hid hxe
      rw [← hxe] at hc HT HH
      clear hxe
      cases hi : ixB x L.length with
      | false =>
        have hE : rmE L x = 2 := by unfold rmE; rw [hi, if_neg (by decide)]
        have he : fe (rmE L) M = 2 := by rw [HH.out (by rw [hE]; decide), hE]
        have Hout : Hid (∀ e, e = Ending.returned (.tuple #[.slice none 0 0, .int .i64 2]) → Out (Value.int .i64) wr e (res (rmE L) (rmV L) M) (fe (rmE L) M)) := Lib.hid (by
          intro e he2; subst he2
          unfold res
          rw [he, if_neg (by decide)]
          exact ⟨none, 0, rfl, Nat.le_refl _, Rd.nil⟩)
        clear he hE
        unfold ixB at hi
        by_cases h0 : x < 0
        · clear hi
          go_wp2_with fail
          go_ret2
          exact ⟨Hout.out _ rfl, hB.out⟩
        · have h1 : (L.length : Int) ≤ x := by simp at hi; omega
          clear hi
          go_wp2_with fail
          go_ret2
          exact ⟨Hout.out _ rfl, hB.out⟩
      | true =>
        have Hi := Lib.hid hi
        obtain ⟨m, rfl, hm⟩ := ixB_nat hi
        obtain ⟨b2, off2, rfl, hb2, hc2⟩ := (HR.out.below hB.out) m hm
        have hv : rmV L (m : Int) = L[m] := by unfold rmV; rw [Int.toNat_natCast]; simp [List.getD, List.getElem?_eq_getElem hm]
        obtain ⟨y, hye⟩ : ∃ y, y = L[m] := ⟨_, rfl⟩
        rw [← hye] at hc2 hv
        have Hv := Lib.hid hv
        clear hi hye hv
        by_cases hy : y < 0
        · have hE : rmE L (m : Int) = 10 := by unfold rmE; rw [if_pos Hi.out, Hv.out, if_pos hy]
          have he : fe (rmE L) M = 10 := by rw [HH.out (by rw [hE]; decide), hE]
          have Hout : Hid (∀ e, e = Ending.returned (.tuple #[.slice none 0 0, .int .i64 10]) → Out (Value.int .i64) wr e (res (rmE L) (rmV L) M) (fe (rmE L) M)) := Lib.hid (by
            intro e he2; subst he2
            unfold res
            rw [he, if_neg (by decide)]
            exact ⟨none, 0, rfl, Nat.le_refl _, Rd.nil⟩)
          clear he hE
          go_wp2_with fail
          go_ret2
          exact ⟨Hout.out _ rfl, hB.out⟩
        · go_wp2_with (at_builtin; refine wpList_append_one rfl (.tmp 36) (.tmp 44) 31 rfl w.heap.size 3 i0 _ 8 Try.underlying31 Hi0.out Hz0.out Hz1.out Hz2.out rfl u6 k _ rfl (hO.out.alloc _) wr.heap.size 1 (Value.int .i64 y) rfl (by simp [go_sem]) rfl (by omega) (by omega) (by have := hB.out.size; simp; omega) ?_; intro v2 w2 hown2 hg2)
          have HO := Lib.hid hown2
          have HB := Lib.hid (below_grownBy (B := w.heap.size) (a := w) (hB.out.alloc hB.out.size (.cells #[Value.int .i64 y] 3)) (hO.out.alloc _) hg2 (Nat.le_refl _) (Nat.le_refl _))
          clear hown2 hg2
          go_wp2_with fail
          go_roundw
          case rel =>
            refine ⟨k + 1, by omega, by go_num, ?_, HB, Lib.hid (fun j hj hj2 => ?_)⟩
            · rw [HT.out, Hv.out, List.map_append]
              exact HO
            · by_cases e : j = k
              · subst e; rw [← Hx.out]; unfold rmE; rw [if_pos Hi.out, Hv.out, if_neg (by omega)]
              · exact hall.out j (by omega) hj2
          case measure => simp [intOf]; omega
    · obtain rfl : k = M.length := by omega
      go_wp2_with fail
      go_ret2
      have he : fe (rmE L) M = 0 := fe_all _ _ hall.out
      refine ⟨?_, hB.out⟩
      unfold res
      rw [he, if_pos rfl]
      have h := hO.out
      rw [List.take_length] at h
      obtain ⟨A', c', e', hc', hr'⟩ := out_own h
      exact ⟨A', c', by rw [← e']; rfl, hc', hr'⟩
end Go.Proofs.Ytoohphhfigiicaa
