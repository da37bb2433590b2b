/- slices.Concat of two slices of strings. -/
import Derived.Test.YtoohphhfigiicaaH
import Derived.Shelf.Spec.SlicesGrow
import Derived.Laws.AppendOwnNone
namespace Go.Proofs.Ytoohphhfigiicaa
open Go.ChangeShapes Go.WideShapes Go.ChangeAt Go.RowKit Dp

section
variable {P : Program} {w : World}
/-- append of some elements to a row of the call's own. -/
theorem wpList_append_more {ops : Array Oper} {rest : List Oper} {o : Oper} {a : Act} {Q : Exit → Act → World → Prop} (hg : o.guard = none) (s x : Operand) (t : TypeId)
    (ho : o.op = .call { callee := .builtin .append, args := #[s, x], argTypes := #[t, t] })
    (base : Nat) (e : TypeId) (i : TypeInfo) (z : Value) (bytes : Nat) (ht : P.underlying t = some (.slice e)) (hi : P.info? e = some i) (hz : i.zero = some z)
    (hsize : i.size = 1) (hby : i.bytes = bytes) (hzs : z.cells.size = 1)
    (v : Value) (n : Nat) (xs : List Value) (hs : a.eval s = v) (hown : w.ownsRow base e 1 v n xs)
    (ao : Option Addr) (m c : Nat) (hx : a.eval x = .slice ao m c) (news : List Value) (hl : news.length = m) (hnone : ao = none → m = 0 ∧ c = 0) (hnews : ∀ ad, ao = some ad → ∀ j u, news[j]? = some u → w.cell? (ad.add j) = some u) (h1 : ∀ u ∈ news, u.oneCell' = true)
    (hn : n + m ≤ 1000000) (hb : bytes ≤ 1000000) (hbase : base ≤ w.heap.size)
    (h : ∀ v' w', w'.ownsRow base e 1 v' (n + m) (xs ++ news) → w.grownBy w' v.ownBlock → wpList P ops Q rest (a.put o.dst v') w') : wpList P ops Q (o :: rest) a w := by
  cases ao with
  | some ad =>
    refine wpList_append_own w hg s x t ho base e i z 1 bytes ht hi hz hsize hby hzs (by omega) v n xs hs hown ad m c news hx (by omega) (hnews ad rfl) h1 (by unfold maxLen; omega) ?_ hbase (fun v' w' h2 h3 _ => h v' w' h2 h3)
    have := Nat.mul_le_mul (show n + m ≤ 1000000 by omega) hb
    omega
  | none =>
    obtain ⟨rfl, rfl⟩ := hnone rfl
    obtain rfl : news = [] := List.eq_nil_of_length_eq_zero hl
    exact wpList_append_own_none hg s x t ho base e i 1 ht hi v n xs hs hown hx (h v w (by simpa using hown) ⟨rfl, rfl, rfl, Nat.le_refl _, fun _ _ _ => rfl⟩)
end
theorem rd_all {w : World} {A : Option Addr} {L : List ByteArray} (h : Rd Value.string w A L) : ∀ ad, A = some ad → ∀ j u, (L.map Value.string)[j]? = some u → w.cell? (ad.add j) = some u := by
  intro ad e j u hu
  have := rd_cells h ad e 0 j u (by rw [List.drop_zero]; exact hu)
  rw [Nat.zero_add] at this
  exact this
theorem outS_own {w' : World} {base e n : Nat} {v : Value} {R : List ByteArray} (h : w'.ownsRow base e 1 v n (R.map Value.string)) : OutS w' (.returned v) R := by
  have hn : n = R.length := by have := h.1; simpa using this.symm
  subst hn
  rcases h.2 with ⟨rfl, h0⟩ | ⟨g, cap, cur, rfl, _, _, hnc, _⟩
  · have e : R = [] := List.eq_nil_of_length_eq_zero h0
    subst e
    exact ⟨none, 0, rfl, Nat.le_refl _, .inl ⟨rfl, rfl⟩, Rd.nil⟩
  · exact ⟨_, cap, rfl, hnc, .inr ⟨_, _, rfl⟩, Rd.own h⟩
/-- slices.Grow of nil. -/
theorem grow_any (n : Nat) (hn : n ≤ 1000000) (w : World) :
    Calls Try.prog 65 #[.slice none 0 0, .int .i64 (n : Int)] w fun e w' => (∃ v, e = .returned v ∧ w'.ownsRow w.heap.size 9 1 v 0 []) ∧ Below w.heap.size w w' := by
  obtain ⟨i0, hi0, hz0, hz1, hz2⟩ := info_parts str_info
  by_cases h0 : n = 0
  · subst h0
    refine (Any8.slices_Grow_room Try.growS none 0 0 0 w (Nat.le_refl _) (by omega) (by omega) (Nat.le_refl _)).mono ?_
    rintro e w' ⟨rfl, rfl⟩
    exact ⟨⟨_, rfl, own_nil _ _⟩, Below.refl _ _⟩
  · refine (Any8.slices_Grow_grow Try.growS i0 _ hi0 hz0 (by rw [hz1]; decide) none 0 0 n [] w (Nat.le_refl _) (by omega) (by rw [hz2]; omega) (by omega) (by simp) (fun _ => rfl) (fun a e => nomatch e)).mono ?_
    rintro e w' ⟨rfl, rfl⟩
    refine ⟨⟨_, rfl, by simp, .inr ⟨w.heap.size, _, _, rfl, Nat.le_refl _, Deep.blk_alloc_new w.drew _, Nat.zero_le _, grownCap_le_maxLen w (0 + n) 0 _ (by unfold maxLen; omega), ?_, by simp⟩⟩, ?_⟩
    · have hge := grownCap_ge w (0 + n) 0 (Try.growS_ren.t 25)
      simp [size_zeroCells, Value.cells] at hge ⊢
      omega
    · exact (Below.drew (Below.refl _ _)).alloc (Nat.le_refl _) _
set_option maxRecDepth 100000 in
set_option maxHeartbeats 1000000 in
theorem concat_any (g : Nat) (A B : Option Addr) (c d : Nat) (L M : List ByteArray) (hL : L.length ≤ 400000) (hM : M.length ≤ 400000) (hA : Addressed A c) (hB : Addressed B d) (w : World) (hg : w.heap[g]? = some (.cells #[.slice A L.length c, .slice B M.length d] 22 (0, 0))) (hR : Rd Value.string w A L) (hR2 : Rd Value.string w B M) (hlc : L.length ≤ c) (hmd : M.length ≤ d) :
    Calls Try.prog 50 #[.slice (some ⟨g, 0, none⟩) 2 2] w fun e w' => OutS w' e (L ++ M) ∧ Below w.heap.size w w' := by
  obtain ⟨i0, hi0, hz0, hz1, hz2⟩ := info_parts str_info
  have Hi0 := Lib.hid hi0
  have Hz0 := Lib.hid hz0
  have Hz1 := Lib.hid hz1
  have Hz2 := Lib.hid hz2
  have c0 := cell_of_row w g 0 _ _ _ hg
  have c1 := cell_of_row w g 1 _ _ _ hg
  have HG := Lib.hid hg
  have hgl : g < w.heap.size := (Array.getElem?_eq_some_iff.1 hg).1
  have HR := Lib.hid hR
  have HR2 := Lib.hid hR2
  have hnA : Hid (A = none → L.length = 0 ∧ c = 0) := Lib.hid (fun e => by
    rcases hA with ⟨_, rfl⟩ | ⟨b, off, rfl⟩
    · exact ⟨by omega, rfl⟩
    · cases e)
  have hnB : Hid (B = none → M.length = 0 ∧ d = 0) := Lib.hid (fun e => by
    rcases hB with ⟨_, rfl⟩ | ⟨b, off, rfl⟩
    · exact ⟨by omega, rfl⟩
    · cases e)
  clear hR hR2 hi0 hz0 hz1 hz2 hg hA hB
  go_enter Try.func50, Try.ntmps50
  go_wp2_with fail
  refine wp_loop_rounds 3 ?_
  rw [rounds_succ]
  go_wp2_with fail
  rw [rounds_succ]
  go_wp2_with fail
  rw [rounds_succ]
  go_wp2_with fail
  have hgr := grow_any (L.length + M.length) (by omega) w
  rw [Int.natCast_add] at hgr
  refine hgr.mono ?_
  rintro e w1 ⟨⟨v, rfl, hown⟩, hB1⟩
  have d0 := (hB1.cell (p := ⟨g, 0, none⟩) hgl).trans c0
  have d1 := (hB1.cell (p := ⟨g, 1, none⟩) hgl).trans c1
  have HB1 := Lib.hid hB1
  have HO := Lib.hid hown
  have hRA := Lib.hid (rd_all (HR.out.below hB1))
  have HRM := Lib.hid (HR2.out.below hB1)
  clear hgr hown hB1 c0 c1
  go_wp2_with fail
  refine wp_loop_rounds 3 ?_
  rw [rounds_succ]
  go_wp2_with (at_builtin; refine wpList_append_more rfl (.tmp 31) (.tmp 32) 22 rfl w.heap.size 9 i0 _ 16 Try.underlying22 Hi0.out Hz0.out Hz1.out Hz2.out rfl v 0 [] rfl HO.out A L.length c rfl (L.map Value.string) (by simp) hnA.out hRA.out (one_strs _) (by omega) (by omega) HB1.out.size ?_; intro v2 w2 hown2 hg2)
  have hB2 := below_grownBy (B := w.heap.size) (a := w) HB1.out HO.out hg2 (Nat.le_refl _) (Nat.le_refl _)
  have e0 := (hB2.cell (p := ⟨g, 0, none⟩) hgl).trans ((HB1.out.cell (p := ⟨g, 0, none⟩) hgl).symm.trans d0)
  have e1 := (hB2.cell (p := ⟨g, 1, none⟩) hgl).trans ((HB1.out.cell (p := ⟨g, 1, none⟩) hgl).symm.trans d1)
  have hRB := Lib.hid (rd_all (HR2.out.below hB2))
  have HB2 := Lib.hid hB2
  have HO2 : Hid (w2.ownsRow w.heap.size 9 1 v2 L.length (L.map Value.string)) := Lib.hid (by rw [Nat.zero_add, List.nil_append] at hown2; exact hown2)
  clear hown2 hg2 d0 d1 hB2
  go_wp2_with fail
  rw [rounds_succ]
  go_wp2_with (at_builtin; refine wpList_append_more rfl (.tmp 31) (.tmp 32) 22 rfl w.heap.size 9 i0 _ 16 Try.underlying22 Hi0.out Hz0.out Hz1.out Hz2.out rfl v2 L.length (L.map Value.string) rfl HO2.out B M.length d rfl (M.map Value.string) (by simp) hnB.out hRB.out (one_strs _) (by omega) (by omega) HB2.out.size ?_; intro v3 w3 hown3 hg3)
  have HB3 := Lib.hid (below_grownBy (B := w.heap.size) (a := w) HB2.out HO2.out hg3 (Nat.le_refl _) (Nat.le_refl _))
  have HO3 := Lib.hid hown3
  clear hown3 hg3 e0 e1
  go_wp2_with fail
  rw [rounds_succ]
  go_wp2_with fail
  go_ret
  refine ⟨?_, HB3.out⟩
  have h := HO3.out
  rw [← List.map_append] at h
  exact outS_own h
end Go.Proofs.Ytoohphhfigiicaa
