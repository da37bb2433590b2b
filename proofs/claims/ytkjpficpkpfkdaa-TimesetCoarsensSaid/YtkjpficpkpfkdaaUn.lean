/- Union, Intersect, Minus: slices that read as lists. -/
import Derived.Test.YtkjpficpkpfkdaaCb
import Derived.Test.YtkjpficpkpfkdaaSe
namespace Go.Proofs.Ytkjpficpkpfkdaa
open Go.ChangeShapes Go.WideShapes Go.ChangeAt Go.RowKit Ts

/-- A slice that reads as a list of intervals. -/
def Sl (w : World) (v : Value) (L : List Iv) : Prop := ∃ A c, v = .slice A L.length c ∧ L.length ≤ c ∧ c ≤ 9223372036854775807 ∧ (A = none → L.length = 0 ∧ c = 0) ∧ Rs w w.heap.size A (ivCells L)
theorem Sl.below {w w' : World} {v : Value} {L : List Iv} (h : Sl w v L) (hb : Below w.heap.size w w') : Sl w' v L := by
  obtain ⟨A, c, e, h1, h2, h3, h4⟩ := h
  exact ⟨A, c, e, h1, h2, h3, (h4.below hb).more hb.size⟩
theorem sl_own {w : World} {base e : Nat} {v : Value} {L : List Iv} (h : w.ownsRow base e 2 v L.length (ivCells L)) : Sl w v L := by
  obtain ⟨A, c, rfl, hnc, hR, hA⟩ := rs_own h
  refine ⟨A, c, rfl, hnc, ?_, ?_, hR⟩
  · rcases h.2 with ⟨e, _⟩ | ⟨g, cap, cur, e, _, _, _, hcap, _⟩
    · injection e with e1 e2 e3; omega
    · injection e with e1 e2 e3; unfold maxLen at hcap; omega
  · intro e
    rcases hA with ⟨_, h1, h2⟩ | ⟨g, h1, _⟩
    · exact ⟨h1, h2⟩
    · rw [e] at h1; cases h1
/-- A normal list of at most so many intervals, with small bounds. -/
structure Ok (n : Nat) (L : List Iv) : Prop where
  nrm : Nrm L
  len : L.length ≤ n
  bd : Bnd L
theorem Ok.more {n m : Nat} {L : List Iv} (h : Ok n L) (hm : n ≤ m) : Ok m L := ⟨h.nrm, Nat.le_trans h.len hm, h.bd⟩
theorem Ok.fl {n : Nat} {L : List Iv} (h : Ok n L) : ∀ v ∈ fl L, v < 9223372036854775807 := fun v hv => by
  obtain ⟨x, hx, e⟩ := fl_mem L v hv
  have h1 := h.bd x hx
  have h2 := h.nrm.1 x hx
  omega
theorem st_ok (L : List (Int × Int)) (hL : ∀ x ∈ L, SpOk x) : Ok 10 (stL L) := ⟨stL_nrm L, stL_len L, fun x hx => by
  have := stL_bd L hL x hx
  omega⟩
/-- The bounds of a normal list, from those of its integers. -/
theorem nrm_bd {lo hi : Int} {L : List Iv} (hN : Nrm L) (h : ∀ n, In n L → lo ≤ n ∧ n < hi) : ∀ x ∈ L, lo ≤ x.1 ∧ x.2 ≤ hi := fun x hx => by
  have h1 := hN.1 x hx
  have a := h x.1 ⟨x, hx, by omega, h1⟩
  have b := h (x.2 - 1) ⟨x, hx, by omega, by omega⟩
  omega
theorem cmb_ok (f : Bool → Bool → Bool) (hf : f false false = false) {n m : Nat} {a b : List Iv} (ha : Ok n a) (hb : Ok m b) : Ok (2 * n + 2 * m) (cmbL f a b) := by
  obtain ⟨s1, s2⟩ := cmbL_spec f hf a b ha.nrm hb.nrm
  have hin : ∀ k, In k (cmbL f a b) → -1000000000000 ≤ k ∧ k < 1000000000000 := fun k hk => by
    have h := (s2 k).1 hk
    have hin : In k a ∨ In k b := by
      rw [← has_in, ← has_in]
      cases e1 : has k a with
      | true => exact .inl rfl
      | false =>
        cases e2 : has k b with
        | true => exact .inr rfl
        | false => rw [e1, e2, hf] at h; cases h
    rcases hin with ⟨x, hx, h1, h2⟩ | ⟨x, hx, h1, h2⟩
    · have := ha.bd x hx; omega
    · have := hb.bd x hx; omega
  refine ⟨s1, ?_, fun x hx => ?_⟩
  · have h1 := kept_len f (allPcs a b)
    have h2 := allPcs_len a b
    have h3 := ha.len
    have h4 := hb.len
    show ((kept f (allPcs a b)).foldl jn []).length ≤ _
    omega
  · have h1 := nrm_bd s1 hin x hx
    have h2 := s1.1 x hx
    omega
abbrev orF : Bool → Bool → Bool := fun x y => x || y
abbrev andF : Bool → Bool → Bool := fun x y => x && y
abbrev butF : Bool → Bool → Bool := fun x y => x && !y
set_option maxRecDepth 100000 in
theorem union_sl {v u : Value} {a b : List Iv} (ha : Ok 1000 a) (hb : Ok 1000 b) (w : World) (hv : Sl w v a) (hu : Sl w u b) :
    Calls Try.prog 20 #[v, u] w fun e w' => (∃ r, e = .returned r ∧ Sl w' r (cmbL orF a b)) ∧ Below w.heap.size w w' := by
  obtain ⟨A, c, rfl, _, _, _, hR⟩ := hv
  obtain ⟨B, d, rfl, _, _, _, hS⟩ := hu
  have Hc := Lib.hid (comb_union A c a (by have := ha.len; omega) B d b (by have := hb.len; omega) ha.fl hb.fl w hR hS)
  clear hR hS
  go_enter Try.func20, Try.ntmps20
  go_wp2_with fail
  refine Hc.out.mono ?_
  rintro e w1 ⟨⟨r, rfl, hown⟩, hb1⟩
  have HO := Lib.hid hown
  have HB := Lib.hid hb1
  clear hown hb1
  go_wp2_with fail
  go_ret
  exact ⟨⟨_, rfl, sl_own HO.out⟩, HB.out⟩
set_option maxRecDepth 100000 in
theorem intersect_sl {v u : Value} {a b : List Iv} (ha : Ok 1000 a) (hb : Ok 1000 b) (w : World) (hv : Sl w v a) (hu : Sl w u b) :
    Calls Try.prog 22 #[v, u] w fun e w' => (∃ r, e = .returned r ∧ Sl w' r (cmbL andF a b)) ∧ Below w.heap.size w w' := by
  obtain ⟨A, c, rfl, _, _, _, hR⟩ := hv
  obtain ⟨B, d, rfl, _, _, _, hS⟩ := hu
  have Hc := Lib.hid (comb_intersect A c a (by have := ha.len; omega) B d b (by have := hb.len; omega) ha.fl hb.fl w hR hS)
  clear hR hS
  go_enter Try.func22, Try.ntmps22
  go_wp2_with fail
  refine Hc.out.mono ?_
  rintro e w1 ⟨⟨r, rfl, hown⟩, hb1⟩
  have HO := Lib.hid hown
  have HB := Lib.hid hb1
  clear hown hb1
  go_wp2_with fail
  go_ret
  exact ⟨⟨_, rfl, sl_own HO.out⟩, HB.out⟩
set_option maxRecDepth 100000 in
theorem minus_sl {v u : Value} {a b : List Iv} (ha : Ok 1000 a) (hb : Ok 1000 b) (w : World) (hv : Sl w v a) (hu : Sl w u b) :
    Calls Try.prog 23 #[v, u] w fun e w' => (∃ r, e = .returned r ∧ Sl w' r (cmbL butF a b)) ∧ Below w.heap.size w w' := by
  obtain ⟨A, c, rfl, _, _, _, hR⟩ := hv
  obtain ⟨B, d, rfl, _, _, _, hS⟩ := hu
  have Hc := Lib.hid (comb_minus A c a (by have := ha.len; omega) B d b (by have := hb.len; omega) ha.fl hb.fl w hR hS)
  clear hR hS
  go_enter Try.func23, Try.ntmps23
  go_wp2_with fail
  refine Hc.out.mono ?_
  rintro e w1 ⟨⟨r, rfl, hown⟩, hb1⟩
  have HO := Lib.hid hown
  have HB := Lib.hid hb1
  clear hown hb1
  go_wp2_with fail
  go_ret
  exact ⟨⟨_, rfl, sl_own HO.out⟩, HB.out⟩
set_option maxRecDepth 100000 in
theorem set_sl (L : List (Int × Int)) (hOk : ∀ x ∈ L, SpOk x) (w : World) (A : Option Addr) (c : Nat) (hl : L.length ≤ 9223372036854775807) (hR : Rs w w.heap.size A (spCells L)) :
    Calls Try.prog 19 #[.slice A L.length c] w fun e w' => (∃ r, e = .returned r ∧ Sl w' r (stL L)) ∧ Below w.heap.size w w' :=
  (set_any A c L hl hOk w hR).mono fun _ _ ⟨⟨v, he, hown⟩, hb⟩ => ⟨⟨v, he, sl_own hown⟩, hb⟩
end Go.Proofs.Ytkjpficpkpfkdaa
