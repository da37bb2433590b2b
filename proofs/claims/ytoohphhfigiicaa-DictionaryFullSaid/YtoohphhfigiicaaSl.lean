/- Slices of strings and of ints that are read as lists; the law's few and same. -/
import Derived.Test.YtoohphhfigiicaaRows
import Derived.Test.YtoohphhfigiicaaDp
import Derived.WalkKit
import Derived.ProofKit
import Derived.OpenShut
import Derived.Handy
import Derived.Lib.Hide
import Derived.IntWalk
import Derived.Outline
import Derived.OwnWalk
import Derived.WalkLawsBesides
import Derived.WalkSpells
import Derived.RegionTactic
import Derived.ChangeAlike
import Derived.Deep.Heap
import Derived.Deep.QuietTactic
import Derived.BigQuiet
namespace Go.Proofs.Ytoohphhfigiicaa
open Go.ChangeShapes Go.WideShapes Go.ChangeAt Go.RowKit Dp

def iv (n : Int) : Value := .int .i64 n
/-- The slice at A reads as the list L, one cell an element. -/
def Rd {α : Type} (enc : α → Value) (w : World) (A : Option Addr) (L : List α) : Prop :=
  ∀ k (hk : k < L.length), ∃ b off, A = some ⟨b, off, none⟩ ∧ b < w.heap.size ∧ w.cell? ⟨b, off + k, none⟩ = some (enc L[k])
theorem Rd.below {α : Type} {enc : α → Value} {w w' : World} {A : Option Addr} {L : List α} (h : Rd enc w A L) (hb : Below w.heap.size w w') : Rd enc w' A L := fun k hk => by
  obtain ⟨b, off, e, hlt, hc⟩ := h k hk
  exact ⟨b, off, e, Nat.lt_of_lt_of_le hlt hb.size, (hb.cell (p := ⟨b, off + k, none⟩) hlt).trans hc⟩
theorem Rd.drewN {α : Type} {enc : α → Value} {w : World} {A : Option Addr} {L : List α} (h : Rd enc w A L) (n : Nat) : Rd enc (w.drewN n) A L := h
theorem Rd.alloc {α : Type} {enc : α → Value} {w : World} {A : Option Addr} {L : List α} (h : Rd enc w A L) (o : Obj) : Rd enc (w.alloc o) A L := h.below ((Below.refl _ _).alloc (Nat.le_refl _) _)
theorem Rd.nil {α : Type} {enc : α → Value} {w : World} {A : Option Addr} : Rd enc w A [] := fun k hk => absurd hk (by simp)
theorem Rd.own {α : Type} {enc : α → Value} {w : World} {base e n c : Nat} {A : Option Addr} {L : List α} (h : w.ownsRow base e 1 (.slice A n c) n (L.map enc)) : Rd enc w A L := fun k hk => by
  have hn : n = L.length := by have := h.1; simpa using this.symm
  subst hn
  rcases h.2 with ⟨_, h0⟩ | ⟨g, cap, cur, hv, hbase, hg, hn, hcap, hsz, htake⟩
  · simp at h0; subst h0; simp at hk
  · injection hv with h1 h2 h3
    subst h1
    have hlt : g < w.heap.size := (Array.getElem?_eq_some_iff.1 hg).1
    refine ⟨g, 0, rfl, hlt, ?_⟩
    rw [cell_of_row w g _ cur _ _ hg]
    have := congrArg (fun l : List Value => l[k]?) htake
    simp only [Nat.mul_one] at this
    rw [List.getElem?_take_of_lt hk] at this
    rw [Nat.zero_add, ← Array.getElem?_toList, this]
    simp [hk]
theorem own_slice {w : World} {base e n : Nat} {v : Value} {xs : List Value} (h : w.ownsRow base e 1 v n xs) : ∃ A c, v = .slice A n c ∧ n ≤ c := by
  rcases h.2 with ⟨rfl, h0⟩ | ⟨g, cap, cur, hv, _, _, hn, _⟩
  · have := h.1; subst h0; simp at this; exact ⟨none, 0, rfl, Nat.le_refl _⟩
  · exact ⟨_, _, hv, by omega⟩
theorem below_drewN {B : Nat} {a w : World} (h : Below B a w) (n : Nat) : Below B a (w.drewN n) := ⟨h.os, h.tape, h.output, h.size, h.block⟩
theorem below_drewN' {B : Nat} {a w : World} (h : Below B a w) (n : Nat) : Below B a (w.drewN n) := ⟨h.os, h.tape, h.output, h.size, h.block⟩
theorem grown_refl (w : World) : Below w.heap.size w w := Below.refl _ _
theorem below_to {a w w' : World} (h : Below a.heap.size a w) (k : Below w.heap.size w w') : Below a.heap.size a w' := h.trans (k.mono h.size)

/-- The law's few. -/
def fewB (L : List ByteArray) : Bool := L.all (fun s => decide (s.size ≤ 300)) && decide (L.length ≤ 60)
set_option maxHeartbeats 400000 in
theorem few_any (A : Option Addr) (c : Nat) (L : List ByteArray) (hL : L.length ≤ 9223372036854775807) (hs : ∀ x ∈ L, x.size ≤ 9223372036854775807) (w : World) (hR : Rd Value.string w A L) :
    Calls Try.prog 14 #[.slice A L.length c] w fun e w' => e = .returned (.bool (fewB L)) ∧ w' = w := by
  have HR := Lib.hid hR
  have Hs := Lib.hid hs
  clear hR hs
  go_enter Try.func14, Try.ntmps14
  go_wp2_with fail
  go_loop [3] (fun i => ∃ k : Nat, k ≤ L.length ∧ i = .int .i64 k ∧ Hid (∀ j, j < k → ∀ hj : j < L.length, L[j].size ≤ 300)) (fun i => L.length - (intOf i).toNat)
  case atStart => exact ⟨0, Nat.zero_le _, rfl, Lib.hid (fun j hj => absurd hj (by omega))⟩
  case round =>
    obtain ⟨k, hk, rfl, hall⟩ := hrel
    by_cases hlt : k < L.length
    · obtain ⟨b, off, rfl, hb, hc⟩ := HR.out k hlt
      have hx := Hs.out _ (List.getElem_mem hlt)
      obtain ⟨x, hxe⟩ : ∃ x, x = L[k] := ⟨_, rfl⟩
      rw [← hxe] at hc hx
      have Hx := Lib.hid hxe
      clear hxe
      by_cases h3 : x.size ≤ 300
      · go_wp2_with fail
        go_round
        case rel =>
          refine ⟨k + 1, by omega, by go_num, Lib.hid (fun j hj hj2 => ?_)⟩
          by_cases e : j = k
          · subst e; rw [← Hx.out]; exact h3
          · exact hall.out j (by omega) hj2
        case measure => simp [intOf]; omega
      · go_wp2_with fail
        go_ret
        refine ⟨?_, rfl⟩
        have : fewB L = false := by
          unfold fewB
          rw [Bool.and_eq_false_iff]
          refine .inl ?_
          rw [List.all_eq_false]
          exact ⟨L[k], List.getElem_mem hlt, by rw [← Hx.out]; simpa using h3⟩
        rw [this]; rfl
    · go_wp2_with fail
      go_ret
      refine ⟨?_, rfl⟩
      have : L.all (fun s => decide (s.size ≤ 300)) = true := by
        rw [List.all_eq_true]
        intro x hx
        obtain ⟨j, hj, rfl⟩ := List.mem_iff_getElem.1 hx
        exact decide_eq_true (hall.out j (by omega) hj)
      unfold fewB
      rw [this, Bool.true_and]
      congr 2
      simp; omega

theorem list_eq_of_get {α : Type} {a b : List α} (hl : a.length = b.length) (h : ∀ j, j < a.length → ∀ (h1 : j < a.length) (h2 : j < b.length), a[j] = b[j]) : a = b :=
  List.ext_getElem hl fun j h1 h2 => h j h1 h1 h2
set_option maxHeartbeats 400000 in
theorem same_any (A B : Option Addr) (c d : Nat) (L M : List ByteArray) (hL : L.length ≤ 9223372036854775807) (hM : M.length ≤ 9223372036854775807) (w : World) (hR : Rd Value.string w A L) (hR2 : Rd Value.string w B M) :
    Calls Try.prog 19 #[.slice A L.length c, .slice B M.length d] w fun e w' => e = .returned (.bool (decide (L = M))) ∧ Below w.heap.size w w' := by
  have HR := Lib.hid hR
  have HR2 := Lib.hid hR2
  clear hR hR2
  by_cases hl : L.length = M.length
  · have Hl := Lib.hid hl
    have hlb : (((L.length : Nat) : Int) != ((M.length : Nat) : Int)) = false := by rw [hl]; simp
    go_enter Try.func19, Try.ntmps19
    clear hl
    go_wp2_with fail
    clear hlb
    go_loopw [5] (fun i wr => ∃ k : Nat, k ≤ L.length ∧ i = .int .i64 k ∧ Hid (∀ j, j < k → ∀ (h1 : j < L.length) (h2 : j < M.length), L[j] = M[j]) ∧ Hid (Below w.heap.size w wr)) (fun i _ => L.length - (intOf i).toNat)
    case atStart => exact ⟨0, Nat.zero_le _, rfl, Lib.hid (fun j hj => absurd hj (by omega)), Lib.hid (Below.refl _ _)⟩
    case round =>
      obtain ⟨k, hk, rfl, hall, hB⟩ := hrel
      by_cases hlt : k < L.length
      · have hlt2 : k < M.length := by have := Hl.out; omega
        obtain ⟨b, off, rfl, hb, hc⟩ := (HR.out.below hB.out) k hlt
        obtain ⟨b2, off2, rfl, hb2, hc2⟩ := (HR2.out.below hB.out) k hlt2
        obtain ⟨x, hxe⟩ : ∃ x, x = L[k] := ⟨_, rfl⟩
        obtain ⟨y, hye⟩ : ∃ y, y = M[k] := ⟨_, rfl⟩
        rw [← hxe] at hc
        rw [← hye] at hc2
        have Hx := Lib.hid hxe
        have Hy := Lib.hid hye
        clear hxe hye
        by_cases h3 : x = y
        · subst h3
          go_wp2_with fail
          go_region
          go_wp2_with fail
          go_roundw
          case rel =>
            refine ⟨k + 1, by omega, by go_num, Lib.hid (fun j hj h1 h2 => ?_), Lib.hid hB.out.drew⟩
            by_cases e : j = k
            · subst e; rw [← Hx.out, ← Hy.out]
            · exact hall.out j (by omega) h1 h2
          case measure => simp [intOf]; omega
        · have hne : (x.toList == y.toList) = false := (Lib.bytes_beq_false_iff x y).2 h3
          have Hne := Lib.hid h3
          clear h3
          go_wp2_with fail
          go_region
          go_wp2_with fail
          go_ret
          refine ⟨?_, hB.out.drew⟩
          have : L ≠ M := fun e => Hne.out (by rw [Hx.out, Hy.out]; subst e; rfl)
          rw [decide_eq_false this]; rfl
      · go_wp2_with fail
        go_ret
        refine ⟨?_, hB.out⟩
        have : L = M := list_eq_of_get Hl.out fun j hj h1 h2 => hall.out j (by omega) h1 h2
        rw [decide_eq_true this]; rfl
  · have hlb : (((L.length : Nat) : Int) != ((M.length : Nat) : Int)) = true := by simp; omega
    have Hl := Lib.hid hl
    clear hl
    go_enter Try.func19, Try.ntmps19
    go_wp2_with fail
    go_ret
    exact ⟨by rw [decide_eq_false (fun e => Hl.out (by rw [e]))]; rfl, Below.refl _ _⟩

set_option maxHeartbeats 400000 in
theorem sameInts_any (A B : Option Addr) (c d : Nat) (L M : List Int) (hL : L.length ≤ 9223372036854775807) (hM : M.length ≤ 9223372036854775807) (w : World) (hR : Rd (Value.int .i64) w A L) (hR2 : Rd (Value.int .i64) w B M) :
    Calls Try.prog 32 #[.slice A L.length c, .slice B M.length d] w fun e w' => e = .returned (.bool (decide (L = M))) ∧ Below w.heap.size w w' := by
  have HR := Lib.hid hR
  have HR2 := Lib.hid hR2
  clear hR hR2
  by_cases hl : L.length = M.length
  · have Hl := Lib.hid hl
    have hlb : (((L.length : Nat) : Int) != ((M.length : Nat) : Int)) = false := by rw [hl]; simp
    go_enter Try.func32, Try.ntmps32
    clear hl
    go_wp2_with fail
    clear hlb
    go_loopw [5] (fun i wr => ∃ k : Nat, k ≤ L.length ∧ i = .int .i64 k ∧ Hid (∀ j, j < k → ∀ (h1 : j < L.length) (h2 : j < M.length), L[j] = M[j]) ∧ Hid (Below w.heap.size w wr)) (fun i _ => L.length - (intOf i).toNat)
    case atStart => exact ⟨0, Nat.zero_le _, rfl, Lib.hid (fun j hj => absurd hj (by omega)), Lib.hid (Below.refl _ _)⟩
    case round =>
      obtain ⟨k, hk, rfl, hall, hB⟩ := hrel
      by_cases hlt : k < L.length
      · have hlt2 : k < M.length := by have := Hl.out; omega
        obtain ⟨b, off, rfl, hb, hc⟩ := (HR.out.below hB.out) k hlt
        obtain ⟨b2, off2, rfl, hb2, hc2⟩ := (HR2.out.below hB.out) k hlt2
        obtain ⟨x, hxe⟩ : ∃ x, x = L[k] := ⟨_, rfl⟩
        obtain ⟨y, hye⟩ : ∃ y, y = M[k] := ⟨_, rfl⟩
        rw [← hxe] at hc
        rw [← hye] at hc2
        have Hx := Lib.hid hxe
        have Hy := Lib.hid hye
        clear hxe hye
        by_cases h3 : x = y
        · subst h3
          go_wp2_with fail
          go_region
          go_wp2_with fail
          go_roundw
          case rel =>
            refine ⟨k + 1, by omega, by go_num, Lib.hid (fun j hj h1 h2 => ?_), Lib.hid hB.out.drew⟩
            by_cases e : j = k
            · subst e; rw [← Hx.out, ← Hy.out]
            · exact hall.out j (by omega) h1 h2
          case measure => simp [intOf]; omega
        · have hne : (x != y) = true := by simpa using h3
          have hne2 : (x == y) = false := by simpa using h3
          have Hne := Lib.hid h3
          clear h3
          go_wp2_with fail
          go_region
          go_wp2_with fail
          go_ret
          refine ⟨?_, hB.out.drew⟩
          have : L ≠ M := fun e => Hne.out (by rw [Hx.out, Hy.out]; subst e; rfl)
          rw [decide_eq_false this]; rfl
      · go_wp2_with fail
        go_ret
        refine ⟨?_, hB.out⟩
        have : L = M := list_eq_of_get Hl.out fun j hj h1 h2 => hall.out j (by omega) h1 h2
        rw [decide_eq_true this]; rfl
  · have hlb : (((L.length : Nat) : Int) != ((M.length : Nat) : Int)) = true := by simp; omega
    have Hl := Lib.hid hl
    clear hl
    go_enter Try.func32, Try.ntmps32
    go_wp2_with fail
    go_ret
    exact ⟨by rw [decide_eq_false (fun e => Hl.out (by rw [e]))]; rfl, Below.refl _ _⟩
end Go.Proofs.Ytoohphhfigiicaa
