/- Lists of structs in memory (written by wip/bin/gen_gn.py out of layer 1's texts). -/
import Derived.Test.YtacgomhegjilgaaRows
import Derived.Test.YtacgomhegjilgaaBp
import Derived.WalkKit
import Derived.ProofKit
import Derived.OpenShut
import Derived.Handy
import Derived.Lib.Hide
import Derived.IntWalk
import Derived.Outline
import Derived.OwnWalk
import Derived.RegionTactic
import Derived.ChangeAlike
import Derived.Deep.Heap
import Derived.Deep.QuietTactic
import Derived.BigQuiet
import Derived.Deep.Slices
import Derived.ChangeArms
import Derived.Lib.SmallJoins
import Derived.Below
import Derived.ChangeSame
namespace Go.Proofs.Ytacgomhegjilgaa
open Go.ChangeShapes Go.WideShapes Go.ChangeAt Go.RowKit Go.Joins

theorem add_flat (b off k : Nat) : (⟨b, off, none⟩ : Addr).add k = ⟨b, off + k, none⟩ := by unfold Addr.add; split <;> simp_all

theorem blk_set {w : World} {g off : Nat} {cs : Array Value} {t : TypeId} (v : Value) (h : w.heap[g]? = some (.cells cs t (0, 0))) : (w.setCell ⟨g, off, none⟩ v).heap[g]? = some (.cells (cs.setIfInBounds off v) t (0, 0)) := by
  simp only [World.setCell, Array.getElem?_modify, h]
  simp
def Rs (w : World) (B : Nat) (A : Option Addr) (cs : List Value) : Prop := ∀ j (h : j < cs.length), ∃ b off, A = some ⟨b, off, none⟩ ∧ b < B ∧ w.cell? ⟨b, off + j, none⟩ = some cs[j]
theorem Rs.below {w w' : World} {B : Nat} {A : Option Addr} {cs : List Value} (h : Rs w B A cs) (hb : Below B w w') : Rs w' B A cs := fun j hj => by
  obtain ⟨b, off, e, hlt, hc⟩ := h j hj
  exact ⟨b, off, e, hlt, (hb.cell (p := ⟨b, off + j, none⟩) hlt).trans hc⟩
theorem Rs.more {w : World} {B B' : Nat} {A : Option Addr} {cs : List Value} (h : Rs w B A cs) (hb : B ≤ B') : Rs w B' A cs := fun j hj => by
  obtain ⟨b, off, e, hlt, hc⟩ := h j hj
  exact ⟨b, off, e, by omega, hc⟩
theorem Rs.nil {w : World} {B : Nat} {A : Option Addr} : Rs w B A [] := fun j hj => absurd hj (by simp)

theorem flat_len {α : Type} (C : α → List Value) (k : Nat) (hC : ∀ a, (C a).length = k) (L : List α) : (L.flatMap C).length = L.length * k := by
  induction L with
  | nil => simp
  | cons a L ih => rw [List.flatMap_cons, List.length_append, hC, ih, List.length_cons, Nat.succ_mul]; omega
theorem flat_get {α : Type} (C : α → List Value) (k : Nat) (hC : ∀ a, (C a).length = k) (L : List α) (i : Nat) (h : i < L.length) (j : Nat) (hj : j < k) : (L.flatMap C)[i * k + j]? = (C L[i])[j]? := by
  induction L generalizing i with
  | nil => simp at h
  | cons a L ih =>
    rw [List.flatMap_cons]
    cases i with
    | zero => rw [Nat.zero_mul, Nat.zero_add, List.getElem?_append_left (by rw [hC]; exact hj)]; rfl
    | succ i =>
      rw [List.getElem?_append_right (by rw [hC, Nat.succ_mul]; omega), hC, show (i + 1) * k + j - k = i * k + j by rw [Nat.succ_mul]; omega, ih i (by simpa using h)]
      rfl
section
variable {H : Type} {enc : TypeId × Value → H} {P : Program} {W : World}
/-- A slice of structs (of some cells each) that came in. -/
theorem open_rows {α : Type} (a0 : α) {t e : TypeId} (ht : P.underlying t = some (.slice e)) (k : Nat) (hk : 0 < k) (hC : P.cellsOf e = k) (C : α → List Value) (hCl : ∀ a, (C a).length = k) (Q : α → Prop)
    (hel : ∀ n cs x, DataW.trod enc P W 0 (fun _ => true) true n e cs = some x → ∃ a, Q a ∧ cs = C a) {fuel : Nat} {cs : List Value} {x : DataW H × List MemPlace} (h : DataW.trod enc P W 0 (fun _ => true) true fuel t cs = some x) (lt : ∀ p ∈ x.2, p.block < W.heap.size) :
    ∃ (A : Option Addr) (c : Nat) (L : List α), cs = [.slice A L.length c] ∧ L.length ≤ 9223372036854775807 ∧ (∀ a ∈ L, Q a) ∧ Rs W W.heap.size A (L.flatMap C) := by
  rcases Deep.open_slice ht h with ⟨rfl, hx⟩ | ⟨a, n, c, m, n', D, Pl, rfl, _, hl, hm, hz, hx, hi⟩
  · exact ⟨none, 0, [], rfl, Nat.zero_le _, fun x hx => absurd hx (by simp), Rs.nil⟩
  · unfold maxLen at hm
    simp only [if_true] at hz
    rw [hC] at hi
    have each : ∀ i, ∃ q : α, i < n → (Q q ∧ ∀ j, j < k → W.cell? ((a.add (i * k)).add j) = (C q)[j]?) := fun i => by
      by_cases hin : i < n
      · obtain ⟨cs', hc, ht'⟩ := hi i (by omega)
        obtain ⟨q, hq, hcq⟩ := hel _ _ _ ht'
        obtain ⟨_, _, hat⟩ := World.cells?_some hc
        exact ⟨q, fun _ => ⟨hq, fun j hj => by rw [hat j hj, hcq]⟩⟩
      · exact ⟨a0, fun h => absurd h hin⟩
    obtain ⟨f, hf⟩ := Classical.axiomOfChoice each
    refine ⟨some a, c, (List.range n).map f, by simp, by simp; omega, fun q hq => ?_, fun j hj => ?_⟩
    · obtain ⟨i, hi2, rfl⟩ := List.mem_map.1 hq
      exact (hf i (List.mem_range.1 hi2)).1
    · have hj2 := hj
      rw [flat_len C k hCl] at hj2
      simp only [List.length_map, List.length_range] at hj2
      have hjk : j / k < n := (Nat.div_lt_iff_lt_mul hk).2 hj2
      have hn0 : 0 < n := Nat.lt_of_le_of_lt (Nat.zero_le _) hjk
      have hg := flat_get C k hCl ((List.range n).map f) (j / k) (by simpa using hjk) (j % k) (Nat.mod_lt _ hk)
      have hdm : j / k * k + j % k = j := by rw [Nat.mul_comm]; exact Nat.div_add_mod j k
      rw [hdm, List.getElem?_eq_getElem hj] at hg
      have hc := (hf (j / k) hjk).2 (j % k) (Nat.mod_lt _ hk)
      have hel2 : ((List.range n).map f)[j / k]'(by simpa using hjk) = f (j / k) := by simp
      rw [hel2] at hg
      rw [← hg] at hc
      obtain ⟨b, off, spot⟩ := a
      have hspot : spot = none := by
        have h0 := (hf 0 hn0).2 0 hk
        rw [List.getElem?_eq_getElem (by rw [hCl]; exact hk)] at h0
        simpa [Addr.add] using World.cell?_spot h0
      subst hspot
      refine ⟨b, off, rfl, lt (.cell b off) (by rw [hx]; exact List.mem_append_left _ (MemPlace.mem_row.2 ⟨0, by rw [hC, hz]; exact Nat.mul_pos (by omega) hk, by simp⟩)), ?_⟩
      rw [add_flat, add_flat, show off + j / k * k + j % k = off + j by omega] at hc
      rw [hc]
end
theorem rows_at {α : Type} {C : α → List Value} {k : Nat} (hk : 0 < k) (hC : ∀ a, (C a).length = k) {w : World} {B : Nat} {A : Option Addr} {L : List α} (h : Rs w B A (L.flatMap C)) (i : Nat) (hi : i < L.length) :
    ∃ b off, A = some ⟨b, off, none⟩ ∧ b < B ∧ ∀ j, j < k → w.cell? ⟨b, off + i * k + j, none⟩ = (C L[i])[j]? := by
  have hl := flat_len C k hC L
  have hm : (i + 1) * k ≤ L.length * k := Nat.mul_le_mul_right k hi
  rw [Nat.succ_mul] at hm
  have g : ∀ j, j < k → ∃ b off, A = some ⟨b, off, none⟩ ∧ b < B ∧ w.cell? ⟨b, off + (i * k + j), none⟩ = (C L[i])[j]? := fun j hj => by
    have hlt : i * k + j < (L.flatMap C).length := by omega
    obtain ⟨b, off, e, hb, hc⟩ := h (i * k + j) hlt
    have hg := flat_get C k hC L i hi j hj
    rw [List.getElem?_eq_getElem hlt] at hg
    exact ⟨b, off, e, hb, hc.trans hg⟩
  obtain ⟨b, off, e, hb, _⟩ := g 0 hk
  refine ⟨b, off, e, hb, fun j hj => ?_⟩
  obtain ⟨b', off', e', _, hc⟩ := g j hj
  rw [e] at e'
  simp only [Option.some.injEq, Addr.mk.injEq, and_true] at e'
  obtain ⟨rfl, rfl⟩ := e'
  rw [Nat.add_assoc]
  exact hc
theorem take_snoc {α : Type} (l : List α) (k : Nat) (h : k < l.length) : l.take (k + 1) = l.take k ++ [l[k]] := by
  rw [List.take_add_one, List.getElem?_eq_getElem h]; rfl
section
variable {P : Program} {w : World}
/-- append of one element of some cells, which lies in a block of its own, to a row of the call's own. -/
theorem wpList_append_agg {ops : Array Oper} {rest : List Oper} {o : Oper} {a : Act} {Q : Exit → Act → World → Prop} (hg : o.guard = none) (s x : Operand) (t : TypeId)
    (ho : o.op = .call { callee := .builtin .append, args := #[s, x], argTypes := #[t, t] })
    (base : Nat) (e : TypeId) (i : TypeInfo) (z : Value) (size bytes : Nat) (ht : P.underlying t = some (.slice e)) (hi : P.info? e = some i) (hz : i.zero = some z)
    (hsize : i.size = size) (hby : i.bytes = bytes) (hzs : z.cells.size = size) (hsz : 0 < size)
    (v : Value) (n : Nat) (xs : List Value) (hs : a.eval s = v) (hown : w.ownsRow base e size v n xs)
    (g c : Nat) (news : List Value) (T : TypeId) (hl : news.length = size) (hx : a.eval x = .slice (some ⟨g, 0, none⟩) 1 c) (hblk : w.heap[g]? = some (.cells news.toArray T (0, 0))) (h1 : ∀ u ∈ news, u.oneCell' = true)
    (hn : n ≤ 1000000) (hb : bytes ≤ 1000000) (hbase : base ≤ w.heap.size)
    (h : ∀ v' w', w'.ownsRow base e size v' (n + 1) (xs ++ news) → w.grownBy w' v.ownBlock → wpList P ops Q rest (a.put o.dst v') w') : wpList P ops Q (o :: rest) a w := by
  refine wpList_append_own w hg s x t ho base e i z size bytes ht hi hz hsize hby hzs hsz v n xs hs hown ⟨g, 0, none⟩ 1 c news hx (by omega) (fun j y hy => ?_) h1 (by unfold maxLen; omega) ?_ hbase (fun v' w' h2 h3 _ => h v' w' h2 h3)
  · rw [add_flat, Nat.zero_add, cell_of_row w g j _ _ _ hblk]
    simpa using hy
  · have := Nat.mul_le_mul (show n + 1 ≤ 1000001 by omega) hb
    omega
end
theorem own_slice {w : World} {base e n k : Nat} {v : Value} {xs : List Value} (h : w.ownsRow base e k v n xs) : ∃ A c, v = .slice A n c := by
  rcases h.2 with ⟨rfl, h0⟩ | ⟨g, cap, cur, rfl, hbase, hh, hnc, hcap, hsz, htake⟩
  · have h0' : n = 0 := h0
    rw [h0']; exact ⟨_, _, rfl⟩
  · exact ⟨_, _, rfl⟩
theorem info_parts2 {P : Program} {t : TypeId} {z : Value} {s b : Nat} (h : (P.info? t).map (fun i => (i.zero, i.size, i.bytes)) = some (some z, s, b)) : ∃ i, P.info? t = some i ∧ i.zero = some z ∧ i.size = s ∧ i.bytes = b := by
  cases hi : P.info? t with
  | none => rw [hi] at h; simp at h
  | some i => rw [hi] at h; simp at h; exact ⟨i, rfl, h.1, h.2.1, h.2.2⟩
def ivC (x : Ts.Iv) : List Value := [.int .i64 x.1, .int .i64 x.2]
def ivCells (L : List Ts.Iv) : List Value := L.flatMap ivC
end Go.Proofs.Ytacgomhegjilgaa
