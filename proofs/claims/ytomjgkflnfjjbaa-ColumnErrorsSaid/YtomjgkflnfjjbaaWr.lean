/- The Writer: what it holds, add, Number. -/
import Derived.Test.YtomjgkflnfjjbaaAn
import Derived.Laws.IdiomStrings
import Derived.RegionTactic
import Derived.ChangeAlike
import Derived.Deep.Heap
namespace Go.Proofs.Ytomjgkflnfjjbaa
open Go.ChangeShapes Go.WideShapes Go.ChangeAt Go.RowKit En

/-- The parts behind a pointer, the last one first. -/
def Parts (w : World) : Value → List (List UInt8) → Prop
  | v, [] => v = .pointer none
  | v, f :: fs => ∃ p before, v = .pointer (some ⟨p, 0, none⟩) ∧ w.heap[p]? = some (.cells #[before, .string ⟨f.toArray⟩] 102 (0, 0)) ∧ Parts w before fs
def total (fs : List (List UInt8)) : Nat := (fs.map List.length).foldr (· + ·) 0
theorem total_cons (f : List UInt8) (fs : List (List UInt8)) : total (f :: fs) = f.length + total fs := rfl
/-- All bytes, in the order in which they were appended. -/
def whole (fs : List (List UInt8)) : List UInt8 := fs.reverse.flatten
theorem whole_cons (f : List UInt8) (fs : List (List UInt8)) : whole (f :: fs) = whole fs ++ f := by simp [whole]
theorem whole_len (fs : List (List UInt8)) : (whole fs).length = total fs := by
  induction fs with
  | nil => rfl
  | cons f fs ih => rw [whole_cons, List.length_append, ih, total_cons]; omega
theorem Parts.same {w w' : World} {v : Value} {fs : List (List UInt8)} (h : Parts w v fs) (e : ∀ (p : Nat) (cs : Array Value), w.heap[p]? = some (Obj.cells cs 102 (0, 0)) → w'.heap[p]? = w.heap[p]?) : Parts w' v fs := by
  induction fs generalizing v with
  | nil => exact h
  | cons f fs ih =>
    obtain ⟨p, before, hv, hp, hr⟩ := h
    exact ⟨p, before, hv, (e p _ hp).trans hp, ih hr⟩
/-- The Writer in block g. -/
def WS (w : World) (g : Nat) (fs : List (List UInt8)) : Prop :=
  ∃ last, w.heap[g]? = some (.cells #[last, .int .i64 (total fs : Int)] 86 (0, 0)) ∧ Parts w last fs
theorem WS.lt {w : World} {g : Nat} {fs : List (List UInt8)} (h : WS w g fs) : g < w.heap.size := by
  obtain ⟨l, hg, _⟩ := h
  exact (Array.getElem?_eq_some_iff.1 hg).1
theorem WS.below {w w' : World} {g : Nat} {fs : List (List UInt8)} (h : WS w g fs) (hb : Below w.heap.size w w') : WS w' g fs := by
  obtain ⟨l, hg, hp⟩ := h
  exact ⟨l, (hb.block g (Array.getElem?_eq_some_iff.1 hg).1).trans hg, hp.same fun p cs hc => hb.block p (Array.getElem?_eq_some_iff.1 hc).1⟩
theorem own_form {w : World} {base e n : Nat} {v : Value} {xs : List Value} (h : w.ownsRow base e 1 v n xs) (hn : 0 < n) : ∃ g c cur, v = .slice (some ⟨g, 0, none⟩) n c ∧ base ≤ g ∧ w.heap[g]? = some (.cells cur e (0, 0)) ∧ n ≤ cur.size ∧ ∀ j, j < n → cur[j]? = xs[j]? := by
  rcases h.2 with ⟨_, h0⟩ | ⟨g, cap, cur, hv, hbase, hg, hnc, hcap, hsz, htake⟩
  · omega
  · refine ⟨g, cap, cur, hv, hbase, hg, by omega, fun j hj => ?_⟩
    have := congrArg (fun l : List Value => l[j]?) htake
    simp only [Nat.mul_one] at this
    rw [List.getElem?_take_of_lt hj] at this
    rw [← Array.getElem?_toList, this]
theorem add_flat (b off k : Nat) : (⟨b, off, none⟩ : Addr).add k = ⟨b, off + k, none⟩ := by unfold Addr.add; split <;> simp_all

theorem blk_set {w : World} {g off : Nat} {cs : Array Value} {t : TypeId} (v : Value) (h : w.heap[g]? = some (.cells cs t (0, 0))) : (w.setCell ⟨g, off, none⟩ v).heap[g]? = some (.cells (cs.setIfInBounds off v) t (0, 0)) := by
  simp only [World.setCell, Array.getElem?_modify, h]
  simp
/-- What add leaves. -/
def put (w : World) (g : Nat) (q : Option Addr) (s : ByteArray) (n : Int) : World :=
  (((w.setCell ⟨g, 0, none⟩ (.pointer (some ⟨w.heap.size, 0, none⟩))).setCell ⟨g, 1, none⟩ (.int .i64 n)).alloc (.cells #[.pointer q, .string s] 102)).drew
theorem put_ok {w : World} {g : Nat} {fs : List (List UInt8)} {f : List UInt8} {q : Option Addr} (hg : w.heap[g]? = some (.cells #[.pointer q, .int .i64 (total fs : Int)] 86 (0, 0))) (hp : Parts w (.pointer q) fs) :
    WS (put w g q ⟨f.toArray⟩ ((total fs : Int) + (f.length : Int))) g (f :: fs) ∧ w.grownBy (put w g q ⟨f.toArray⟩ ((total fs : Int) + (f.length : Int))) (some g) := by
  have hlt : g < w.heap.size := (Array.getElem?_eq_some_iff.1 hg).1
  have hsz : ((w.setCell ⟨g, 0, none⟩ (.pointer (some ⟨w.heap.size, 0, none⟩))).setCell ⟨g, 1, none⟩ (.int .i64 ((total fs : Int) + (f.length : Int)))).heap.size = w.heap.size := by simp [World.setCell]
  have hother : ∀ i, i < w.heap.size → i ≠ g → (put w g q ⟨f.toArray⟩ ((total fs : Int) + (f.length : Int))).heap[i]? = w.heap[i]? := fun i hi hne => by
    show (World.alloc _ _).heap[i]? = _
    rw [Deep.blk_alloc_lt _ _ _ (by rw [hsz]; exact hi), Deep.blk_setCell_other _ _ _ _ hne, Deep.blk_setCell_other _ _ _ _ hne]
  have hself : (put w g q ⟨f.toArray⟩ ((total fs : Int) + (f.length : Int))).heap[g]? = some (.cells #[.pointer (some ⟨w.heap.size, 0, none⟩), .int .i64 (total (f :: fs) : Int)] 86 (0, 0)) := by
    show (World.alloc _ _).heap[g]? = _
    rw [Deep.blk_alloc_lt _ _ _ (by rw [hsz]; exact hlt), blk_set _ (blk_set _ hg)]
    have : ((total (f :: fs) : Nat) : Int) = (total fs : Int) + (f.length : Int) := by rw [total_cons]; omega
    rw [this]; rfl
  have hnew : (put w g q ⟨f.toArray⟩ ((total fs : Int) + (f.length : Int))).heap[w.heap.size]? = some (.cells #[.pointer q, .string ⟨f.toArray⟩] 102 (0, 0)) := by
    show (World.alloc _ _).heap[w.heap.size]? = _
    have := Deep.blk_alloc_new ((w.setCell ⟨g, 0, none⟩ (.pointer (some ⟨w.heap.size, 0, none⟩))).setCell ⟨g, 1, none⟩ (.int .i64 ((total fs : Int) + (f.length : Int)))) (.cells #[.pointer q, .string ⟨f.toArray⟩] 102)
    rw [hsz] at this
    exact this
  refine ⟨⟨_, hself, ⟨w.heap.size, .pointer q, rfl, hnew, hp.same fun p cs hc => hother p (Array.getElem?_eq_some_iff.1 hc).1 ?_⟩⟩, rfl, rfl, rfl, ?_, fun i hi hne => hother i hi (fun e => hne (by rw [e]))⟩
  · intro e
    rw [e, hg] at hc
    simp at hc
  · show w.heap.size ≤ (World.alloc _ _).heap.size
    rw [Deep.nblk_alloc, hsz]; omega

set_option maxHeartbeats 1000000 in
theorem add_any (g : Nat) (fs : List (List UInt8)) (f : List UInt8) (base : Nat) (v : Value) (hf : 0 < f.length) (hfl : f.length ≤ 1000000) (htot : total fs ≤ 1000000000) (w : World) (hW : WS w g fs) (hown : w.ownsRow base 5 1 v f.length (f.map u8v)) :
    Calls Try.prog 64 #[.pointer (some ⟨g, 0, none⟩), v] w fun e w' => e = .returned (.tuple #[]) ∧ WS w' g (f :: fs) ∧ w.grownBy w' (some g) := by
  obtain ⟨b, c, cur, rfl, _, hblk, hcur, hcell⟩ := own_form hown hf
  obtain ⟨last, hg, hparts⟩ := hW
  obtain ⟨q, rfl⟩ : ∃ q, last = Value.pointer q := by
    cases fs with
    | nil => exact ⟨_, hparts⟩
    | cons f fs => obtain ⟨p, before, hv, _⟩ := hparts; exact ⟨_, hv⟩
  have k1 : ∀ W : World, W.heap[b]? = some (.cells cur 5 (0, 0)) → (convert 90 9 (.slice (some ⟨b, 0, none⟩) f.length c)).run Try.prog W = .ok (.string ⟨f.toArray⟩) W := fun W hW =>
    run_convert_bytes_back W 90 9 5 ⟨b, 0, none⟩ c f Try.underlying90 Try.underlying5 Try.underlying9 (fun j hj => by
      rw [add_flat, Nat.zero_add, cell_of_row W b j cur _ _ hW, hcell j hj]
      simp [u8v, hj])
  have k2 := k1 w.drew hblk
  have c0 := cell_of_row w g 0 _ _ _ hg
  have c1 := cell_of_row w g 1 _ _ _ hg
  have f0 := frozen_of_row w g 0 _ _ hg
  have f1 := frozen_of_row w g 1 _ _ hg
  have Hg := Lib.hid hg
  have HP := Lib.hid hparts
  have Hblk := Lib.hid hblk
  have hglt : g < w.heap.size := (Array.getElem?_eq_some_iff.1 hg).1
  clear hg hparts hblk hcell k1 hown
  go_enter Try.func64, Try.ntmps64
  go_wp2_with fail
  go_region
  (refine (by assumption : ∀ _ _, _ → _) _ _ ?_)
  go_wp2_with fail
  go_end0
  have P := put_ok (f := f) Hg.out HP.out
  exact ⟨rfl, P⟩
end Go.Proofs.Ytomjgkflnfjjbaa
