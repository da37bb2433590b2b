/- A map of counts: what a walk does with it. -/
import Derived.Test.YtnpjakgdfjaglaaGe
import Derived.Maps.OwnSet
import Derived.Maps.Ext
import Derived.StringKeys
namespace Go.Proofs.Ytnpjakgdfjaglaa
open Go.ChangeShapes Go.WideShapes Go.ChangeAt Go.RowKit Go.Joins Go.Maps Go.ChangeMaps Go.MapKept

theorem kLaw : Keyed Try.prog 9 := string_keyed Try.underlying9
theorem zeroI (w : World) : (zeroValue 3).run Try.prog w = .ok (.int .i64 0) w := by kernel_rfl
/-- Block b of w is a map that reads as the counts L. -/
def Hm (w : World) (b : Nat) (L : List Ct) : Prop := ∃ D : DataW Unit, w.ownsMap Try.prog 9 (plainElem Try.prog 3) b L.length D ∧ Tl D L ∧ Sd L
theorem owns_tight {w : World} {b n : Nat} {D : DataW Unit} {L : List Ct} (h : w.ownsMap Try.prog 9 (plainElem Try.prog 3) b n D) (ht : Tl D L) : w.ownsMap Try.prog 9 (plainElem Try.prog 3) b L.length D := by
  have e := ht.2.1
  obtain ⟨es, clock, hb, F, hs, rfl⟩ := h
  refine ⟨es, clock, hb, F, ?_, rfl⟩
  rw [← e]
  simp [Maps.size, length_sorted]
theorem Hm.made (w : World) : Hm (w.alloc (.map #[] 0)) w.heap.size [] := ⟨.map [], World.ownsMap_made w _ _ _, tl_nil, List.Pairwise.nil⟩
theorem Hm.sd {w : World} {b : Nat} {L : List Ct} (h : Hm w b L) : Sd L := by obtain ⟨_, _, _, h⟩ := h; exact h
theorem Hm.lt {w : World} {b : Nat} {L : List Ct} (h : Hm w b L) : b < w.heap.size := by obtain ⟨D, h, _⟩ := h; exact h.lt
theorem Hm.keep {w w' : World} {b : Nat} {L : List Ct} (h : Hm w b L) (e : w'.heap[b]? = w.heap[b]?) : Hm w' b L := by
  obtain ⟨D, ⟨es, clock, hb, F, hs, hD⟩, ht⟩ := h
  exact ⟨D, ⟨es, clock, e.trans hb, F, hs, hD⟩, ht⟩
theorem Hm.below {w w' : World} {b : Nat} {L : List Ct} (h : Hm w b L) (hb : Below w.heap.size w w') : Hm w' b L := h.keep (hb.block b h.lt)
theorem Hm.block {w : World} {b : Nat} {L : List Ct} (h : Hm w b L) : ∃ es c, w.heap[b]? = some (.map es c) := by
  obtain ⟨D, ⟨es, clock, hb, _⟩, _⟩ := h
  exact ⟨es, clock, hb⟩
theorem int_wf {v : Int} (h : -9223372036854775808 ≤ v ∧ v ≤ 9223372036854775807) : (Lit.int .i64 v).wf = true := by
  simp only [Lit.wf, IntKind.min, IntKind.max, IntKind.signed, IntKind.bits, Bool.and_eq_true, decide_eq_true_eq, if_true]
  omega
section
variable {w : World} {ops : Array Oper} {rest : List Oper} {o : Oper} {a : Act} {Q : Exit → Act → World → Prop} {b : Nat} {L : List Ct}
theorem wpList_get (hg : o.guard = none) (m x : Operand) (hop : o.op = Op.lookup 71 m x false) (b : Nat) (L : List Ct) (hm : a.eval m = .map (some b)) (h : Hm w b L) (k : ByteArray) (hk : k.size ≤ 1000000) (hx : a.eval x = .string k)
    (hK : wpList Try.prog ops Q rest (a.put o.dst (.int .i64 (gt L k))) w) : wpList Try.prog ops Q (o :: rest) a w := by
  obtain ⟨D, ho, ht, hS⟩ := h
  refine wpList_lookup_own_int w hg m x 71 hop 9 3 .i64 kLaw Try.underlying71 Try.underlying3 (zeroI w) b L.length D hm ho _ (kL k) hx (WideMaps.keyOf_string_mk Try.underlying9 (by unfold maxLen; omega)) (fun c hc _ => ?_)
  rw [tl_at ht] at hc
  injection hc with hc
  injection hc with _ hc
  rw [← hc]; exact hK
theorem wpList_getv (hg : o.guard = none) (m x : Operand) (hop : o.op = Op.lookup 71 m x false) (b : Nat) (L : List Ct) (hm : a.eval m = .map (some b)) (h : Hm w b L) (k : ByteArray) (hk : k.size ≤ 1000000) (hx : a.eval x = .string k) (v : Int) (hv : gt L k = v)
    (hK : wpList Try.prog ops Q rest (a.put o.dst (.int .i64 v)) w) : wpList Try.prog ops Q (o :: rest) a w := by
  subst hv; exact wpList_get hg m x hop b L hm h k hk hx hK
theorem wpList_get_ok (hg : o.guard = none) (m x : Operand) (hop : o.op = Op.lookup 71 m x true) (b : Nat) (L : List Ct) (hm : a.eval m = .map (some b)) (h : Hm w b L) (k : ByteArray) (hk : k.size ≤ 1000000) (hx : a.eval x = .string k)
    (hK : wpList Try.prog ops Q rest (a.put o.dst (.tuple #[.int .i64 (gt L k), .bool (decide (hs L k))])) w) : wpList Try.prog ops Q (o :: rest) a w := by
  obtain ⟨D, ho, ht, hS⟩ := h
  refine wpList_lookup_own_ok_int w hg m x 71 hop 9 3 .i64 kLaw Try.underlying71 Try.underlying3 (zeroI w) b L.length D hm ho _ (kL k) hx (WideMaps.keyOf_string_mk Try.underlying9 (by unfold maxLen; omega)) (fun c hc _ => ?_)
  rw [tl_at ht] at hc
  injection hc with hc
  injection hc with _ hc
  rw [← hc, ht.2.2.1]; exact hK
theorem wpList_set (hg : o.guard = none) (m x y : Operand) (hop : o.op = Op.mapUpdate 71 m x y) (b : Nat) (L : List Ct) (hm : a.eval m = .map (some b)) (h : Hm w b L) (hl : L.length ≤ 1000000) (k : ByteArray) (hk : k.size ≤ 1000000) (hx : a.eval x = .string k)
    (v : Int) (hv : -9223372036854775808 ≤ v ∧ v ≤ 9223372036854775807) (hy : a.eval y = .int .i64 v)
    (hK : ∀ w', Hm w' b (pt L k v) → w.grownBy w' (some b) → wpList Try.prog ops Q rest (a.put o.dst undef) w') : wpList Try.prog ops Q (o :: rest) a w := by
  obtain ⟨D, ho, ht, hS⟩ := h
  refine wpList_mapUpdate_own w hg m x y 71 hop 9 3 kLaw Try.underlying71 _ b L.length D hm ho (by unfold maxLen; omega) _ _ (kL k) hx hy (WideMaps.keyOf_string_mk Try.underlying9 (by unfold maxLen; omega)) _ [] (plainElem_int Try.underlying3 (int_wf hv)) (fun w' h1 h2 => hK w' ?_ h2)
  have ht' := tl_put ht hS k v
  exact ⟨_, owns_tight h1 ht', ht', sd_pt hS k v⟩
theorem wpList_del (hg : o.guard = none) (m x : Operand) (hop : o.op = Op.call { callee := Callee.builtin Builtin.delete, args := #[m, x], argTypes := #[71, 9] }) (b : Nat) (L : List Ct) (hm : a.eval m = .map (some b)) (h : Hm w b L) (k : ByteArray) (hk : k.size ≤ 1000000) (hx : a.eval x = .string k)
    (hK : ∀ w', Hm w' b (dl L k) → w.grownBy w' (some b) → wpList Try.prog ops Q rest (a.put o.dst (.tuple #[])) w') : wpList Try.prog ops Q (o :: rest) a w := by
  obtain ⟨D, ho, ht, hS⟩ := h
  refine wpList_delete_own w hg m x 71 9 hop 3 kLaw Try.underlying71 _ b L.length D hm ho _ (kL k) hx (WideMaps.keyOf_string_mk Try.underlying9 (by unfold maxLen; omega)) (fun w' h1 h2 => hK w' ?_ h2.grown)
  have ht' := tl_del ht hS k
  exact ⟨_, owns_tight h1 ht', ht', sd_dl hS k⟩
theorem wpList_size (hg : o.guard = none) (m : Operand) (hop : o.op = Op.call { callee := Callee.builtin Builtin.len, args := #[m], argTypes := #[71] }) (b : Nat) (L : List Ct) (hm : a.eval m = .map (some b)) (h : Hm w b L)
    (hK : wpList Try.prog ops Q rest (a.put o.dst (.int .i64 (L.length : Int))) w) : wpList Try.prog ops Q (o :: rest) a w := by
  obtain ⟨D, ho, ht, hS⟩ := h
  refine wpList_len_own w hg m 71 hop 9 3 Try.underlying71 _ b L.length D hm ho ?_
  rw [ht.2.1]; exact hK
end
end Go.Proofs.Ytnpjakgdfjaglaa
