/- A disk in memory: its block, its map, its files' rows; what an operation on it leaves as it was. -/
import Derived.Test.YtjajmlamlmnljaaDd
import Derived.Maps.OwnSet
import Derived.Maps.Ext
import Derived.StringKeys
namespace Go.Proofs.Ytjajmlamlmnljaa
open Go.ChangeShapes Go.WideShapes Go.ChangeAt Go.RowKit Go.Joins Go.Maps Go.ChangeMaps Go.MapKept

theorem frz {w : World} {g : Nat} {cs : Array Value} {t : TypeId} (h : w.heap[g]? = some (.cells cs t (0, 0))) (k : Nat) : w.frozen? ⟨g, k, none⟩ = false := by simp [World.frozen?, h]
theorem kLaw : Keyed Try.prog 9 := string_keyed Try.underlying9
theorem zeroF (w : World) : (zeroValue 69).run Try.prog w = .ok (default : Rw).val w := by kernel_rfl
/-- Block b of w is a map that reads as the files' records L. -/
def Hm (w : World) (b : Nat) (L : List (Ct Rw)) : Prop := ∃ D : DataW Unit, w.ownsMap Try.prog 9 fileE b L.length D ∧ Tl encR D L ∧ Sd L
theorem owns_tight {w : World} {b n : Nat} {D : DataW Unit} {L : List (Ct Rw)} (h : w.ownsMap Try.prog 9 fileE b n D) (ht : Tl encR D L) : w.ownsMap Try.prog 9 fileE b L.length D := by
  have e := ht.2.1
  obtain ⟨es, clock, hb, F, hs, rfl⟩ := h
  refine ⟨es, clock, hb, F, ?_, rfl⟩
  rw [← e]
  simp [Maps.size, length_sorted]
theorem Hm.made (w : World) : Hm (w.alloc (.map #[] 0)) w.heap.size [] := ⟨.map [], World.ownsMap_made w _ _ _, tl_nil _, List.Pairwise.nil⟩
theorem Hm.sd {w : World} {b : Nat} {L : List (Ct Rw)} (h : Hm w b L) : Sd L := by obtain ⟨_, _, _, h⟩ := h; exact h
theorem Hm.lt {w : World} {b : Nat} {L : List (Ct Rw)} (h : Hm w b L) : b < w.heap.size := by obtain ⟨D, h, _⟩ := h; exact h.lt
theorem Hm.keep {w w' : World} {b : Nat} {L : List (Ct Rw)} (h : Hm w b L) (e : w'.heap[b]? = w.heap[b]?) : Hm w' b L := by
  obtain ⟨D, ⟨es, clock, hb, F, hs, hD⟩, ht⟩ := h
  exact ⟨D, ⟨es, clock, e.trans hb, F, hs, hD⟩, ht⟩
theorem Hm.block {w : World} {b : Nat} {L : List (Ct Rw)} (h : Hm w b L) : ∃ es c, w.heap[b]? = some (.map es c) := by
  obtain ⟨D, ⟨es, clock, hb, _⟩, _⟩ := h
  exact ⟨es, clock, hb⟩
section
variable {w : World} {ops : Array Oper} {rest : List Oper} {o : Oper} {a : Act} {Q : Exit → Act → World → Prop} {b : Nat} {L : List (Ct Rw)}
theorem wpList_get_ok (hg : o.guard = none) (m x : Operand) (hop : o.op = Op.lookup 63 m x true) (b : Nat) (L : List (Ct Rw)) (hm : a.eval m = .map (some b)) (h : Hm w b L) (k : ByteArray) (hk : k.size ≤ 1000000) (hx : a.eval x = .string k)
    (hK : wpList Try.prog ops Q rest (a.put o.dst (.tuple #[(gt L k).val, .bool (decide (hs L k))])) w) : wpList Try.prog ops Q (o :: rest) a w := by
  obtain ⟨D, ho, ht, hS⟩ := h
  refine wpList_lookup_own_ok w hg m x 63 hop 9 69 kLaw Try.underlying63 fileE (zeroF w) (encR default) [] (fileE_mk _) b L.length D hm ho _ (kL k) hx (WideMaps.keyOf_string_mk Try.underlying9 (by unfold maxLen; omega)) (fun v ps hv => ?_)
  obtain ⟨r, rfl, hr⟩ := fileE_inv hv
  rw [tl_at ht] at hr
  injection hr with hr _
  rw [← encR_inj hr, ht.2.2.1]; exact hK
theorem wpList_get (hg : o.guard = none) (m x : Operand) (hop : o.op = Op.lookup 63 m x false) (b : Nat) (L : List (Ct Rw)) (hm : a.eval m = .map (some b)) (h : Hm w b L) (k : ByteArray) (hk : k.size ≤ 1000000) (hx : a.eval x = .string k)
    (hK : wpList Try.prog ops Q rest (a.put o.dst (gt L k).val) w) : wpList Try.prog ops Q (o :: rest) a w := by
  obtain ⟨D, ho, ht, hS⟩ := h
  refine wpList_plain hg fun K' hK' => ?_
  obtain ⟨v, ps, hrun, hv⟩ := ho.lookup kLaw Try.underlying63 (zeroF w) (fileE_mk _) (WideMaps.keyOf_string_mk (k := 9) (s := k) Try.underlying9 (by unfold maxLen; omega))
  obtain ⟨r, rfl, hr⟩ := fileE_inv hv
  rw [show (Lit.string k.data.toList) = kL k from rfl, tl_at ht] at hr
  injection hr with hr _
  rw [← encR_inj hr] at hrun
  unfold Oper.wp
  simp [execOp, hop, hm, hx, hrun, Result.andThen]
  exact hK' _ _ hK
theorem wpList_set (hg : o.guard = none) (m x y : Operand) (hop : o.op = Op.mapUpdate 63 m x y) (b : Nat) (L : List (Ct Rw)) (hm : a.eval m = .map (some b)) (h : Hm w b L) (hl : L.length ≤ 1000000) (k : ByteArray) (hk : k.size ≤ 1000000) (hx : a.eval x = .string k)
    (r : Rw) (hy : a.eval y = r.val)
    (hK : ∀ w', Hm w' b (pt L k r) → w.grownBy w' (some b) → wpList Try.prog ops Q rest (a.put o.dst undef) w') : wpList Try.prog ops Q (o :: rest) a w := by
  obtain ⟨D, ho, ht, hS⟩ := h
  refine wpList_mapUpdate_in w hg m x y 63 hop 9 69 kLaw Try.underlying63 _ b L.length D hm ho (by unfold maxLen; omega) _ _ (kL k) hx hy (WideMaps.keyOf_string_mk Try.underlying9 (by unfold maxLen; omega)) _ [] (fileE_mk r) (fun w' h1 h2 => hK w' ?_ h2.grown)
  have ht' := tl_put ht hS k r
  exact ⟨_, owns_tight h1 ht', ht', sd_pt hS k r⟩
theorem wpList_del (hg : o.guard = none) (m x : Operand) (hop : o.op = Op.call { callee := Callee.builtin Builtin.delete, args := #[m, x], argTypes := #[63, 9] }) (b : Nat) (L : List (Ct Rw)) (hm : a.eval m = .map (some b)) (h : Hm w b L) (k : ByteArray) (hk : k.size ≤ 1000000) (hx : a.eval x = .string k)
    (hK : ∀ w', Hm w' b (dl L k) → w.grownBy w' (some b) → wpList Try.prog ops Q rest (a.put o.dst (.tuple #[])) w') : wpList Try.prog ops Q (o :: rest) a w := by
  obtain ⟨D, ho, ht, hS⟩ := h
  refine wpList_delete_own w hg m x 63 9 hop 69 kLaw Try.underlying63 _ b L.length D hm ho _ (kL k) hx (WideMaps.keyOf_string_mk Try.underlying9 (by unfold maxLen; omega)) (fun w' h1 h2 => hK w' ?_ h2.grown)
  have ht' := tl_del ht hS k
  exact ⟨_, owns_tight h1 ht', ht', sd_dl hS k⟩
theorem wpList_size (hg : o.guard = none) (m : Operand) (hop : o.op = Op.call { callee := Callee.builtin Builtin.len, args := #[m], argTypes := #[63] }) (b : Nat) (L : List (Ct Rw)) (hm : a.eval m = .map (some b)) (h : Hm w b L)
    (hK : wpList Try.prog ops Q rest (a.put o.dst (.int .i64 (L.length : Int))) w) : wpList Try.prog ops Q (o :: rest) a w := by
  obtain ⟨D, ho, ht, hS⟩ := h
  refine wpList_len_own w hg m 63 hop 9 69 Try.underlying63 _ b L.length D hm ho ?_
  rw [ht.2.1]; exact hK
end
/-- What a file is: its record and its bytes. -/
abbrev Fl := Rw × List UInt8
/-- A disk: its capacity, whether it is down, whether it has a limit, how many operations are left, its map's block, its files. -/
structure Ds where
  cap : Int
  dn : Bool
  lim : Bool
  lft : Int
  mp : Option Nat
  fs : List (Ct Fl)
def u8v (x : UInt8) : Value := .int .u8 (x.toNat : Int)
/-- The row of a file. -/
def Rp (w : World) (B : Nat) (f : Fl) : Prop := w.ownsRow B 5 1 f.1.sl f.1.n (f.2.map u8v) ∧ f.1.n = f.2.length ∧ f.1.s ≤ f.1.n
def Ds.row (S : Ds) : Array Value := #[.int .i64 S.cap, .map S.mp, .bool S.dn, .bool S.lim, .int .i64 S.lft]
/-- Block p holds the disk S; its map and its rows lie at B or above. -/
structure Dk (w : World) (B p : Nat) (S : Ds) : Prop where
  blk : w.heap[p]? = some (.cells S.row 65 (0, 0))
  lo : B ≤ p
  non : S.mp = none → S.fs = []
  map : ∀ b, S.mp = some b → B ≤ b ∧ Hm w b (mv Prod.fst S.fs)
  sd : Sd S.fs
  rows : ∀ x ∈ S.fs, Rp w B x.2
  apart : S.fs.Pairwise fun x y => ∀ g, x.2.1.A = some g → y.2.1.A ≠ some g
/-- The blocks of a disk. -/
def Ds.ft (S : Ds) (p i : Nat) : Prop := i = p ∨ S.mp = some i ∨ ∃ x ∈ S.fs, x.2.1.A = some i
/-- From w to w' only the blocks in F have turned, and what is new. -/
structure Tn (F : Nat → Prop) (w w' : World) : Prop where
  os : w'.os = w.os
  tape : w'.tape = w.tape
  output : w'.output = w.output
  size : w.heap.size ≤ w'.heap.size
  block : ∀ i, i < w.heap.size → ¬ F i → w'.heap[i]? = w.heap[i]?
theorem Tn.refl (F : Nat → Prop) (w : World) : Tn F w w := ⟨rfl, rfl, rfl, Nat.le_refl _, fun _ _ _ => rfl⟩
theorem Tn.trans {F G : Nat → Prop} {a b c : World} (h : Tn F a b) (k : Tn G b c) (hG : ∀ i, G i → F i ∨ a.heap.size ≤ i) : Tn F a c :=
  ⟨k.os.trans h.os, k.tape.trans h.tape, k.output.trans h.output, Nat.le_trans h.size k.size, fun i hi hF =>
    (k.block i (Nat.lt_of_lt_of_le hi h.size) fun g => (hG i g).elim hF (fun h => absurd hi (Nat.not_lt.2 h))).trans (h.block i hi hF)⟩
theorem Tn.below {F : Nat → Prop} {B : Nat} {a w w' : World} (h : Tn F w w') (hb : Below B a w) (hF : ∀ i, F i → B ≤ i) (hB : B ≤ a.heap.size) : Below B a w' :=
  ⟨h.os.trans hb.os, h.tape.trans hb.tape, h.output.trans hb.output, Nat.le_trans hb.size h.size, fun i hi => (h.block i (by have := hb.size; omega) (fun g => absurd hi (Nat.not_lt.2 (hF i g)))).trans (hb.block i hi)⟩
theorem Tn.of {F : Nat → Prop} {w w' : World} (h : Below w.heap.size w w') : Tn F w w' := ⟨h.os, h.tape, h.output, h.size, fun i hi _ => h.block i hi⟩
theorem Tn.grown {w w' : World} {row : Option Nat} (h : w.grownBy w' row) {F : Nat → Prop} (hF : ∀ i, row = some i → F i) : Tn F w w' :=
  ⟨h.os, h.tape, h.output, h.size, fun i hi hf => h.block i hi (fun e => hf (hF i e.symm))⟩
theorem Dk.lt {w : World} {B p : Nat} {S : Ds} (h : Dk w B p S) : p < w.heap.size := (Array.getElem?_eq_some_iff.1 h.blk).1
theorem Rp.keep {w w' : World} {B : Nat} {f : Fl} (h : Rp w B f) (e : ∀ g, f.1.A = some g → w'.heap[g]? = w.heap[g]?) : Rp w' B f := by
  obtain ⟨⟨h1, h2⟩, h3⟩ := h
  refine ⟨⟨h1, ?_⟩, h3⟩
  rcases h2 with h2 | ⟨g, cap, cur, e1, h4, h5, h6⟩
  · exact .inl h2
  · refine .inr ⟨g, cap, cur, e1, h4, ?_, h6⟩
    have : f.1.A = some g := by
      unfold Rw.sl at e1
      injection e1 with e1 _ _
      cases hA : f.1.A with
      | none => rw [hA] at e1; cases e1
      | some g' => rw [hA] at e1; injection e1 with e1; injection e1 with e1; rw [e1]
    rw [e g this]; exact h5
/-- A disk stays as it is where none of its blocks has turned. -/
theorem Dk.keep {w w' : World} {B p : Nat} {S : Ds} (h : Dk w B p S) (e : ∀ i, S.ft p i → w'.heap[i]? = w.heap[i]?) : Dk w' B p S :=
  ⟨(e p (.inl rfl)).trans h.blk, h.lo, h.non, fun b hb => ⟨(h.map b hb).1, (h.map b hb).2.keep (e b (.inr (.inl hb)))⟩, h.sd, fun x hx => (h.rows x hx).keep (fun g hg => e g (.inr (.inr ⟨x, hx, hg⟩))), h.apart⟩
theorem Rp.lt {w : World} {B g : Nat} {f : Fl} (h : Rp w B f) (e : f.1.A = some g) : B ≤ g ∧ g < w.heap.size := by
  obtain ⟨⟨h1, h2⟩, h3, _⟩ := h
  rcases h2 with ⟨e1, _⟩ | ⟨g', cap, cur, e1, h4, h5, _⟩
  · unfold Rw.sl at e1; rw [e] at e1; injection e1 with e1; cases e1
  · unfold Rw.sl at e1
    rw [e] at e1
    injection e1 with e1 _ _
    injection e1 with e1
    injection e1 with e1
    subst e1
    exact ⟨h4, (Array.getElem?_eq_some_iff.1 h5).1⟩
theorem Dk.ft_lt {w : World} {B p i : Nat} {S : Ds} (h : Dk w B p S) (hi : S.ft p i) : B ≤ i ∧ i < w.heap.size := by
  rcases hi with rfl | hi | ⟨x, hx, hi⟩
  · exact ⟨h.lo, h.lt⟩
  · exact ⟨(h.map i hi).1, (h.map i hi).2.lt⟩
  · exact (h.rows x hx).lt hi
theorem Dk.below {w w' : World} {B p : Nat} {S : Ds} (h : Dk w B p S) (hb : Below w.heap.size w w') : Dk w' B p S := h.keep fun i hi => hb.block i (h.ft_lt hi).2
theorem Dk.turn {F : Nat → Prop} {w w' : World} {B p : Nat} {S : Ds} (h : Dk w B p S) (hT : Tn F w w') (hF : ∀ i, S.ft p i → ¬ F i) : Dk w' B p S := h.keep fun i hi => hT.block i (h.ft_lt hi).2 (hF i hi)
end Go.Proofs.Ytjajmlamlmnljaa
