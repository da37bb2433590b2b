/- Two disks that hold the same, one of them with a limit, behind an operation. -/
import Derived.Test.YtjajmlamlmnljaaDx
namespace Go.Proofs.Ytjajmlamlmnljaa
open Go.ChangeShapes Go.WideShapes Go.ChangeAt Go.RowKit Go.Joins Go.Maps Go.ChangeMaps Go.MapKept

/-- What lies apart stays apart. -/
theorem apart_step {w w1 : World} {C p q : Nat} {S S1 T : Ds} (hT : Dk w C q T) (ap : ∀ i, S.ft p i → ¬ T.ft q i) (hTn : Tn (S.ft p) w w1) (hF : ∀ i, S1.ft p i → S.ft p i ∨ w.heap.size ≤ i) :
    Dk w1 C q T ∧ ∀ i, S1.ft p i → ¬ T.ft q i :=
  ⟨hT.turn hTn (fun i hi hS => ap i hS hi), fun i hi ht => (hF i hi).elim (fun hs => ap i hs ht) (fun hs => by have := (hT.ft_lt ht).2; omega)⟩
/-- S has a limit, T none; else they are the same. -/
structure St (left : Int) (S T : Ds) : Prop where
  lim : S.lim = true
  lft : S.lft = left
  up : S.dn = false
  lim2 : T.lim = false
  lft2 : T.lft = 0
  sm : Sm S T
def Out (left : Int) (x y : Ds × Int) : Prop :=
  (y.2 ≠ 0 ∧ x.2 = y.2 ∧ St left x.1 y.1) ∨ (y.2 = 0 ∧ left = 0 ∧ x.2 = 27 ∧ x.1.dn = true ∧ x.1.lft = 0) ∨ (y.2 = 0 ∧ 0 < left ∧ x.2 = 0 ∧ St (left - 1) x.1 y.1)
noncomputable def gS (S : Ds) (ns : List ByteArray) (k : ByteArray) (L : List (Ct Fl)) : Ds × Int := if (bgE S ns k).2.2 = 0 then ({ (bgE S ns k).1 with fs := L }, 0) else ((bgE S ns k).1, (bgE S ns k).2.2)
theorem op_lim {S : Ds} (h : S.lim = true) : opS S = if S.lft = 0 then ({ S with dn := true }, 27) else ({ S with lft := S.lft - 1 }, 0) := by
  unfold opS; rw [if_neg (by rw [h]; decide)]
theorem op_free {S : Ds} (h : S.lim = false) : opS S = (S, 0) := by
  unfold opS; rw [if_pos h]
theorem out_gen {left : Int} {S T : Ds} (hl : 0 ≤ left) (h : St left S T) (ns : List ByteArray) (k : ByteArray) (L1 L2 : List (Ct Fl)) (hv : vw L1 = vw L2) : Out left (gS S ns k L1) (gS T ns k L2) := by
  have hc := h.sm.fn ns k
  by_cases c : (fnE T ns k).2 = 0
  · have bT : bgE T ns k = (T, (fnE T ns k).1, 0) := by unfold bgE; rw [if_pos c, op_free h.lim2]
    have gT : gS T ns k L2 = ({ T with fs := L2 }, 0) := by unfold gS; rw [bT, if_pos rfl]
    rw [c] at hc
    by_cases hz : left = 0
    · have bS : bgE S ns k = ({ S with dn := true }, (fnE S ns k).1, 27) := by unfold bgE; rw [if_pos hc, op_lim h.lim, if_pos (by rw [h.lft]; exact hz)]
      have g1 : gS S ns k L1 = ({ S with dn := true }, 27) := by unfold gS; rw [bS, if_neg (show ¬ (27 : Int) = 0 by decide)]
      rw [gT, g1]
      exact .inr (.inl ⟨rfl, hz, rfl, rfl, h.lft.trans hz⟩)
    · have bS : bgE S ns k = ({ S with lft := S.lft - 1 }, (fnE S ns k).1, 0) := by unfold bgE; rw [if_pos hc, op_lim h.lim, if_neg (by rw [h.lft]; exact hz)]
      have g1 : gS S ns k L1 = ({ S with lft := S.lft - 1, fs := L1 }, 0) := by unfold gS; rw [bS, if_pos rfl]
      rw [gT, g1]
      refine .inr (.inr ⟨rfl, by omega, rfl, ⟨h.lim, ?_, h.up, h.lim2, h.lft2, ⟨h.sm.cap, h.sm.dn, hv⟩⟩⟩)
      show S.lft - 1 = left - 1
      rw [h.lft]
  · have bT : bgE T ns k = (T, (fnE T ns k).1, (fnE T ns k).2) := by unfold bgE; rw [if_neg c]
    have bS : bgE S ns k = (S, (fnE S ns k).1, (fnE T ns k).2) := by unfold bgE; rw [hc, if_neg c]
    have gT : gS T ns k L2 = (T, (fnE T ns k).2) := by unfold gS; rw [bT, if_neg c]
    have g1 : gS S ns k L1 = (S, (fnE T ns k).2) := by unfold gS; rw [bS, if_neg c]
    rw [gT, g1]
    exact .inl ⟨c, rfl, h⟩
theorem out_sync {left : Int} {S T : Ds} (hl : 0 ≤ left) (h : St left S T) (k : ByteArray) : Out left (syS S k) (syS T k) := out_gen hl h [k] k _ _ (h.sm.sy k)
theorem out_remove {left : Int} {S T : Ds} (hl : 0 ≤ left) (h : St left S T) (k : ByteArray) : Out left (rmS S k) (rmS T k) := out_gen hl h [k] k _ _ (h.sm.dl k)
theorem out_rename {left : Int} {S T : Ds} (hl : 0 ≤ left) (h : St left S T) (k k2 : ByteArray) : Out left (rnS S k k2) (rnS T k k2) := out_gen hl h [k, k2] k _ _ (h.sm.rn k k2)
theorem out_append {left : Int} {S T S1 T1 : Ds} (hl : 0 ≤ left) (h : St left S T) (k data : ByteArray) (hS : ApR S k data S1) (hT : ApR T k data T1) : Out left (S1, apE S k data) (T1, apE T k data) := by
  have hc := h.sm.ap0 k data
  by_cases c : ap0 T k data = 0
  · rw [c] at hc
    unfold ApR at hS hT
    rw [if_pos hc] at hS
    rw [if_pos c] at hT
    obtain ⟨b, r, _, n1, s1, d1, rfl⟩ := hS
    obtain ⟨b', r', _, n2, s2, d2, rfl⟩ := hT
    have e := h.sm.gt k
    unfold vf at e
    injection e with e1 e2
    injection e2 with e2 e3
    injection e3 with e3 e4
    have hv := h.sm.pt k (r, (gt S.fs k).2 ++ data.data.toList) (r', (gt T.fs k).2 ++ data.data.toList) (by
      unfold vf
      dsimp only
      rw [n1, n2, s1, s2, d1, d2, e1, e2, e3, e4])
    have eT : apE T k data = 0 := by unfold apE; rw [if_pos c, op_free h.lim2]
    rw [eT, op_free (S := ⟨T.cap, T.dn, T.lim, T.lft, some b', _⟩) h.lim2, op_lim (S := ⟨S.cap, S.dn, S.lim, S.lft, some b, _⟩) h.lim]
    by_cases hz : left = 0
    · have eS : apE S k data = 27 := by unfold apE; rw [if_pos hc, op_lim h.lim, if_pos (by rw [h.lft]; exact hz)]
      rw [eS, if_pos (by show S.lft = 0; rw [h.lft]; exact hz)]
      exact .inr (.inl ⟨rfl, hz, rfl, rfl, h.lft.trans hz⟩)
    · have eS : apE S k data = 0 := by unfold apE; rw [if_pos hc, op_lim h.lim, if_neg (by rw [h.lft]; exact hz)]
      rw [eS, if_neg (by show ¬ S.lft = 0; rw [h.lft]; exact hz)]
      refine .inr (.inr ⟨rfl, by omega, rfl, ⟨h.lim, ?_, h.up, h.lim2, h.lft2, ⟨h.sm.cap, h.sm.dn, hv⟩⟩⟩)
      show S.lft - 1 = left - 1
      rw [h.lft]
  · have c' : ¬ ap0 S k data = 0 := by rw [hc]; exact c
    unfold ApR at hS hT
    rw [if_neg c'] at hS
    rw [if_neg c] at hT
    subst hS hT
    have eT : apE T1 k data = ap0 T1 k data := by unfold apE; rw [if_neg c]
    have eS : apE S1 k data = ap0 T1 k data := by unfold apE; rw [if_neg c', hc]
    rw [eT, eS]
    exact .inl ⟨c, rfl, h⟩
end Go.Proofs.Ytjajmlamlmnljaa
