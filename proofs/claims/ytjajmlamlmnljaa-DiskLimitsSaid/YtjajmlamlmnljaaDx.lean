/- What a disk holds, without its addresses: two disks that hold the same answer the same. -/
import Derived.Test.YtjajmlamlmnljaaDw
namespace Go.Proofs.Ytjajmlamlmnljaa
open Go.ChangeShapes Go.WideShapes Go.ChangeAt Go.RowKit Go.Joins Go.Maps Go.ChangeMaps Go.MapKept

/-- A file as it is seen: how many bytes, how many are durable, whether it is, and the bytes. -/
abbrev Vw : Type := Nat × Nat × Bool × List UInt8
def vf (f : Fl) : Vw := (f.1.n, f.1.s, f.1.d, f.2)
def vw (L : List (Ct Fl)) : List (Ct Vw) := mv vf L
theorem hs_vw (L : List (Ct Fl)) (k : ByteArray) : hs (vw L) k ↔ hs L k := hs_mv vf L k
theorem gt_vw (L : List (Ct Fl)) (k : ByteArray) : gt (vw L) k = vf (gt L k) := by
  by_cases h : hs L k
  · exact gt_mv _ _ _ h
  · rw [gt_none h, gt_none (fun e => h ((hs_vw L k).1 e))]; rfl
theorem len_vw (L : List (Ct Fl)) : (vw L).length = L.length := by simp [vw, mv]
theorem us_vw (L : List (Ct Fl)) : usF L = sv (fun v : Vw => v.1) (vw L) := by
  unfold usF sv vw mv
  rw [List.map_map]; rfl
theorem pt_vw (L : List (Ct Fl)) (k : ByteArray) (f : Fl) : vw (pt L k f) = pt (vw L) k (vf f) := pt_mv vf L k f
theorem dl_vw (L : List (Ct Fl)) (k : ByteArray) : vw (dl L k) = dl (vw L) k := dl_mv vf L k
/-- Both are up or down, and hold the same. -/
structure Sm (S T : Ds) : Prop where
  cap : S.cap = T.cap
  dn : S.dn = T.dn
  fs : vw S.fs = vw T.fs
theorem Sm.hs {S T : Ds} (h : Sm S T) (k : ByteArray) : hs S.fs k ↔ hs T.fs k := by rw [← hs_vw, h.fs, hs_vw]
theorem Sm.gt {S T : Ds} (h : Sm S T) (k : ByteArray) : vf (gt S.fs k) = vf (gt T.fs k) := by rw [← gt_vw, h.fs, gt_vw]
theorem Sm.us {S T : Ds} (h : Sm S T) : usF S.fs = usF T.fs := by rw [us_vw, h.fs, us_vw]
theorem Sm.len {S T : Ds} (h : Sm S T) : S.fs.length = T.fs.length := by rw [← len_vw, h.fs, len_vw]
theorem Sm.ap0 {S T : Ds} (h : Sm S T) (k data : ByteArray) : ap0 S k data = ap0 T k data := by
  have h1 := h.hs k
  have h2 := h.len
  have h3 := h.us
  have h4 := h.cap
  have h5 := h.dn
  unfold Go.Proofs.Ytjajmlamlmnljaa.ap0
  rw [h5, h2, h3, h4]
  by_cases e : Go.Proofs.Ytjajmlamlmnljaa.hs T.fs k
  · have e' := h1.2 e
    simp only [e, e', not_true_eq_false, false_and, if_false]
  · have e' := fun x => e (h1.1 x)
    simp only [e, show ¬ Go.Proofs.Ytjajmlamlmnljaa.hs S.fs k from e']
theorem Sm.fn {S T : Ds} (h : Sm S T) (ns : List ByteArray) (k : ByteArray) : (fnE S ns k).2 = (fnE T ns k).2 := by
  have h1 := h.hs k
  unfold fnE
  rw [h.dn]
  by_cases c : ckE T.dn ns = 0
  · rw [if_pos c, if_pos c]
    by_cases e : Go.Proofs.Ytjajmlamlmnljaa.hs T.fs k
    · rw [if_pos (h1.2 e), if_pos e]
    · rw [if_neg (fun x => e (h1.1 x)), if_neg e]
  · rw [if_neg c, if_neg c]
theorem Sm.pt {S T : Ds} (h : Sm S T) (k : ByteArray) (f g : Fl) (e : vf f = vf g) : vw (pt S.fs k f) = vw (pt T.fs k g) := by rw [pt_vw, pt_vw, h.fs, e]
theorem Sm.dl {S T : Ds} (h : Sm S T) (k : ByteArray) : vw (dl S.fs k) = vw (dl T.fs k) := by rw [dl_vw, dl_vw, h.fs]
theorem Sm.sy {S T : Ds} (h : Sm S T) (k : ByteArray) : vw (sySL S.fs k) = vw (sySL T.fs k) := by
  have e := h.gt k
  unfold vf at e
  injection e with e1 e2
  injection e2 with e2 e3
  injection e3 with e3 e4
  refine h.pt k _ _ ?_
  unfold vf
  simp only [e1, e4]
theorem Sm.rn {S T : Ds} (h : Sm S T) (k k2 : ByteArray) : vw (rnL S.fs k k2) = vw (rnL T.fs k k2) := by
  unfold rnL
  rw [pt_vw, pt_vw, h.dl k, h.gt k]
end Go.Proofs.Ytjajmlamlmnljaa
