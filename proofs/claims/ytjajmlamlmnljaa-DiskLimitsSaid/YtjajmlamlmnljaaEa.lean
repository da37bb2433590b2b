/- The four operations on two disks, one of them with a limit. -/
import Derived.Test.YtjajmlamlmnljaaDz
namespace Go.Proofs.Ytjajmlamlmnljaa
open Go.ChangeShapes Go.WideShapes Go.ChangeAt Go.RowKit Go.Joins Go.Maps Go.ChangeMaps Go.MapKept

/-- What an operation makes of a disk: 0 Append, 1 Sync, 2 Rename, 3 Remove. -/
def Res (κ : Nat) (S : Ds) (k k2 data : ByteArray) (x : Ds × Int) : Prop :=
  if κ = 0 then x.2 = apE S k data ∧ ApR S k data x.1 else if κ = 1 then x = syS S k else if κ = 2 then x = rnS S k k2 else x = rmS S k
def Post (κ : Nat) (S : Ds) (p : Nat) (k k2 data : ByteArray) (w : World) (e : Ending) (w' : World) : Prop :=
  ∃ x, Res κ S k k2 data x ∧ e = .returned (.int .i64 x.2) ∧ Dk w' p p x.1 ∧ Tn (S.ft p) w w' ∧ ∀ i, x.1.ft p i → S.ft p i ∨ w.heap.size ≤ i
theorem ft_mp {S : Ds} {p i : Nat} (h : i = p ∨ S.mp = some i) : S.ft p i := h.elim .inl fun h => .inr (.inl h)
theorem append_post (p : Nat) (S : Ds) (hl : 0 ≤ S.lft ∧ S.lft ≤ 100) {j : Nat} (hj : j ≤ 60) (hb : S.fs.length ≤ j ∧ usF S.fs ≤ j * (40 * j)) (hcap : 0 ≤ S.cap ∧ S.cap ≤ 100000) (k k2 data : ByteArray) (hk : k.size ≤ 100) (hd : data.size ≤ 40) (w : World) (hB : p ≤ w.heap.size) (hD : Dk w p p S) :
    Calls Try.prog 24 #[.pointer (some ⟨p, 0, none⟩), .string k, .string data] w (Post 0 S p k k2 data w) := by
  have hu : usF S.fs ≤ 100000000 := by
    have : j * (40 * j) ≤ 60 * (40 * 60) := Nat.mul_le_mul hj (Nat.mul_le_mul_left _ hj)
    omega
  refine (append_any p p S (by omega) (by omega) hu (by omega) k (by omega) data (by omega) w hB hD).mono ?_
  rintro e w' ⟨rfl, ⟨S', hD', hA, hF⟩, hT⟩
  exact ⟨(S', apE S k data), by unfold Res; rw [if_pos rfl]; exact ⟨rfl, hA⟩, rfl, hD', hT, hF⟩
theorem sync_post (p : Nat) (S : Ds) (hl : 0 ≤ S.lft ∧ S.lft ≤ 100) (hb : S.fs.length ≤ 60) (k k2 data : ByteArray) (hk : k.size ≤ 100) (w : World) (hB : p ≤ w.heap.size) (hD : Dk w p p S) :
    Calls Try.prog 22 #[.pointer (some ⟨p, 0, none⟩), .string k] w (Post 1 S p k k2 data w) := by
  refine (sync_any p p S (by omega) (by omega) k (by omega) w hB hD).mono ?_
  rintro e w' ⟨rfl, hD', hT⟩
  exact ⟨syS S k, rfl, rfl, hD', hT.imp fun i h => ft_mp h, fun i h => .inl (ft_sync S k p i h)⟩
theorem rename_post (p : Nat) (S : Ds) (hl : 0 ≤ S.lft ∧ S.lft ≤ 100) (hb : S.fs.length ≤ 60) (k k2 data : ByteArray) (hk : k.size ≤ 100) (hk2 : k2.size ≤ 100) (w : World) (hB : p ≤ w.heap.size) (hD : Dk w p p S) :
    Calls Try.prog 25 #[.pointer (some ⟨p, 0, none⟩), .string k, .string k2] w (Post 2 S p k k2 data w) := by
  refine (rename_any p p S (by omega) (by omega) k k2 (by omega) (by omega) w hB hD).mono ?_
  rintro e w' ⟨rfl, hD', hT⟩
  exact ⟨rnS S k k2, rfl, rfl, hD', hT.imp fun i h => ft_mp h, fun i h => .inl (ft_rename S k k2 p i h)⟩
theorem remove_post (p : Nat) (S : Ds) (hl : 0 ≤ S.lft ∧ S.lft ≤ 100) (k k2 data : ByteArray) (hk : k.size ≤ 100) (w : World) (hD : Dk w p p S) :
    Calls Try.prog 26 #[.pointer (some ⟨p, 0, none⟩), .string k] w (Post 3 S p k k2 data w) := by
  refine (remove_any p p S (by omega) k (by omega) w hD).mono ?_
  rintro e w' ⟨rfl, hD', hT⟩
  exact ⟨rmS S k, rfl, rfl, hD', hT.imp fun i h => ft_mp h, fun i h => .inl (ft_remove S k p i h)⟩
/-- Two disks that hold the same and lie apart, behind j operations. -/
structure Tw (j : Nat) (left : Int) (w : World) (p q : Nat) (S T : Ds) : Prop where
  a : Dk w p p S
  b : Dk w q q T
  ap : ∀ i, S.ft p i → ¬ T.ft q i
  st : St left S T
  bd : Bd j S.fs
  hl : 0 ≤ left
  cap : 0 ≤ S.cap ∧ S.cap ≤ 100000
theorem Tw.below {j : Nat} {left : Int} {w w' : World} {p q : Nat} {S T : Ds} (h : Tw j left w p q S T) (hb : Below w.heap.size w w') : Tw j left w' p q S T := ⟨h.a.below hb, h.b.below hb, h.ap, h.st, h.bd, h.hl, h.cap⟩
theorem res_out {κ : Nat} {left : Int} {S T : Ds} (hl : 0 ≤ left) (h : St left S T) (k k2 data : ByteArray) {x y : Ds × Int} (hx : Res κ S k k2 data x) (hy : Res κ T k k2 data y) : Out left x y := by
  unfold Res at hx hy
  by_cases e0 : κ = 0
  · rw [if_pos e0] at hx hy
    have := out_append hl h k data hx.2 hy.2
    rw [← hx.1, ← hy.1] at this
    exact this
  · rw [if_neg e0] at hx hy
    by_cases e1 : κ = 1
    · rw [if_pos e1] at hx hy
      subst hx hy
      exact out_sync hl h k
    · rw [if_neg e1] at hx hy
      by_cases e2 : κ = 2
      · rw [if_pos e2] at hx hy
        subst hx hy
        exact out_rename hl h k k2
      · rw [if_neg e2] at hx hy
        subst hx hy
        exact out_remove hl h k
theorem res_bd {κ j : Nat} {S : Ds} (h : Bd j S.fs) (hS : Sd S.fs) (k k2 data : ByteArray) (hd : data.size ≤ 40) {x : Ds × Int} (hx : Res κ S k k2 data x) : Bd (j + 1) x.1.fs := by
  unfold Res at hx
  by_cases e0 : κ = 0
  · rw [if_pos e0] at hx
    exact bd_append h hS k data hd hx.2
  · rw [if_neg e0] at hx
    by_cases e1 : κ = 1
    · rw [if_pos e1] at hx
      subst hx
      exact bd_sync h hS k
    · rw [if_neg e1] at hx
      by_cases e2 : κ = 2
      · rw [if_pos e2] at hx
        subst hx
        exact bd_rename h hS k k2
      · rw [if_neg e2] at hx
        subst hx
        exact bd_remove h k
theorem gs_cap (S : Ds) (ns : List ByteArray) (k : ByteArray) (L : List (Ct Fl)) : (gS S ns k L).1.cap = S.cap := by
  unfold gS
  split <;> exact (bg_mp S ns k).2.2
theorem res_cap {κ : Nat} {S : Ds} {k k2 data : ByteArray} {x : Ds × Int} (hx : Res κ S k k2 data x) : x.1.cap = S.cap := by
  unfold Res at hx
  by_cases e0 : κ = 0
  · rw [if_pos e0] at hx
    have hA := hx.2
    unfold ApR at hA
    split at hA
    · obtain ⟨b, r, _, _, _, _, e⟩ := hA
      rw [e, (opS_mp _).2.2]
    · rw [hA]
  · rw [if_neg e0] at hx
    by_cases e1 : κ = 1
    · rw [if_pos e1] at hx
      subst hx
      exact gs_cap S [k] k _
    · rw [if_neg e1] at hx
      by_cases e2 : κ = 2
      · rw [if_pos e2] at hx
        subst hx
        exact gs_cap S [k, k2] k _
      · rw [if_neg e2] at hx
        subst hx
        exact gs_cap S [k] k _
/-- Behind the operation on the first disk the second is as it was; behind that on the second both are again so. -/
theorem Tw.mid {κ j : Nat} {left : Int} {w w1 : World} {p q : Nat} {S T : Ds} {e : Ending} {k k2 data : ByteArray} (h : Tw j left w p q S T) (hp : Post κ S p k k2 data w e w1) :
    ∃ x, Res κ S k k2 data x ∧ e = .returned (.int .i64 x.2) ∧ Dk w1 p p x.1 ∧ Dk w1 q q T ∧ (∀ i, x.1.ft p i → ¬ T.ft q i) ∧ Tn (S.ft p) w w1 := by
  obtain ⟨x, hx, he, hD, hT, hF⟩ := hp
  obtain ⟨h1, h2⟩ := apart_step h.b h.ap hT hF
  exact ⟨x, hx, he, hD, h1, h2, hT⟩
theorem Tw.fin {κ j : Nat} {left : Int} {w w1 w2 : World} {p q : Nat} {S T : Ds} {e : Ending} {k k2 data : ByteArray} (hd : data.size ≤ 40) (h : Tw j left w p q S T) {x : Ds × Int} (hx : Res κ S k k2 data x) (hD : Dk w1 p p x.1) (hap : ∀ i, x.1.ft p i → ¬ T.ft q i) (hq : Post κ T q k k2 data w1 e w2) :
    ∃ y : Ds × Int, e = .returned (.int .i64 y.2) ∧ Dk w2 p p x.1 ∧ Tn (T.ft q) w1 w2 ∧ ((y.2 ≠ 0 ∧ x.2 = y.2 ∧ Tw (j + 1) left w2 p q x.1 y.1) ∨ (y.2 = 0 ∧ left = 0 ∧ x.2 = 27 ∧ x.1.dn = true ∧ x.1.lft = 0 ∧ x.1.fs.length ≤ j + 1) ∨ (y.2 = 0 ∧ 0 < left ∧ x.2 = 0 ∧ Tw (j + 1) (left - 1) w2 p q x.1 y.1)) := by
  obtain ⟨y, hy, he, hD2, hT, hF⟩ := hq
  obtain ⟨h1, h2⟩ := apart_step hD (fun i a b => hap i b a) hT hF
  have hb := res_bd h.bd h.a.sd k k2 data hd hx
  have hc : 0 ≤ x.1.cap ∧ x.1.cap ≤ 100000 := by rw [res_cap hx]; exact h.cap
  refine ⟨y, he, h1, hT, ?_⟩
  rcases res_out h.hl h.st k k2 data hx hy with ⟨a, b, c⟩ | ⟨a, b, c, d, d2⟩ | ⟨a, b, c, d⟩
  · exact .inl ⟨a, b, ⟨h1, hD2, fun i u v => h2 i v u, c, hb, h.hl, hc⟩⟩
  · exact .inr (.inl ⟨a, b, c, d, d2, hb.len⟩)
  · exact .inr (.inr ⟨a, b, c, ⟨h1, hD2, fun i u v => h2 i v u, d, hb, by omega, hc⟩⟩)
theorem sync_down (p : Nat) (S : Ds) (hd : S.dn = true) (hl : S.lft = 0) (hf : S.fs.length ≤ 100) (k : ByteArray) (hk : k.size ≤ 100) (w : World) (hB : p ≤ w.heap.size) (hD : Dk w p p S) :
    Calls Try.prog 22 #[.pointer (some ⟨p, 0, none⟩), .string k] w fun e w' => e = .returned (.int .i64 27) ∧ Tn (S.ft p) w w' := by
  have hf0 : (fnE S [k] k).2 = 27 := by unfold fnE; rw [hd]; rfl
  have hs : (syS S k).2 = 27 := by
    have : bgE S [k] k = (S, (fnE S [k] k).1, 27) := by unfold bgE; rw [hf0, if_neg (show ¬ (27 : Int) = 0 by decide)]
    unfold syS; rw [this, if_neg (show ¬ (27 : Int) = 0 by decide)]
  refine (sync_any p p S (by omega) (by omega) k (by omega) w hB hD).mono ?_
  rintro e w' ⟨rfl, _, hT⟩
  exact ⟨by rw [hs], hT.imp fun i h => ft_mp h⟩
end Go.Proofs.Ytjajmlamlmnljaa
