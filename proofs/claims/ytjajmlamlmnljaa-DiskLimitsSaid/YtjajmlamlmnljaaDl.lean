/- Used. -/
import Derived.Test.YtjajmlamlmnljaaDk
import Derived.Maps.RangeWalk
namespace Go.Proofs.Ytjajmlamlmnljaa
open Go.ChangeShapes Go.WideShapes Go.ChangeAt Go.RowKit Go.Joins Go.Maps Go.ChangeMaps Go.MapKept

/-- The sum over those that are still to come. -/
def svl {β : Type} (f : β → Nat) (left : Lit → Bool) (L : List (Ct β)) : Nat := (L.map fun p => if left (kL p.1) = true then f p.2 else 0).sum
theorem svl_all {β : Type} (f : β → Nat) {left : Lit → Bool} {L : List (Ct β)} (h : ∀ p ∈ L, left (kL p.1) = true) : svl f left L = sv f L := by
  unfold svl sv
  congr 1
  exact List.map_congr_left fun p hp => by rw [if_pos (h p hp)]
theorem svl_none {β : Type} (f : β → Nat) {left : Lit → Bool} (L : List (Ct β)) (h : ∀ z, left z = false) : svl f left L = 0 := by
  unfold svl
  induction L with
  | nil => rfl
  | cons p L ih => rw [List.map_cons, List.sum_cons, ih, if_neg (by rw [h]; decide)]
theorem svl_congr {β : Type} (f : β → Nat) {left left' : Lit → Bool} {L : List (Ct β)} (h : ∀ p ∈ L, left (kL p.1) = left' (kL p.1)) : svl f left L = svl f left' L := by
  unfold svl
  congr 1
  exact List.map_congr_left fun p hp => by rw [h p hp]
theorem svl_app {β : Type} (f : β → Nat) (left : Lit → Bool) (A B : List (Ct β)) : svl f left (A ++ B) = svl f left A + svl f left B := by simp [svl]
theorem same_self (k : ByteArray) : (kL k).sameKey (kL k) = true := by simp [kL, Lit.sameKey]
theorem same_other {a b : ByteArray} (h : a ≠ b) : (kL a).sameKey (kL b) = false := by
  cases e : (kL a).sameKey (kL b) with
  | false => rfl
  | true => exact absurd (kL_inj (WideAt.sameKey_eq e)) h
theorem svl_step {β : Type} (f : β → Nat) {left : Lit → Bool} {L : List (Ct β)} (hS : Sd L) {p : Ct β} (hp : p ∈ L) (h : left (kL p.1) = true) :
    svl f left L = svl f (fun z => left z && !z.sameKey (kL p.1)) L + f p.2 := by
  obtain ⟨A, B, rfl⟩ := List.append_of_mem hp
  obtain ⟨h1, h2, _, _⟩ := sd_mid hS
  rw [show A ++ p :: B = A ++ ([p] ++ B) from rfl, svl_app, svl_app, svl_app, svl_app]
  have eA : svl f (fun z => left z && !z.sameKey (kL p.1)) A = svl f left A := svl_congr f fun q hq => by
    rw [same_other (bl_not (h1 q hq))]; simp
  have eB : svl f (fun z => left z && !z.sameKey (kL p.1)) B = svl f left B := svl_congr f fun q hq => by
    rw [same_other (fun e => bl_not (h2 q hq) e.symm)]; simp
  have eP : svl f (fun z => left z && !z.sameKey (kL p.1)) [p] = 0 := by simp [svl, same_self]
  have eP' : svl f left [p] = f p.2 := by simp [svl, h]
  rw [eA, eB, eP, eP']
  omega
theorem sv_mv (fs : List (Ct Fl)) : sv (fun r : Rw => r.n) (mv Prod.fst fs) = sv (fun f : Fl => f.1.n) fs := by
  unfold sv mv; rw [List.map_map]; rfl
theorem key_inv (key : Value) (kl : Lit) (h : keyOf Try.prog 9 key = some kl) : ∃ x : ByteArray, key = .string x ∧ kl = kL x := by
  cases key <;> simp [keyOf, Try.underlying9, mapKey] at h
  rename_i s
  obtain ⟨_, rfl⟩ := h
  exact ⟨s, rfl, rfl⟩
theorem range_none (w : World) : (Instr.range 63 (.map none)).run Try.prog w = .ok (.pointer (some ⟨w.heap.size, 0, none⟩)) (w.alloc (.mapIter none 0 #[] 0)) := by kernel_rfl
theorem next_none {w : World} {r : Nat} (h : w.heap[r]? = some (.mapIter none 0 #[] 0)) (ty : TypeId) : (Instr.next (.pointer (some ⟨r, 0, none⟩)) false ty).run Try.prog w = .ok (.tuple #[.bool false]) w := by
  have hg : (getObj r).run Try.prog w = .ok (.mapIter none 0 #[] 0) w := by simp [getObj, Sem.run, h]
  simp [Instr.next, hg, Result.andThen]
theorem next_none' (w : World) (ty : TypeId) : (Instr.next (.pointer (some ⟨w.heap.size, 0, none⟩)) false ty).run Try.prog (w.alloc (.mapIter none 0 #[] 0)) = .ok (.tuple #[.bool false]) (w.alloc (.mapIter none 0 #[] 0)) := next_none (Deep.blk_alloc_new _ _) ty
set_option maxRecDepth 100000 in
set_option maxHeartbeats 4000000 in
theorem used_any (B p : Nat) (S : Ds) (hu : sv (fun f : Fl => f.1.n) S.fs ≤ 1000000000) (w : World) (hD : Dk w B p S) :
    Calls Try.prog 32 #[.pointer (some ⟨p, 0, none⟩)] w fun e w' => e = .returned (.int .i64 (if S.dn = true then 0 else ((sv (fun f : Fl => f.1.n) S.fs : Nat) : Int))) ∧ Below w.heap.size w w' := by
  have HCk := Lib.hid (check_any p S none 0 [] (by simp) (fun s h => nomatch h) w hD.blk Rd.nil)
  have HDk := Lib.hid hD
  obtain ⟨tot, ht⟩ : ∃ tot, tot = sv (fun f : Fl => f.1.n) S.fs := ⟨_, rfl⟩
  have HTt := Lib.hid ht
  rw [← ht] at hu ⊢
  have HSb : Hid ((Try.prog.info? 69).map (fun i => i.size) = some 3) := Lib.hid (by kernel_rfl)
  obtain ⟨dn, hdn⟩ : ∃ dn, dn = S.dn := ⟨_, rfl⟩
  have HDn := Lib.hid hdn
  rw [← hdn] at HCk ⊢
  dsimp only [List.length_nil] at HCk
  rw [ck_nil] at HCk
  clear hD ht hdn
  cases dn with
  | true =>
    simp only [if_true] at HCk ⊢
    go_enter Try.func32, Try.ntmps32
    go_wp2_with fail
    refine HCk.out.mono ?_
    rintro e w1 ⟨rfl, hb⟩
    have HB := Lib.hid hb
    clear hb
    go_wp2_with fail
    go_ret
    exact ⟨rfl, HB.out⟩
  | false =>
    simp only [Bool.false_eq_true, if_false] at HCk ⊢
    have hor : S.mp = none ∨ ∃ b, S.mp = some b := by cases S.mp <;> simp
    rcases hor with hmp | ⟨b, hmp⟩
    · have HNil := Lib.hid (HDk.out.non hmp)
      have HM := Lib.hid hmp
      clear hmp
      go_enter Try.func32, Try.ntmps32
      go_wp2_with fail
      refine HCk.out.mono ?_
      rintro e w1 ⟨rfl, hb⟩
      have c1 := cell_of_row _ _ 1 _ _ _ (HDk.out.below hb).blk
      simp [Ds.row] at c1
      rw [HM.out] at c1
      have HB := Lib.hid hb
      clear hb
      have q1 := range_none
      go_wp2_with fail
      clear q1
      go_loopw [3, 5] (fun uv _fv wr => uv = .int .i64 0 ∧ wr = w1.alloc (.mapIter none 0 #[] 0)) (fun _ _ _ => 0)
      case atStart => exact ⟨rfl, rfl⟩
      case round =>
        obtain ⟨rfl, rfl⟩ := hrel
        have q2 := next_none' w1
        go_wp2_with fail
        go_ret
        have h0 : tot = 0 := by rw [HTt.out, HNil.out]; rfl
        exact ⟨by rw [h0]; rfl, HB.out.trans (((Below.refl _ _).alloc (Nat.le_refl _) _).mono HB.out.size)⟩
    · have HM := Lib.hid hmp
      clear hmp
      go_enter Try.func32, Try.ntmps32
      go_wp2_with fail
      refine HCk.out.mono ?_
      rintro e w1 ⟨rfl, hb⟩
      have hD1 := HDk.out.below hb
      have c1 := cell_of_row _ _ 1 _ _ _ hD1.blk
      simp [Ds.row] at c1
      rw [HM.out] at c1
      have hH := (hD1.map b HM.out).2
      obtain ⟨D, hown, htl, hS⟩ := hH
      have HO := Lib.hid hown
      have HTl := Lib.hid htl
      have HS := Lib.hid hS
      have HB := Lib.hid hb
      have hbl := hown.lt
      clear hb hD1 hown htl hS
      go_wp2_with (at_range; go_loud (refine wpList_range_own _ rfl _ 63 rfl 9 69 kLaw Try.underlying63 fileE b _ D rfl HO.out ?_); go_loud (intro w3 hrg hg3 hs3); have HRg := Lib.hid hrg; have HG3 := Lib.hid hg3; have HS3 := Lib.hid hs3; clear hrg hg3 hs3)
      obtain ⟨L, hL⟩ : ∃ L, L = mv Prod.fst S.fs := ⟨_, rfl⟩
      have hTot : sv (fun r : Rw => r.n) L = tot := by rw [hL, sv_mv]; exact HTt.out.symm
      rw [← hL] at HRg HTl HS
      have HTot := Lib.hid hTot
      have HHas : Hid (∀ p ∈ L, Maps.has D (kL p.1) = true) := Lib.hid (fun p hp => by rw [HTl.out.2.2.1]; exact decide_eq_true (mem_keys hp))
      have HB3 := Lib.hid (HB.out.trans ((show Below w1.heap.size w1 w3 from ⟨HG3.out.os, HG3.out.tape, HG3.out.output, HG3.out.size, fun i hi => HG3.out.block i hi (by simp)⟩).mono HB.out.size))
      have HWs := Lib.hid HB.out.size
      clear hL hTot c1
      go_frame
      go_loopw [3, 5] (fun uv _fv wr => ∃ (u : Nat) (left : Lit → Bool) (cnt : Nat), uv = .int .i64 (u : Int) ∧ Hid (wr.ranges Try.prog 9 fileE b w1.heap.size L.length D left cnt) ∧ Hid (u + svl (fun r : Rw => r.n) left L = tot) ∧ Hid (∀ z, left z = true → Maps.has D z = true) ∧ Hid (Below w.heap.size w wr)) (fun _ _ wr => wr.rangeLeft b w1.heap.size)
      case atStart => exact ⟨0, _, _, rfl, HRg, Lib.hid (by rw [svl_all _ HHas.out, Nat.zero_add]; exact HTot.out), Lib.hid (fun z h => h), HB3⟩
      case round =>
        obtain ⟨u, left, cnt, rfl, HRr, HU, HSub, HBr⟩ := hrel
        go_wp2_with (at_next; go_loud (refine wpList_next_ranges _ rfl _ rfl 9 kLaw fileE Value.string Rw.val (fun key kl h => (key_inv key kl h).imp fun x h => h.1) (fun v y h => (fileE_inv h).imp fun r h => h.1) b w1.heap.size L.length D left cnt rfl HRr.out ?_ ?_))
        case refine_1 =>
          intro hc0 hl0
          have e : u = tot := by have := HU.out; rw [svl_none _ _ hl0] at this; omega
          go_wp2_with fail
          go_ret
          exact ⟨by rw [e]; rfl, HBr.out⟩
        case refine_2 =>
          intro x c kl a ps w' cnt' hkey hlk hfe hat hrg hlt hgr hsz hen
          obtain ⟨x', ex, hkl⟩ := key_inv _ _ hkey
          injection ex with ex
          subst ex
          subst hkl
          rw [fileE_mk] at hfe
          injection hfe with hfe
          injection hfe with hfe _
          have hx : hs L x := by
            have h1 := HSub.out _ hlk
            rw [HTl.out.2.2.1, decide_eq_true_eq] at h1
            exact h1
          have hc : c = gt L x := by
            have h1 := hat (encR default)
            rw [HTl.out.2.2.2 x hx, ← hfe] at h1
            exact (encR_inj h1).symm
          have hmem := gt_in hx
          rw [← hc] at hmem
          have hst := svl_step (fun r : Rw => r.n) HS.out hmem hlk
          dsimp only at hst
          have hu2 := HU.out
          rw [hst] at hu2
          have HU2 : Hid ((u + c.n) + svl (fun r : Rw => r.n) (fun z => left z && !z.sameKey (kL x)) L = tot) := Lib.hid (by omega)
          have HSub2 : Hid (∀ z, (left z && !z.sameKey (kL x)) = true → Maps.has D z = true) := Lib.hid (fun z hz => HSub.out z (by simp at hz; exact hz.1))
          have hb1 : Below w.heap.size w w' := ⟨hgr.os.trans HBr.out.os, hgr.tape.trans HBr.out.tape, hgr.output.trans HBr.out.output, Nat.le_trans HBr.out.size hgr.size, fun i hi => (hgr.block i (by have := HBr.out.size; omega) (fun e => by injection e with e; have := HWs.out; omega)).trans (HBr.out.block i hi)⟩
          have HB1 := Lib.hid hb1
          have HRg2 := Lib.hid hrg
          have hlt2 : cnt' < cnt := hlt
          have hbd : c.n ≤ 1000000000 := by omega
          have hbd2 : u ≤ 1000000000 := by omega
          obtain ⟨A9, hA9⟩ : ∃ A9, A9 = c.A.map fun g => (⟨g, 0, none⟩ : Addr) := ⟨_, rfl⟩
          have hen2 : (Instr.entry (.pointer (some ⟨w1.heap.size, 0, none⟩))).run Try.prog w' = .ok (.tuple #[.string x, .agg #[.slice A9 c.n c.c, .int .i64 (c.s : Int), .bool c.d]]) w' := by rw [hA9]; exact hen
          have hv : c.val = .agg #[.slice A9 c.n c.c, .int .i64 (c.s : Int), .bool c.d] := by rw [hA9]; rfl
          rw [hv]
          have HA : Hid ((w'.alloc (.cells #[.slice none 0 0, .int .i64 0, .bool false] 69)).heap[w'.heap.size]? = some (.cells #[.slice none 0 0, .int .i64 0, .bool false] 69 (0, 0))) := Lib.hid (Deep.blk_alloc_new _ _)
          have H1r : Hid ((#[.slice A9 c.n c.c, .int .i64 (c.s : Int), .bool c.d] : Array Value).all (·.oneCell') = true) := Lib.hid (by simp [Value.oneCell'])
          have y0 := cell_of_row _ _ 0 _ _ _ (setRow_heap _ _ _ #[.slice A9 c.n c.c, .int .i64 (c.s : Int), .bool c.d] _ _ HA.out)
          simp at y0
          have hwa : IntKind.i64.wrap ((u : Int) + (c.n : Int)) = (u : Int) + (c.n : Int) := by simp only [IntKind.wrap_i64]; omega
          have HB9 : Hid (Below w.heap.size w ((w'.alloc (.cells #[.slice none 0 0, .int .i64 0, .bool false] 69)).setRow w'.heap.size #[.slice A9 c.n c.c, .int .i64 (c.s : Int), .bool c.d])) := Lib.hid (below_setRow (HB1.out.alloc HB1.out.size _) HB1.out.size)
          have HRg9 : Hid (((w'.alloc (.cells #[.slice none 0 0, .int .i64 0, .bool false] 69)).setRow w'.heap.size #[.slice A9 c.n c.c, .int .i64 (c.s : Int), .bool c.d]).ranges Try.prog 9 fileE b w1.heap.size L.length D (fun z => left z && !z.sameKey (kL x)) cnt') := Lib.hid (by
            rw [alloc_setRow]; exact HRg2.out.alloc _)
          clear hkey hlk hfe hat hrg hlt hgr hsz hen hx hc hmem hst hu2 hb1 hA9 hv
          go_wp2_with (go_loud (refine wpList_store_row rfl _ _ _ rfl w'.heap.size #[.slice A9 c.n c.c, .int .i64 (c.s : Int), .bool c.d] rfl rfl 69 _ HA.out HSb.out rfl H1r.out ?_))
          go_roundw
          case rel => exact ⟨u + c.n, _, cnt', by go_num, HRg9, HU2, HSub2, HB9⟩
          case measure => rw [HRg9.out.left_eq, HRr.out.left_eq]; omega
end Go.Proofs.Ytjajmlamlmnljaa
