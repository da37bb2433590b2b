/- A map that may be nil; check, Crash, operate, New. -/
import Derived.Test.YtjajmlamlmnljaaDe
import Derived.Lib.Hide
namespace Go.Proofs.Ytjajmlamlmnljaa
open Go.ChangeShapes Go.WideShapes Go.ChangeAt Go.RowKit Go.Joins Go.Maps Go.ChangeMaps Go.MapKept

/-- A map value that reads as the files' records L; nil if there are none. -/
def Mp (w : World) (mp : Option Nat) (L : List (Ct Rw)) : Prop := (mp = none ∧ L = []) ∨ ∃ b, mp = some b ∧ Hm w b L
theorem Dk.mp {w : World} {B p : Nat} {S : Ds} (h : Dk w B p S) : Mp w S.mp (mv Prod.fst S.fs) := by
  cases e : S.mp with
  | none => exact .inl ⟨rfl, by rw [h.non e]; rfl⟩
  | some b => exact .inr ⟨b, rfl, (h.map b e).2⟩
theorem Mp.below {w w' : World} {mp : Option Nat} {L : List (Ct Rw)} (h : Mp w mp L) (hb : Below w.heap.size w w') : Mp w' mp L :=
  h.imp_right fun ⟨b, e, h⟩ => ⟨b, e, h.keep (hb.block b h.lt)⟩
section
variable {w : World} {ops : Array Oper} {rest : List Oper} {o : Oper} {a : Act} {Q : Exit → Act → World → Prop}
theorem wpList_getm_ok (hg : o.guard = none) (m x : Operand) (hop : o.op = Op.lookup 63 m x true) (mp : Option Nat) (L : List (Ct Rw)) (hm : a.eval m = .map mp) (h : Mp w mp L) (k : ByteArray) (hk : k.size ≤ 1000000) (hx : a.eval x = .string k)
    (hK : wpList Try.prog ops Q rest (a.put o.dst (.tuple #[(gt L k).val, .bool (decide (hs L k))])) w) : wpList Try.prog ops Q (o :: rest) a w := by
  rcases h with ⟨rfl, rfl⟩ | ⟨b, rfl, h⟩
  · refine wpList_plain hg fun K' hK' => ?_
    have hrun := Maps.look_nil (w := w) (P := Try.prog) true kLaw Try.underlying63 (zeroF w) (WideMaps.keyOf_string_mk (k := 9) (s := k) Try.underlying9 (by unfold maxLen; omega))
    unfold Oper.wp
    simp [execOp, hop, hm, hx, hrun, Result.andThen]
    have e : (gt ([] : List (Ct Rw)) k) = default := rfl
    rw [e, show decide (hs ([] : List (Ct Rw)) k) = false by simp [hs]] at hK
    exact hK' _ _ hK
  · exact wpList_get_ok hg m x hop b L hm h k hk hx hK
theorem wpList_sizem (hg : o.guard = none) (m : Operand) (hop : o.op = Op.call { callee := Callee.builtin Builtin.len, args := #[m], argTypes := #[63] }) (mp : Option Nat) (L : List (Ct Rw)) (hm : a.eval m = .map mp) (h : Mp w mp L)
    (hK : wpList Try.prog ops Q rest (a.put o.dst (.int .i64 (L.length : Int))) w) : wpList Try.prog ops Q (o :: rest) a w := by
  rcases h with ⟨rfl, rfl⟩ | ⟨b, rfl, h⟩
  · refine wpList_plain hg fun K' hK' => ?_
    have hrun := Maps.len_nil (w := w) (P := Try.prog) Try.underlying63 o.type
    unfold Oper.wp
    simp [execOp, hop, resolve, invoke, builtin, hm, hrun, Result.andThen]
    exact hK' _ _ hK
  · exact wpList_size hg m hop b L hm h hK
end
/-- The error that comes first. -/
def ckE (dn : Bool) (names : List ByteArray) : Int := if dn then 27 else if names.all nmK then 0 else 11
theorem ck_nil (dn : Bool) : ckE dn [] = if dn then 27 else 0 := rfl
set_option maxRecDepth 100000 in
set_option maxHeartbeats 4000000 in
theorem check_any (p : Nat) (S : Ds) (A : Option Addr) (c : Nat) (names : List ByteArray) (hl : names.length ≤ 1000000) (hsz : ∀ s ∈ names, s.size ≤ 1000000) (w : World) (hd : w.heap[p]? = some (.cells S.row 65 (0, 0))) (hR : Rd Value.string w A names) :
    Calls Try.prog 43 #[.pointer (some ⟨p, 0, none⟩), .slice A names.length c] w fun e w' => e = .returned (.int .i64 (ckE S.dn names)) ∧ Below w.heap.size w w' := by
  have c2 := cell_of_row _ _ 2 _ _ _ hd
  simp [Ds.row] at c2
  have HR := Lib.hid hR
  have HZ := Lib.hid hsz
  obtain ⟨dn, hdn⟩ : ∃ dn, dn = S.dn := ⟨_, rfl⟩
  rw [← hdn] at c2 ⊢
  obtain ⟨ln, hln⟩ : ∃ ln, ln = names.length := ⟨_, rfl⟩
  have HLn := Lib.hid hln
  rw [← hln] at hl ⊢
  clear hd hR hsz hdn hln
  cases dn with
  | true =>
    go_enter Try.func43, Try.ntmps43
    go_wp2_with fail
    go_ret
    exact ⟨rfl, Below.refl _ _⟩
  | false =>
    have HE : Hid (ckE false names = if names.all nmK then 0 else 11) := Lib.hid rfl
    obtain ⟨z, hz⟩ : ∃ z, z = ckE false names := ⟨_, rfl⟩
    rw [← hz] at HE ⊢
    clear hz
    go_enter Try.func43, Try.ntmps43
    go_wp2_with fail
    go_loopw [6, 17] (fun _s iv wr => ∃ k : Nat, k ≤ ln ∧ iv = .int .i64 (k : Int) ∧ Hid (∀ i (hi : i < names.length), i < k → nmK names[i] = true) ∧ Hid (Below w.heap.size w wr)) (fun _ iv _ => ln - (intOf iv).toNat)
    case atStart => exact ⟨0, Nat.zero_le _, rfl, Lib.hid (fun i _ h => absurd h (by omega)), Lib.hid (Below.refl _ _)⟩
    case round =>
      obtain ⟨k, hk, rfl, HN, HB⟩ := hrel
      have hk0 : (0 : Int) ≤ (k : Int) := by omega
      by_cases hkj : k < ln
      · have hkD : k < names.length := by rw [← HLn.out]; exact hkj
        obtain ⟨b, off, rfl, hg, f0⟩ := (HR.out.below HB.out) k hkD
        have hsx := HZ.out _ (List.getElem_mem hkD)
        have HNx : Hid (nmK names[k] = true → ∀ i (hi : i < names.length), i < k + 1 → nmK names[i] = true) := Lib.hid (fun hne i hi h => by
          by_cases e : i = k
          · subst e; exact hne
          · exact HN.out i hi (by omega))
        have HFx : Hid (nmK names[k] = false → names.all nmK = false) := Lib.hid (fun h => by
          rw [List.all_eq_false]
          exact ⟨_, List.getElem_mem hkD, by rw [h]; decide⟩)
        obtain ⟨x, hx⟩ : ∃ x, x = names[k] := ⟨_, rfl⟩
        rw [← hx] at f0 HNx HFx hsx
        have HIs := Lib.hid (fun W => name_any x hsx W)
        clear hx hkD hsx
        have hkI : (k : Int) < (ln : Int) := by omega
        have hwk : IntKind.i64.wrap ((k : Int) + 1) = (k : Int) + 1 := by simp only [IntKind.wrap_i64]; omega
        go_wp2_with fail
        refine (HIs.out _).mono ?_
        rintro e w1 ⟨rfl, hb⟩
        have HB2 := Lib.hid (HB.out.trans (hb.mono HB.out.size))
        clear hb
        cases hn : nmK x with
        | true =>
          have HN2 := Lib.hid (HNx.out hn)
          go_wp2_with fail
          go_roundw
          case rel => exact ⟨k + 1, by omega, by go_num, HN2, HB2⟩
          case measure => simp [intOf] <;> omega
        | false =>
          have HF := Lib.hid (HFx.out hn)
          go_wp2_with fail
          go_ret
          exact ⟨by rw [HE.out, HF.out]; rfl, HB2.out⟩
      · obtain rfl : k = ln := by omega
        have hkI : ¬ (k : Int) < (k : Int) := by omega
        have HF : Hid (names.all nmK = true) := Lib.hid (by
          rw [List.all_eq_true]
          intro x hx
          obtain ⟨i, hi, rfl⟩ := List.getElem_of_mem hx
          exact HN.out i hi (by rw [HLn.out]; exact hi))
        go_wp2_with fail
        go_ret
        exact ⟨by rw [HE.out, HF.out]; rfl, HB.out⟩
theorem check_nil (v : Value) (w : World) : Calls Try.prog 43 #[.pointer none, v] w fun e w' => e = .returned (.int .i64 1) ∧ Below w.heap.size w w' := by
  go_enter Try.func43, Try.ntmps43
  go_wp2_with fail
  go_ret
  exact ⟨rfl, Below.refl _ _⟩
theorem tn_cell {w : World} {p j : Nat} {cs : Array Value} (hd : w.heap[p]? = some (.cells cs 65 (0, 0))) (v : Value) : (w.setCell ⟨p, j, none⟩ v).heap[p]? = some (.cells (cs.setIfInBounds j v) 65 (0, 0)) ∧ Tn (· = p) w (w.setCell ⟨p, j, none⟩ v) :=
  ⟨blk_set v hd, rfl, rfl, rfl, by simp, fun i _ h => Below.heap_setCell w _ _ _ h⟩
theorem crash_any (p : Nat) (S : Ds) (w : World) (hd : w.heap[p]? = some (.cells S.row 65 (0, 0))) :
    Calls Try.prog 17 #[.pointer (some ⟨p, 0, none⟩)] w fun e w' => e = .returned (.tuple #[]) ∧ w'.heap[p]? = some (.cells { S with dn := true }.row 65 (0, 0)) ∧ Tn (· = p) w w' := by
  have hT := tn_cell (j := 2) hd (.bool true)
  have c2 := cell_of_row _ _ 2 _ _ _ hd
  have f2 := frz hd 2
  have hp := (Array.getElem?_eq_some_iff.1 hd).1
  simp [Ds.row] at c2
  have HT := Lib.hid hT
  clear hd hT
  go_enter Try.func17, Try.ntmps17
  go_wp2_with fail
  refine bodyPost_end (results_none rfl _ _ _) rfl ?_
  exact ⟨rfl, HT.out.1, HT.out.2⟩
/-- What counting an operation does. -/
def opS (S : Ds) : Ds × Int := if S.lim = false then (S, 0) else if S.lft = 0 then ({ S with dn := true }, 27) else ({ S with lft := S.lft - 1 }, 0)
set_option maxHeartbeats 1000000 in
theorem operate_any (p : Nat) (S : Ds) (hl : 0 ≤ S.lft ∧ S.lft ≤ 9223372036854775807) (w : World) (hd : w.heap[p]? = some (.cells S.row 65 (0, 0))) :
    Calls Try.prog 46 #[.pointer (some ⟨p, 0, none⟩)] w fun e w' => e = .returned (.int .i64 (opS S).2) ∧ w'.heap[p]? = some (.cells (opS S).1.row 65 (0, 0)) ∧ Tn (· = p) w w' := by
  have c3 := cell_of_row _ _ 3 _ _ _ hd
  have c4 := cell_of_row _ _ 4 _ _ _ hd
  have hp := (Array.getElem?_eq_some_iff.1 hd).1
  have f4 := frz hd 4
  simp [Ds.row] at c3 c4
  have HC := Lib.hid (crash_any p S w hd)
  have HT := Lib.hid (tn_cell (j := 4) hd (.int .i64 (S.lft - 1)))
  have HD := Lib.hid hd
  have HS : Hid (opS S = if S.lim = false then (S, 0) else if S.lft = 0 then ({ S with dn := true }, 27) else ({ S with lft := S.lft - 1 }, 0)) := Lib.hid rfl
  obtain ⟨Z, hZ⟩ : ∃ Z, Z = opS S := ⟨_, rfl⟩
  rw [← hZ] at HS ⊢
  obtain ⟨lm, hlm⟩ : ∃ lm, lm = S.lim := ⟨_, rfl⟩
  obtain ⟨lf, hlf⟩ : ∃ lf, lf = S.lft := ⟨_, rfl⟩
  have HLf := Lib.hid hlf
  have HLm := Lib.hid hlm
  rw [← hlm] at c3
  rw [← hlf] at c4 hl HT
  clear hd hZ hlm hlf
  cases lm with
  | false =>
    have HZ : Hid (Z = (S, 0)) := Lib.hid (by rw [HS.out, if_pos HLm.out.symm])
    go_enter Try.func46, Try.ntmps46
    go_wp2_with fail
    go_ret
    rw [HZ.out]
    exact ⟨rfl, HD.out, Tn.refl _ _⟩
  | true =>
    by_cases h0 : lf = 0
    · have h0b : (lf == 0) = true := by simpa using h0
      have HZ : Hid (Z = ({ S with dn := true }, 27)) := Lib.hid (by rw [HS.out, if_neg (by rw [← HLm.out]; decide), if_pos (by rw [← HLf.out]; exact h0)])
      clear h0
      go_enter Try.func46, Try.ntmps46
      go_wp2_with fail
      refine HC.out.mono ?_
      rintro e w1 ⟨rfl, hd1, hT⟩
      have HD1 := Lib.hid hd1
      have HT1 := Lib.hid hT
      clear hd1 hT
      go_wp2_with fail
      go_ret
      rw [HZ.out]
      exact ⟨rfl, HD1.out, HT1.out⟩
    · have h0b : (lf == 0) = false := by simpa using h0
      have HZ : Hid (Z = ({ S with lft := S.lft - 1 }, 0)) := Lib.hid (by rw [HS.out, if_neg (by rw [← HLm.out]; decide), if_neg (by rw [← HLf.out]; exact h0)])
      have hw1 : IntKind.i64.wrap (lf - 1) = lf - 1 := by simp only [IntKind.wrap_i64]; omega
      clear h0
      go_enter Try.func46, Try.ntmps46
      go_wp2_with fail
      go_ret
      rw [HZ.out, show ({ S with lft := S.lft - 1 } : Ds).row = S.row.setIfInBounds 4 (.int .i64 (lf - 1)) by rw [HLf.out]; rfl]
      exact ⟨rfl, HT.out.1, HT.out.2⟩
theorem new_any (n : Int) (w : World) :
    Calls Try.prog 13 #[.int .i64 n] w fun e w' => (if n < 0 ∨ 67108864 < n then e = .returned (.tuple #[.pointer none, .int .i64 2]) else e = .returned (.tuple #[.pointer (some ⟨w.heap.size, 0, none⟩), .int .i64 0]) ∧ Dk w' w.heap.size w.heap.size ⟨n, false, false, 0, none, []⟩) ∧ Below w.heap.size w w' := by
  by_cases h1 : n < 0
  · have d1 : decide (n < 0) = true := by simpa using h1
    simp only [if_pos (Or.inl h1 : n < 0 ∨ 67108864 < n)]
    clear h1
    go_enter Try.func13, Try.ntmps13
    go_wp2_with fail
    refine bodyPost_ret (results_tmp2 rfl _ _ _) rfl ⟨rfl, Below.refl _ _⟩
  · have d1 : decide (n < 0) = false := by simpa using h1
    by_cases h2 : 67108864 < n
    · have d2 : decide (67108864 < n) = true := by simpa using h2
      simp only [if_pos (Or.inr h2 : n < 0 ∨ 67108864 < n)]
      clear h1 h2
      go_enter Try.func13, Try.ntmps13
      go_wp2_with fail
      refine bodyPost_ret (results_tmp2 rfl _ _ _) rfl ⟨rfl, Below.refl _ _⟩
    · have d2 : decide (67108864 < n) = false := by simpa using h2
      simp only [if_neg (fun h => h.elim h1 h2 : ¬ (n < 0 ∨ 67108864 < n))]
      clear h1 h2
      go_enter Try.func13, Try.ntmps13
      go_wp2_with fail
      refine bodyPost_ret (results_tmp2 rfl _ _ _) rfl ⟨⟨rfl, ?_⟩, (Below.refl _ _).alloc (Nat.le_refl _) _⟩
      exact ⟨Deep.blk_alloc_new _ _, Nat.le_refl _, (fun _ => rfl), (fun b h => nomatch h), List.Pairwise.nil, (fun x hx => nomatch hx), List.Pairwise.nil⟩
end Go.Proofs.Ytjajmlamlmnljaa
