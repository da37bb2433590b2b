/- Start (written by wip/bin/gen_dq26.py). -/
import Derived.Test.YtjajmlamlmnljaaDp
import Derived.Deep.QuietTactic
namespace Go.Proofs.Ytjajmlamlmnljaa
open Go.ChangeShapes Go.WideShapes Go.ChangeAt Go.RowKit Go.Joins Go.Maps Go.ChangeMaps Go.MapKept

theorem rem_any (c : Int) (m : Nat) (hm : 0 < m ∧ m ≤ 2000000000) (w : World) :
    Calls Try.prog 41 #[.int .i64 c, .int .i64 (m : Int)] w fun e w' => e = .returned (.int .i64 (c % (m : Int))) ∧ w' = w := by
  have hm0 : (m : Int) ≠ 0 := by omega
  have h2 := Int.tmod_lt_of_pos c (show (0 : Int) < m by omega)
  have h3 := Int.lt_tmod_of_pos c (show (0 : Int) < m by omega)
  have h4 : (c.tmod (m : Int) + (m : Int)).tmod (m : Int) = c % (m : Int) := by
    rw [Int.tmod_eq_emod_of_nonneg (by omega), Int.tmod_def, show c - (m : Int) * c.tdiv m + m = c + m * (1 - c.tdiv m) by rw [Int.mul_sub, Int.mul_one]; omega, Int.add_mul_emod_self_left]
  have w1 : IntKind.i64.wrap (c.tmod (m : Int)) = c.tmod (m : Int) := by simp only [IntKind.wrap_i64]; omega
  have w2 : IntKind.i64.wrap (c.tmod (m : Int) + (m : Int)) = c.tmod (m : Int) + (m : Int) := by simp only [IntKind.wrap_i64]; omega
  have h5 := Int.emod_nonneg c hm0
  have h6 := Int.emod_lt_of_pos c (show (0 : Int) < m by omega)
  have w3 : IntKind.i64.wrap (c % (m : Int)) = c % (m : Int) := by simp only [IntKind.wrap_i64]; omega
  clear h2 h3 h5 h6
  go_enter Try.func41, Try.ntmps41
  go_wp2_with fail
  go_ret
  exact ⟨rfl, rfl⟩
/-- How many bytes survive of a file, by the next number of a script. -/
def cutN (f : Fl) (sc : List Int) : Nat := f.1.s + (sc.headD 0 % ((f.1.n - f.1.s + 1 : Nat) : Int)).toNat
/-- What survives of files, by a script. -/
def stF : List (Ct Fl) → List Int → List (Ct Fl)
  | [], _ => []
  | x :: L, sc => if x.2.1.d = false then stF L sc else if x.2.1.s < x.2.1.n then (x.1, (⟨x.2.1.A, cutN x.2 sc, x.2.1.c, cutN x.2 sc, x.2.1.d⟩, x.2.2.take (cutN x.2 sc))) :: stF L sc.tail else x :: stF L sc
def stS (S : Ds) (sc : List Int) : Ds := if S.dn = true then ⟨S.cap, false, false, 0, S.mp, stF S.fs sc⟩ else S
theorem rd_turn {α : Type} {enc : α → Value} {F : Nat → Prop} {w w' : World} {A : Option Addr} {L : List α} (h : Rd enc w A L) (hT : Tn F w w') (hA : ∀ b off, A = some ⟨b, off, none⟩ → b < w.heap.size → ¬ F b) : Rd enc w' A L := fun k hk => by
  obtain ⟨b, off, e, hb, hc⟩ := h k hk
  exact ⟨b, off, e, Nat.lt_of_lt_of_le hb hT.size, (World.cell?_of_block (hT.block b hb (hA b off e hb))).trans hc⟩
theorem sl_tail (A : Option Addr) (ln c : Nat) (h1 : 1 ≤ ln) (_h2 : ln ≤ c) (W : World) : (Instr.slice 36 (.slice A ln c) (some (.int .i64 1)) none none).run Try.prog W = .ok (.slice (if c = 1 then A else A.map (fun a => a.add 1)) (ln - 1) (c - 1)) W := by
  simp [go_sem, Try.underlying36, show (1 : Int) ≤ (ln : Int) by omega, sliced]
theorem rd_tail {w : World} {A : Option Addr} {L : List Int} {c : Nat} (h : Rd (Value.int .i64) w A L) (hc : L.length ≤ c) : Rd (Value.int .i64) w (if c = 1 then A else A.map (fun a => a.add 1)) L.tail := fun k hk => by
  have hk1 : k + 1 < L.length := by rw [List.length_tail] at hk; omega
  obtain ⟨b, off, rfl, hb, hv⟩ := h (k + 1) hk1
  rw [if_neg (by omega)]
  refine ⟨b, off + 1, by simp [add_flat], hb, ?_⟩
  rw [List.getElem_tail, ← hv, show off + 1 + k = off + (k + 1) by omega]
theorem rp_cut {w : World} {B : Nat} {f : Fl} (h : Rp w B f) (m : Nat) (hm : m ≤ f.1.n) (d : Bool) : Rp w B (⟨f.1.A, m, f.1.c, m, d⟩, f.2.take m) := by
  obtain ⟨⟨h1, h2⟩, h3, _⟩ := h
  obtain ⟨⟨A, n, c, s, d0⟩, bs⟩ := f
  dsimp only at h1 h2 h3 hm ⊢
  have hl : (List.map u8v (bs.take m)).length = m * 1 := by rw [List.length_map, List.length_take]; omega
  refine ⟨⟨hl, ?_⟩, by show m = (bs.take m).length; rw [List.length_take]; omega, Nat.le_refl _⟩
  rcases h2 with ⟨e1, h0⟩ | ⟨g, cap, cur, e1, h4, h5, h6, h7, h8, h9⟩
  · obtain rfl : m = 0 := by have h0 : n = 0 := h0; omega
    refine .inl ⟨?_, rfl⟩
    unfold Rw.sl at e1 ⊢
    injection e1 with q1 q2 q3
    dsimp only at q1 q3 ⊢
    rw [q1, q3]
  · refine .inr ⟨g, cap, cur, ?_, h4, h5, Nat.le_trans hm h6, h7, h8, ?_⟩
    · unfold Rw.sl at e1 ⊢
      injection e1 with q1 q2 q3
      dsimp only at q1 q3 ⊢
      rw [q1, q3]
    · rw [Nat.mul_one] at h9 ⊢
      rw [List.map_take, ← h9, List.take_take, Nat.min_eq_left hm]
theorem wpList_getx {w : World} {ops : Array Oper} {rest : List Oper} {o : Oper} {a : Act} {Q : Exit → Act → World → Prop} (hg : o.guard = none) (m x : Operand) (hop : o.op = Op.lookup 63 m x false) (b : Nat) (L : List (Ct Rw)) (hm : a.eval m = .map (some b)) (h : Hm w b L) (k : ByteArray) (hk : k.size ≤ 1000000) (hx : a.eval x = .string k) (r : Rw) (hr : gt L k = r)
    (hK : wpList Try.prog ops Q rest (a.put o.dst r.val) w) : wpList Try.prog ops Q (o :: rest) a w := by
  subst hr; exact wpList_get hg m x hop b L hm h k hk hx hK
set_option maxRecDepth 100000 in
set_option maxHeartbeats 8000000 in
theorem start_any (B p : Nat) (S : Ds) (hfl : S.fs.length ≤ 100000) (hkz : ∀ x ∈ S.fs, x.1.size ≤ 1000000) (hnb : ∀ x ∈ S.fs, x.2.1.n ≤ 1000000000) (A : Option Addr) (c : Nat) (sc : List Int) (hsl : sc.length ≤ 1000000) (hsc : sc.length ≤ c) (w : World) (hB : B ≤ w.heap.size) (hD : Dk w B p S)
    (hR : Rd (Value.int .i64) w A sc) (hRp : ∀ b off, A = some ⟨b, off, none⟩ → b ≠ p ∧ S.mp ≠ some b) :
    Calls Try.prog 18 #[.pointer (some ⟨p, 0, none⟩), .slice A sc.length c] w fun e w' => e = .returned (.tuple #[]) ∧ Dk w' B p (stS S sc) ∧ Tn (fun i => i = p ∨ S.mp = some i) w w' := by
  have HDn := Lib.hid (down_any p S w hD.blk)
  have HNm := Lib.hid (fun W h => names_any B p S (Nat.le_trans hfl (by decide)) W h)
  have HDk := Lib.hid hD
  have hp := hD.lt
  have HSt : Hid (stS S sc = if S.dn = true then ⟨S.cap, false, false, 0, S.mp, stF S.fs sc⟩ else S) := Lib.hid rfl
  obtain ⟨Z, hZ⟩ : ∃ Z, Z = stS S sc := ⟨_, rfl⟩
  rw [← hZ] at HSt ⊢
  have HRs := Lib.hid hR
  have HRp := Lib.hid hRp
  have HKz := Lib.hid hkz
  have HNb := Lib.hid hnb
  have HFl := Lib.hid hfl
  obtain ⟨dn, hdn⟩ : ∃ dn, dn = S.dn := ⟨_, rfl⟩
  have HDe := Lib.hid hdn
  rw [← hdn] at HDn HSt
  have HSb : Hid ((Try.prog.info? 69).map (fun i => i.size) = some 3) := Lib.hid (by kernel_rfl)
  clear hD hZ hR hRp hkz hnb hfl hdn
  cases dn with
  | false =>
    simp only [Bool.false_eq_true, if_false] at HSt
    go_enter Try.func18, Try.ntmps18
    go_wp2_with fail
    refine HDn.out.mono ?_
    rintro e w1 ⟨rfl, hb⟩
    have HB := Lib.hid hb
    clear hb
    go_wp2_with fail
    refine bodyPost_ret (results_none rfl _ _ _) rfl ?_
    rw [HSt.out]
    exact ⟨rfl, HDk.out.below HB.out, Tn.of HB.out⟩
  | true =>
    simp only [if_true] at HSt
    go_enter Try.func18, Try.ntmps18
    go_wp2_with fail
    refine HDn.out.mono ?_
    rintro e w1 ⟨rfl, hb⟩
    have HB1 := Lib.hid hb
    have HN1 := Lib.hid (HNm.out w1 (HDk.out.below hb))
    clear hb
    go_wp2_with fail
    refine HN1.out.mono ?_
    rintro e w2 ⟨v, rfl, ho, hb⟩
    have HB2 := Lib.hid (HB1.out.trans (hb.mono HB1.out.size))
    obtain ⟨A1, c1, rfl, hc1⟩ := own_slice ho
    have hRn : Rd Value.string w2 A1 (S.fs.map (·.1)) := Rd.own (base := w1.heap.size) (e := 9) (n := S.fs.length) (c := c1) (by
      have := ho
      rw [show kV S.fs = (S.fs.map (·.1)).map Value.string by unfold kV; rw [List.map_map]; rfl] at this
      exact this)
    have hA1 : ∀ b off, A1 = some ⟨b, off, none⟩ → w1.heap.size ≤ b := fun b off e => by
      have := ho.lt b (by rw [e]; rfl)
      exact this.1
    have HRn := Lib.hid hRn
    have HA1 : Hid (∀ b off, A1 = some ⟨b, off, none⟩ → ¬ (b = p ∨ S.mp = some b)) := Lib.hid (fun b off e h => by
      have h1 := hA1 b off e
      have h2 := HB1.out.size
      rcases h with h | h
      · omega
      · have := (HDk.out.ft_lt (.inr (.inl h))).2; omega)
    obtain ⟨ln, hln⟩ : ∃ ln, ln = S.fs.length := ⟨_, rfl⟩
    have HLn := Lib.hid hln
    rw [← hln]
    have hlnb : ln ≤ 100000 := by rw [hln]; exact HFl.out
    obtain ⟨Rz, hRz⟩ : ∃ Rz, Rz = stF S.fs sc := ⟨_, rfl⟩
    have HRz := Lib.hid hRz
    have HD2 := Lib.hid (HDk.out.below HB2.out)
    have HT2 : Hid (Tn (fun i => i = p ∨ S.mp = some i) w w2) := Lib.hid (Tn.of HB2.out)
    have HR2 := Lib.hid (HRs.out.below HB2.out)
    have hAn : ∀ b off, A = some ⟨b, off, none⟩ → ¬ (b = p ∨ S.mp = some b) := fun b off e h => h.elim (HRp.out b off e).1 (HRp.out b off e).2
    have HAn := Lib.hid hAn
    clear hb ho hRn hA1 hln hRz hc1 hAn
    go_wp2_with fail
    go_loopw [1, 5, 6, 7, 8, 15] (fun sv _a _b _c _d iv wr => ∃ (j : Nat) (A2 : Option Addr) (c2 : Nat) (sc2 : List Int) (P : List (Ct Fl)), j ≤ ln ∧ iv = .int .i64 (j : Int) ∧ sv = .slice A2 sc2.length c2 ∧ sc2.length ≤ c2 ∧ sc2.length ≤ 1000000 ∧ Hid (Rd (Value.int .i64) wr A2 sc2) ∧ Hid (∀ b off, A2 = some ⟨b, off, none⟩ → ¬ (b = p ∨ S.mp = some b)) ∧ Hid (Dk wr B p ⟨S.cap, S.dn, S.lim, S.lft, S.mp, P ++ S.fs.drop j⟩) ∧ Hid (Rz = P ++ stF (S.fs.drop j) sc2) ∧ P.length ≤ j ∧ Hid (Rd Value.string wr A1 (S.fs.map (·.1))) ∧ Hid (Tn (fun i => i = p ∨ S.mp = some i) w wr)) (fun _ _ _ _ _ iv _ => ln - (intOf iv).toNat)
    case atStart => exact ⟨0, A, c, sc, [], Nat.zero_le _, rfl, rfl, hsc, hsl, HR2, HAn, HD2, Lib.hid (by rw [HRz.out]; rfl), Nat.le_refl _, HRn, HT2⟩
    case round =>
      obtain ⟨j, A2, c2, sc2, P, hj, rfl, rfl, hs2, hs3, HRr, HAr, HDr, HRzr, hPj, HRnr, HTr⟩ := hrel
      have hj0 : (0 : Int) ≤ (j : Int) := by omega
      by_cases hlt : j < ln
      · have hjI : (j : Int) < (ln : Int) := by omega
        have hj2 : j < S.fs.length := by rw [← HLn.out]; exact hlt
        obtain ⟨bi, oi, rfl, hbi, h0⟩ := HRnr.out j (by rw [List.length_map]; exact hj2)
        rw [List.getElem_map] at h0
        have hmem := List.getElem_mem hj2
        have hkz := HKz.out _ hmem
        have hnb := HNb.out _ hmem
        have hdrop : S.fs.drop j = S.fs[j] :: S.fs.drop (j + 1) := List.drop_eq_getElem_cons hj2
        have hD := HDr.out
        have hRr := HRzr.out
        rw [hdrop] at hD hRr
        obtain ⟨b, hb⟩ := HDk.out.hasmap (mem_keys hmem)
        obtain ⟨x, hx⟩ : ∃ x, x = S.fs[j] := ⟨_, rfl⟩
        rw [← hx] at h0 hkz hnb hD hRr
        obtain ⟨T, hT⟩ : ∃ T, T = S.fs.drop (j + 1) := ⟨_, rfl⟩
        have HT := Lib.hid hT
        rw [← hT] at hD hRr
        obtain ⟨k, r, bs⟩ := x
        dsimp only at h0 hkz hnb hRr
        have HD := Lib.hid hD
        have HRr2 := Lib.hid hRr
        have HMb := Lib.hid hb
        have hS := hD.sd
        have hrow := hD.rows (k, (r, bs)) (by simp)
        have HRow := Lib.hid hrow
        have hmm := hD.map b hb
        have HH := Lib.hid hmm.2
        have hgt : gt (mv Prod.fst (P ++ (k, (r, bs)) :: T)) k = r := by
          rw [gt_mv _ _ _ (hs_mid P T (k, (r, bs)))]
          have := gt_mid hS
          rw [this]
        have HGt := Lib.hid hgt
        have hlen : (P ++ (k, (r, bs)) :: T).length ≤ 100000 := by
          have e := congrArg List.length hdrop
          rw [← hT] at e
          simp only [List.length_append, List.length_cons, List.length_drop] at e ⊢
          have := HLn.out
          omega
        have HLe := Lib.hid hlen
        have c1' := cell_of_row _ _ 1 _ _ _ hD.blk
        simp [Ds.row] at c1'
        rw [hb] at c1'
        obtain ⟨A9, hA9⟩ : ∃ A9, A9 = r.A.map fun g => (⟨g, 0, none⟩ : Addr) := ⟨_, rfl⟩
        have HA9 := Lib.hid hA9
        obtain ⟨X, hX⟩ : ∃ X, X = wr.heap.size := ⟨_, rfl⟩
        obtain ⟨W3, hW3⟩ : ∃ W3, W3 = wr.alloc (.cells #[.slice A9 r.n r.c, .int .i64 (r.s : Int), .bool r.d] 69) := ⟨_, rfl⟩
        have hb3 : Below wr.heap.size wr W3 := by rw [hW3]; exact (Below.refl _ _).alloc (Nat.le_refl _) _
        have HB3 := Lib.hid hb3
        have HX3 : Hid (W3.heap[X]? = some (.cells #[.slice A9 r.n r.c, .int .i64 (r.s : Int), .bool r.d] 69 (0, 0))) := Lib.hid (by rw [hW3, hX]; exact Deep.blk_alloc_new _ _)
        have HA : Hid ((wr.alloc (.cells #[.slice none 0 0, .int .i64 0, .bool false] 69)).heap[wr.heap.size]? = some (.cells #[.slice none 0 0, .int .i64 0, .bool false] 69 (0, 0))) := Lib.hid (Deep.blk_alloc_new _ _)
        have HW3 : Hid (W3 = (wr.alloc (.cells #[.slice none 0 0, .int .i64 0, .bool false] 69)).setRow wr.heap.size #[.slice A9 r.n r.c, .int .i64 (r.s : Int), .bool r.d]) := Lib.hid (by rw [hW3]; exact (alloc_setRow _ _ _ _).symm)
        have HXe := Lib.hid hX
        have HW3a := Lib.hid hW3
        have H1r : Hid ((#[.slice A9 r.n r.c, .int .i64 (r.s : Int), .bool r.d] : Array Value).all (·.oneCell') = true) := Lib.hid (by simp [Value.oneCell'])
        have HVr : Hid (r.val = .agg #[.slice A9 r.n r.c, .int .i64 (r.s : Int), .bool r.d]) := Lib.hid (by rw [hA9]; rfl)
        have HD3 := Lib.hid (hD.below hb3)
        have HT3 := Lib.hid (HTr.out.trans (Tn.of hb3) (fun i h => .inl h))
        have HR3 := Lib.hid (HRr.out.below hb3)
        have HRn3 := Lib.hid (HRnr.out.below hb3)
        have HH3 := Lib.hid ((hD.below hb3).map b hb).2
        have x0 := cell_of_row _ _ 0 _ _ _ HX3.out
        have x1 := cell_of_row _ _ 1 _ _ _ HX3.out
        have x2 := cell_of_row _ _ 2 _ _ _ HX3.out
        simp at x0 x1 x2
        have m1 := cell_of_row _ _ 1 _ _ _ HD3.out.blk
        simp [Ds.row] at m1
        rw [hb] at m1
        have hsn : r.s ≤ r.n := hrow.2.2
        have hwj : IntKind.i64.wrap ((j : Int) + 1) = (j : Int) + 1 := by simp only [IntKind.wrap_i64]; omega
        have HLt : Hid ((S.fs.map (·.1)).length = ln) := Lib.hid (by rw [List.length_map]; exact HLn.out.symm)
        clear hmem hdrop hD hRr hx hT hS hrow hmm hgt hlen hA9 hW3 hb3
        cases hd : r.d with
        | false =>
          rw [hd] at x2
          have HW3f : Hid (W3 = (wr.alloc (.cells #[.slice none 0 0, .int .i64 0, .bool false] 69)).setRow wr.heap.size #[.slice A9 r.n r.c, .int .i64 (r.s : Int), .bool false]) := Lib.hid (by rw [HW3.out, hd])
          have x0r := x0
          have x1r := x1
          have x2r := x2
          have m1r := m1
          rw [hX, HW3f.out] at x0r x1r x2r
          rw [HW3f.out] at m1r
          have HRz2 : Hid (Rz = P ++ stF T sc2) := Lib.hid (by rw [HRr2.out, stF, if_pos hd])
          go_wp2_with (first
            | (at_lookup; go_loud (refine wpList_getx rfl (.tmp 22) (.tmp 23) rfl b _ rfl HH.out k hkz rfl r HGt.out ?_); rw [HVr.out, hd])
            | (at_delete; (try rw [← HW3f.out]); go_loud (refine wpList_del rfl (.tmp 31) (.tmp 32) rfl b _ rfl HH3.out k hkz rfl ?_); intro w4 hm4 hg4; have HM4 := Lib.hid hm4; have HG4 := Lib.hid hg4; clear hm4 hg4)
            | (refine wpList_store_row rfl _ _ _ rfl wr.heap.size #[.slice A9 r.n r.c, .int .i64 (r.s : Int), .bool false] rfl rfl 69 _ HA.out HSb.out rfl (by rw [← hd]; exact H1r.out) ?_))
          have hnm : S.mp = some b := HMb.out
          have hd4 := HD3.out.del hnm HM4.out HG4.out
          have HD4 : Hid (Dk w4 B p ⟨S.cap, S.dn, S.lim, S.lft, S.mp, P ++ T⟩) := Lib.hid (by
            have e : dl (P ++ (k, (r, bs)) :: T) k = P ++ T := dl_mid HD.out.sd
            have h := hd4
            dsimp only at h
            rw [e] at h
            exact h)
          have hT4 : Tn (fun i => S.mp = some i) W3 w4 := Tn.grown HG4.out (fun i e => by rw [hnm]; exact e)
          have HT4 := Lib.hid (HT3.out.trans hT4 (fun i h => .inl (.inr h)))
          have HR4 := Lib.hid (rd_turn HR3.out hT4 (fun b off e _ h => HAr.out b off e (.inr h)))
          have HRn4 := Lib.hid (rd_turn HRn3.out hT4 (fun b off e _ h => HA1.out b off e (.inr h)))
          clear hd4 hT4 x0 x1 x2 m1 x0r x1r x2r m1r c1' hnm
          go_roundw
          case rel => exact ⟨j + 1, A2, c2, sc2, P, by omega, by go_num, rfl, hs2, hs3, HR4, HAr, by rw [← HT.out]; exact HD4, by rw [← HT.out]; exact HRz2, by omega, HRn4, HT4⟩
          case measure => simp [intOf] <;> omega
        | true => 
          rw [hd] at x2
          have HW3f : Hid (W3 = (wr.alloc (.cells #[.slice none 0 0, .int .i64 0, .bool false] 69)).setRow wr.heap.size #[.slice A9 r.n r.c, .int .i64 (r.s : Int), .bool true]) := Lib.hid (by rw [HW3.out, hd])
          have x0r := x0
          have x1r := x1
          have x2r := x2
          rw [hX, HW3f.out] at x0r x1r x2r
          have HW3g : Hid (W3 = wr.alloc (.cells #[.slice A9 r.n r.c, .int .i64 (r.s : Int), .bool true] 69)) := Lib.hid (by rw [HW3a.out, hd])
          have x0g := x0
          have x1g := x1
          have x2g := x2
          rw [hX, HW3g.out] at x0g x1g x2g
          have hwu : IntKind.i64.wrap ((r.n : Int) - (r.s : Int)) = (r.n : Int) - (r.s : Int) := by simp only [IntKind.wrap_i64]; omega
          by_cases hpos : r.s < r.n
          · have HX3f : Hid (W3.heap[X]? = some (.cells #[.slice A9 r.n r.c, .int .i64 (r.s : Int), .bool true] 69 (0, 0))) := Lib.hid (by rw [← hd]; exact HX3.out)
            obtain ⟨un, hun⟩ : ∃ un, un = r.n - r.s := ⟨_, rfl⟩
            have hwun : IntKind.i64.wrap ((r.n : Int) - (r.s : Int)) = (un : Int) := by rw [hun]; simp only [IntKind.wrap_i64]; omega
            clear hwu
            have hpI : decide ((0 : Int) < (un : Int)) = true := by simp; omega
            have hunc : ((un + 1 : Nat) : Int) = (un : Int) + 1 := by omega
            have hwu1 : IntKind.i64.wrap ((un : Int) + 1) = (un : Int) + 1 := by simp only [IntKind.wrap_i64]; omega
            have hnc : r.n ≤ r.c := by
              obtain ⟨A0, c0, e0, h0⟩ := own_slice HRow.out.1
              unfold Rw.sl at e0
              injection e0 with _ _ e0
              show r.n ≤ r.c
              rw [e0]; exact h0
            obtain ⟨ls, hls⟩ : ∃ ls, ls = sc2.length := ⟨_, rfl⟩
            have HLs := Lib.hid hls
            rw [← hls] at hs2 hs3 ⊢
            by_cases hq : 0 < ls
            · obtain ⟨y, hy⟩ : ∃ y, sc2 = y :: sc2.tail := by
                cases sc2 with
                | nil => rw [hls] at hq; simp at hq
                | cons y ys => exact ⟨y, rfl⟩
              have HHd : Hid (sc2.headD 0 = y) := Lib.hid (by rw [hy]; rfl)
              have HY : Hid (∀ h : 0 < sc2.length, sc2[0] = y) := Lib.hid (fun h => by
                have : sc2.headD 0 = y := HHd.out
                rw [List.headD_eq_head?_getD, List.head?_eq_getElem?, List.getElem?_eq_getElem h] at this
                exact this)
              clear hy hls
              obtain ⟨rmN, hrmN⟩ : ∃ rmN : Nat, (y : Int) % ((un + 1 : Nat) : Int) = (rmN : Int) := ⟨((y : Int) % ((un + 1 : Nat) : Int)).toNat, by have := Int.emod_nonneg (y : Int) (show ((un + 1 : Nat) : Int) ≠ 0 by omega); omega⟩
              have hrmb : rmN ≤ un := by have := Int.emod_lt_of_pos (y : Int) (show (0 : Int) < ((un + 1 : Nat) : Int) by omega); omega
              have HRm : Hid (∀ W, Calls Try.prog 41 #[.int .i64 y, .int .i64 ((un : Int) + 1)] W fun e w' => e = .returned (.int .i64 (rmN : Int)) ∧ w' = W) := Lib.hid (fun W => by
                have h := rem_any (y : Int) (un + 1) (by omega) W
                rw [hrmN, hunc] at h
                exact h)
              obtain ⟨m, hm⟩ : ∃ m, m = r.s + rmN := ⟨_, rfl⟩
              have hcut : cutN (r, bs) sc2 = m := by
                show r.s + (sc2.headD 0 % ((r.n - r.s + 1 : Nat) : Int)).toNat = m
                rw [hm, show r.n - r.s = un by omega, HHd.out, hrmN]; rfl
              have hmn : m ≤ r.n := by omega
              have hws : IntKind.i64.wrap ((r.s : Int) + (rmN : Int)) = (m : Int) := by rw [hm]; simp only [IntKind.wrap_i64]; omega
              have HRz2 : Hid (Rz = (P ++ [(k, (⟨r.A, m, r.c, m, true⟩, bs.take m))]) ++ stF T sc2.tail) := Lib.hid (by
                rw [HRr2.out, stF, if_neg (by show ¬ r.d = false; rw [hd]; decide), if_pos hpos]
                rw [hcut, show r.d = true from hd, List.append_assoc]; rfl)
              have hm0 : (0 : Int) ≤ (m : Int) := by omega
              have hmc : m ≤ r.c := by omega
              have hup : 0 < un := by omega
              clear hcut hrmN hrmb hm hun
              have hl0 : decide ((0 : Int) < (ls : Int)) = true := by simp; omega
              have hls1 : (0 : Int) < (ls : Int) := by omega
              obtain ⟨b2, o2, hA2, hb2l, hy2⟩ := HR3.out 0 (by rw [← HLs.out]; omega)
              have hy3 : W3.cell? ⟨b2, o2, none⟩ = some (.int .i64 y) := by
                have e : sc2[0]'(by rw [← HLs.out]; omega) = y := HY.out _
                rw [Nat.add_zero, e] at hy2; exact hy2
              have q3 := sl_tail A2 ls c2 (by omega) (by omega)
              obtain ⟨A3, hA3⟩ : ∃ A3, A3 = (if c2 = 1 then A2 else A2.map (fun a => a.add 1)) := ⟨_, rfl⟩
              rw [← hA3] at q3
              have HA3 := Lib.hid hA3
              obtain ⟨c3, hc3⟩ : ∃ c3, c3 = c2 - 1 := ⟨_, rfl⟩
              obtain ⟨l3, hl3⟩ : ∃ l3, l3 = ls - 1 := ⟨_, rfl⟩
              rw [← hc3, ← hl3] at q3
              have HC3 := Lib.hid hc3
              have HL3 := Lib.hid hl3
              clear hA3 hc3 hl3
              rw [hA2] at q3
              go_upto_region 11 with (first
                  | (at_lookup; go_loud (refine wpList_getx rfl (.tmp 22) (.tmp 23) rfl b _ rfl HH.out k hkz rfl r HGt.out ?_); rw [HVr.out, hd])
                  | (refine wpList_store_row rfl _ _ _ rfl wr.heap.size #[.slice A9 r.n r.c, .int .i64 (r.s : Int), .bool true] rfl rfl 69 _ HA.out HSb.out rfl (by rw [← hd]; exact H1r.out) ?_))
              first | rw [← HW3f.out] | rw [← HW3g.out]
              clear x0r x1r x2r x0g x1g x2g c1' m1
              try rw [hA2]
              go_quiet (fail)
              generalize hwd : World.drewN W3 _ = Wd
              have HBd : Hid (Below W3.heap.size W3 Wd) := Lib.hid (by rw [← hwd]; exact below_drewN (Below.refl _ _) _)
              clear hwd
              go_upto_region 12 with fail
              try rw [← hA2]
              have hX4 := (HBd.out.drew.block X (Array.getElem?_eq_some_iff.1 HX3f.out).1).trans HX3f.out
              have x1d := cell_of_row _ _ 1 _ _ _ hX4
              have hXd := (Array.getElem?_eq_some_iff.1 hX4).1
              have f1d := frz hX4 1
              simp at x1d
              clear x0 x1 x2
              have hXq := HXe.out
              clear hX
              subst hXq
              refine wp_region_last 8 (fun W => W.cell? ⟨wr.heap.size, 1, none⟩ = some (.int .i64 (r.s : Int))) (by kernel_rfl) (by decide +kernel) (by rfl) x1d (fun hHeld => ?_)
              simp only [List.take_succ_cons, List.take_zero]
              refine wpAnyH_take (i := 0) (v := ?_) rfl (by decide +kernel) (by decide +kernel) (by decide +kernel) (fun _ _ _ h => h) (Or.inl ⟨by rfl, ?_⟩) (by assumption) ?_
              rotate_left 1
              · (intro w' hSw; (try dsimp only at hSw); go_simp; (try (with_reducible rfl)))
              try simp only [List.getElem_toArray, List.getElem_cons_zero, Act.put, List.setIfInBounds_toArray, List.set_cons_zero, List.set_cons_succ]
              refine wpAnyH_take (i := 1) (v := ?_) rfl (by decide +kernel) (by decide +kernel) (by decide +kernel) (fun _ _ _ h => h) (Or.inl ⟨by rfl, ?_⟩) (by assumption) ?_
              rotate_left 1
              · (intro w' hSw; (try dsimp only at hSw); go_simp; (try (with_reducible rfl)))
              try simp only [List.getElem_toArray, List.getElem_cons_zero, List.getElem_cons_succ, Act.put, List.setIfInBounds_toArray, List.set_cons_zero, List.set_cons_succ]
              refine wpAnyH_take (i := 2) (v := ?_) rfl (by decide +kernel) (by decide +kernel) (by decide +kernel) (fun _ _ _ h => h) (Or.inl ⟨by rfl, ?_⟩) (by assumption) ?_
              rotate_left 1
              · (intro w' hSw; (try dsimp only at hSw); go_simp; (try (with_reducible rfl)))
              try simp only [List.getElem_toArray, List.getElem_cons_zero, List.getElem_cons_succ, Act.put, List.setIfInBounds_toArray, List.set_cons_zero, List.set_cons_succ]
              refine wpAnyH_take (i := 3) (v := ?_) rfl (by decide +kernel) (by decide +kernel) (by decide +kernel) (fun _ _ _ h => h) (Or.inl ⟨by rfl, ?_⟩) (by assumption) ?_
              rotate_left 1
              · (intro w' hSw; (try dsimp only at hSw); go_simp; (try (with_reducible rfl)))
              try simp only [List.getElem_toArray, List.getElem_cons_zero, List.getElem_cons_succ, Act.put, List.setIfInBounds_toArray, List.set_cons_zero, List.set_cons_succ]
              refine wpAnyH_take (i := 4) (v := ?_) rfl (by decide +kernel) (by decide +kernel) (by decide +kernel) (fun _ _ _ h => h) (Or.inl ⟨by rfl, ?_⟩) (by assumption) ?_
              rotate_left 1
              · (intro w' hSw; (try dsimp only at hSw); go_simp; (try (with_reducible rfl)))
              try simp only [List.getElem_toArray, List.getElem_cons_zero, List.getElem_cons_succ, Act.put, List.setIfInBounds_toArray, List.set_cons_zero, List.set_cons_succ]
              refine wpAnyH_ready (rs := [5]) (by decide +kernel) (by simp) ?_
              refine AllReadyH.cons rfl (fun K hK => ?_) AllReadyH.nil
              go_simp
              go_at_call 41
              with_reducible refine (HRm.out _).mono ?_
              rintro e w9 ⟨rfl, rfl⟩
              try go_wp2_with fail
              refine hK.out _ _ (x1d) (fun hHeld => ?_)
              clear hK K
              try simp only [List.getElem_toArray, List.getElem_cons_zero, List.getElem_cons_succ, Act.put, List.setIfInBounds_toArray, List.set_cons_zero, List.set_cons_succ]
              refine wpAnyH_take (i := 6) (v := ?_) rfl (by decide +kernel) (by decide +kernel) (by decide +kernel) (fun _ _ _ h => h) (Or.inl ⟨by rfl, ?_⟩) (by assumption) ?_
              rotate_left 1
              · (intro w' hSw; (try dsimp only at hSw); go_simp; (try (with_reducible rfl)))
              try simp only [List.getElem_toArray, List.getElem_cons_zero, List.getElem_cons_succ, Act.put, List.setIfInBounds_toArray, List.set_cons_zero, List.set_cons_succ]
              refine wpAnyH_take (i := 7) (v := ?_) rfl (by decide +kernel) (by decide +kernel) (by decide +kernel) (fun _ _ _ h => h) (Or.inl ⟨by rfl, ?_⟩) (by assumption) ?_
              rotate_left 1
              · (intro w' hSw; (try dsimp only at hSw); go_simp; (try (with_reducible rfl)))
              try simp only [List.getElem_toArray, List.getElem_cons_zero, List.getElem_cons_succ, Act.put, List.setIfInBounds_toArray, List.set_cons_zero, List.set_cons_succ]
              refine wpAnyH_done (by decide +kernel) ?_ _
              intro K hK
              go_simp
              refine hK.out _ _ ?_
              clear hK K
              try simp only [List.getElem_toArray, List.getElem_cons_zero, List.getElem_cons_succ, Act.put, List.setIfInBounds_toArray, List.set_cons_zero, List.set_cons_succ]
              (refine (by assumption : ∀ _ _, _ → _) _ _ ?_)
              obtain ⟨W4, hW4⟩ : ∃ W4, W4 = (Wd.setCell ⟨wr.heap.size, 1, none⟩ (.int .i64 (m : Int))).drew := ⟨_, rfl⟩
              rw [← hW4]
              have hXw := (HBd.out.block wr.heap.size (Array.getElem?_eq_some_iff.1 HX3f.out).1).trans HX3f.out
              have s4 : W4.heap[wr.heap.size]? = some (.cells #[.slice A9 r.n r.c, .int .i64 (m : Int), .bool true] 69 (0, 0)) := by rw [hW4]; exact blk_set _ hXw
              have y0 := cell_of_row _ _ 0 _ _ _ s4
              have y1 := cell_of_row _ _ 1 _ _ _ s4
              have g0 := frz s4 0
              have hXl := (Array.getElem?_eq_some_iff.1 s4).1
              simp at y0 y1
              obtain ⟨W5, hW5⟩ : ∃ W5, W5 = W4.setCell ⟨wr.heap.size, 0, none⟩ (.slice A9 m r.c) := ⟨_, rfl⟩
              have s5 : W5.heap[wr.heap.size]? = some (.cells #[.slice A9 m r.c, .int .i64 (m : Int), .bool true] 69 (0, 0)) := by rw [hW5, blk_set _ s4]; rfl
              have t0 := cell_of_row _ _ 0 _ _ _ s5
              have t1 := cell_of_row _ _ 1 _ _ _ s5
              have t2 := cell_of_row _ _ 2 _ _ _ s5
              simp at t0 t1 t2
              rw [hW5] at t0 t1 t2
              have hT34 : Tn (· = wr.heap.size) W3 W4 := by rw [hW4]; exact ((Tn.of HBd.out : Tn (· = wr.heap.size) W3 Wd).trans (tn_set _ _ _ _) (fun i h => .inl h)).trans (Tn.of (Below.drew (Below.refl _ _))) (fun i h => .inl h)
              have hD4 : Dk W4 B p ⟨S.cap, S.dn, S.lim, S.lft, S.mp, P ++ (k, (r, bs)) :: T⟩ := by rw [hW4]; exact ((HD3.out.below HBd.out).box hXw _).below (Below.drew (Below.refl _ _))
              have hD5 : Dk W5 B p ⟨S.cap, S.dn, S.lim, S.lft, S.mp, P ++ (k, (r, bs)) :: T⟩ := by rw [hW5]; exact hD4.box s4 _
              have hT35 : Tn (· = wr.heap.size) W3 W5 := by rw [hW5]; exact hT34.trans (tn_set _ _ _ _) (fun i h => .inl h)
              have hT05 : Tn (· = wr.heap.size) wr W5 := (Tn.of HB3.out : Tn (· = wr.heap.size) wr W3).trans hT35 (fun i h => .inl h)
              have hXp : w.heap.size ≤ wr.heap.size := by exact HTr.out.size
              have HT5 := Lib.hid (HT3.out.trans hT35 (fun i h => .inr (by rw [h]; exact hXp)))
              have HR5 := Lib.hid (rd_turn HRr.out hT05 (fun b off e hb h => by have h : b = wr.heap.size := h; omega))
              have HRn5 := Lib.hid (rd_turn HRnr.out hT05 (fun b off e hb h => by have h : b = wr.heap.size := h; omega))
              have hpu := put_any B p ⟨S.cap, S.dn, S.lim, S.lft, S.mp, P ++ (k, (r, bs)) :: T⟩ k hkz ⟨r.A, m, r.c, m, true⟩ (bs.take m) HLe.out W5 (Nat.le_trans hB HT5.out.size) hD5 (rp_cut (hD5.rows (k, (r, bs)) (by simp)) m hmn true) (fun x hx hne g0 e0 e1 => hD5.apart2 hx (show (k, (r, bs)) ∈ P ++ (k, (r, bs)) :: T by simp) hne e0 e1)
              rw [show (⟨r.A, m, r.c, m, true⟩ : Rw).val = .agg #[.slice A9 m r.c, .int .i64 (m : Int), .bool true] by rw [HA9.out]; rfl] at hpu
              have HPu := Lib.hid hpu
              have HW5 := Lib.hid hW5
              clear hpu hW5 hW4 s5 s4 hXw hD4 hD5 hT34 hT35 hT05 hXp hX4 x1d hXd f1d
              go_wp2_with fail
              try rw [← HW5.out]
              refine HPu.out.mono ?_
              rintro e w7 ⟨rfl, ⟨b', hb', hd7⟩, hT7⟩
              have hbb : S.mp = some b' := by
                rcases hb' with h | ⟨h, _⟩
                · exact h
                · have h : S.mp = none := h
                  rw [HMb.out] at h; cases h
              have HD7 : Hid (Dk w7 B p ⟨S.cap, S.dn, S.lim, S.lft, S.mp, P ++ [(k, (⟨r.A, m, r.c, m, true⟩, bs.take m))] ++ T⟩) := Lib.hid (by
                have h := hd7
                have e : pt (P ++ (k, (r, bs)) :: T) k (⟨r.A, m, r.c, m, true⟩, bs.take m) = P ++ (k, (⟨r.A, m, r.c, m, true⟩, bs.take m)) :: T := pt_mid HD.out.sd _
                try dsimp only at h
                rw [e, ← hbb] at h
                rw [List.append_assoc]; exact h)
              have HT7 := Lib.hid (HT5.out.trans hT7 (fun i h => .inl h))
              have HR7 := Lib.hid (rd_turn HR5.out hT7 (fun b off e _ h => HAr.out b off e h))
              have HRn7 := Lib.hid (rd_turn HRn5.out hT7 (fun b off e _ h => HA1.out b off e h))
              clear hd7 hT7 hb' hbb y0 y1 g0 hXl t0 t1 t2
              go_wp2_with fail
              go_roundw
              case rel => exact ⟨j + 1, A3, c3, sc2.tail, P ++ [(k, (⟨r.A, m, r.c, m, true⟩, bs.take m))], by omega, by go_num, by rw [List.length_tail, ← HLs.out, HL3.out], by rw [List.length_tail, ← HLs.out, HC3.out]; omega, by rw [List.length_tail, ← HLs.out]; omega, Lib.hid (by rw [HA3.out]; exact rd_tail HR7.out (by rw [← HLs.out]; omega)), Lib.hid (fun b off e h => by
                  rw [HA3.out] at e
                  by_cases hc : c2 = 1
                  · rw [if_pos hc] at e; exact HAr.out b off e h
                  · rw [if_neg hc, hA2] at e
                    injection e with e
                    dsimp only at e
                    rw [add_flat] at e
                    injection e with e1 _ _
                    subst e1
                    exact HAr.out _ _ hA2 h), by rw [← HT.out]; exact HD7, by rw [← HT.out]; exact HRz2, by rw [List.length_append]; simp; omega, HRn7, HT7⟩
              case measure => simp [intOf] <;> omega
            · have HHd : Hid (sc2.headD 0 = 0) := Lib.hid (by
                have : sc2 = [] := List.eq_nil_of_length_eq_zero (by omega)
                rw [this]; rfl)
              have HTl : Hid (sc2.tail = sc2) := Lib.hid (by
                have : sc2 = [] := List.eq_nil_of_length_eq_zero (by omega)
                rw [this]; rfl)
              clear hls
              obtain ⟨rmN, hrmN⟩ : ∃ rmN : Nat, (0 : Int) % ((un + 1 : Nat) : Int) = (rmN : Int) := ⟨((0 : Int) % ((un + 1 : Nat) : Int)).toNat, by have := Int.emod_nonneg (0 : Int) (show ((un + 1 : Nat) : Int) ≠ 0 by omega); omega⟩
              have hrmb : rmN ≤ un := by have := Int.emod_lt_of_pos (0 : Int) (show (0 : Int) < ((un + 1 : Nat) : Int) by omega); omega
              have HRm : Hid (∀ W, Calls Try.prog 41 #[.int .i64 0, .int .i64 ((un : Int) + 1)] W fun e w' => e = .returned (.int .i64 (rmN : Int)) ∧ w' = W) := Lib.hid (fun W => by
                have h := rem_any (0 : Int) (un + 1) (by omega) W
                rw [hrmN, hunc] at h
                exact h)
              obtain ⟨m, hm⟩ : ∃ m, m = r.s + rmN := ⟨_, rfl⟩
              have hcut : cutN (r, bs) sc2 = m := by
                show r.s + (sc2.headD 0 % ((r.n - r.s + 1 : Nat) : Int)).toNat = m
                rw [hm, show r.n - r.s = un by omega, HHd.out, hrmN]; rfl
              have hmn : m ≤ r.n := by omega
              have hws : IntKind.i64.wrap ((r.s : Int) + (rmN : Int)) = (m : Int) := by rw [hm]; simp only [IntKind.wrap_i64]; omega
              have HRz2 : Hid (Rz = (P ++ [(k, (⟨r.A, m, r.c, m, true⟩, bs.take m))]) ++ stF T sc2.tail) := Lib.hid (by
                rw [HRr2.out, stF, if_neg (by show ¬ r.d = false; rw [hd]; decide), if_pos hpos]
                rw [hcut, show r.d = true from hd, List.append_assoc]; rfl)
              have hm0 : (0 : Int) ≤ (m : Int) := by omega
              have hmc : m ≤ r.c := by omega
              have hup : 0 < un := by omega
              clear hcut hrmN hrmb hm hun
              have hl0 : decide ((0 : Int) < (ls : Int)) = false := by simp; omega
              go_upto_region 12 with (first
                  | (at_lookup; go_loud (refine wpList_getx rfl (.tmp 22) (.tmp 23) rfl b _ rfl HH.out k hkz rfl r HGt.out ?_); rw [HVr.out, hd])
                  | (refine wpList_store_row rfl _ _ _ rfl wr.heap.size #[.slice A9 r.n r.c, .int .i64 (r.s : Int), .bool true] rfl rfl 69 _ HA.out HSb.out rfl (by rw [← hd]; exact H1r.out) ?_))
              first | rw [← HW3f.out] | rw [← HW3g.out]
              clear x0r x1r x2r x0g x1g x2g c1' m1
              obtain ⟨Wd, hWd⟩ : ∃ Wd, Wd = W3 := ⟨_, rfl⟩
              have HBd : Hid (Below W3.heap.size W3 Wd) := Lib.hid (by rw [hWd]; exact Below.refl _ _)
              rw [← hWd]
              clear hWd
              have hX4 := (HBd.out.drew.block X (Array.getElem?_eq_some_iff.1 HX3f.out).1).trans HX3f.out
              have x1d := cell_of_row _ _ 1 _ _ _ hX4
              have hXd := (Array.getElem?_eq_some_iff.1 hX4).1
              have f1d := frz hX4 1
              simp at x1d
              clear x0 x1 x2
              have hXq := HXe.out
              clear hX
              subst hXq
              refine wp_region_last 8 (fun W => W.cell? ⟨wr.heap.size, 1, none⟩ = some (.int .i64 (r.s : Int))) (by kernel_rfl) (by decide +kernel) (by rfl) x1d (fun hHeld => ?_)
              simp only [List.take_succ_cons, List.take_zero]
              refine wpAnyH_take (i := 0) (v := ?_) rfl (by decide +kernel) (by decide +kernel) (by decide +kernel) (fun _ _ _ h => h) (Or.inl ⟨by rfl, ?_⟩) (by assumption) ?_
              rotate_left 1
              · (intro w' hSw; (try dsimp only at hSw); go_simp; (try (with_reducible rfl)))
              try simp only [List.getElem_toArray, List.getElem_cons_zero, Act.put, List.setIfInBounds_toArray, List.set_cons_zero, List.set_cons_succ]
              refine wpAnyH_take (i := 1) (v := ?_) rfl (by decide +kernel) (by decide +kernel) (by decide +kernel) (fun _ _ _ h => h) (Or.inl ⟨by rfl, ?_⟩) (by assumption) ?_
              rotate_left 1
              · (intro w' hSw; (try dsimp only at hSw); go_simp; (try (with_reducible rfl)))
              try simp only [List.getElem_toArray, List.getElem_cons_zero, List.getElem_cons_succ, Act.put, List.setIfInBounds_toArray, List.set_cons_zero, List.set_cons_succ]
              refine wpAnyH_take (i := 2) (v := ?_) rfl (by decide +kernel) (by decide +kernel) (by decide +kernel) (fun _ _ _ h => h) (Or.inl ⟨by rfl, ?_⟩) (by assumption) ?_
              rotate_left 1
              · (intro w' hSw; (try dsimp only at hSw); go_simp; (try (with_reducible rfl)))
              try simp only [List.getElem_toArray, List.getElem_cons_zero, List.getElem_cons_succ, Act.put, List.setIfInBounds_toArray, List.set_cons_zero, List.set_cons_succ]
              refine wpAnyH_take (i := 3) (v := ?_) rfl (by decide +kernel) (by decide +kernel) (by decide +kernel) (fun _ _ _ h => h) (Or.inl ⟨by rfl, ?_⟩) (by assumption) ?_
              rotate_left 1
              · (intro w' hSw; (try dsimp only at hSw); go_simp; (try (with_reducible rfl)))
              try simp only [List.getElem_toArray, List.getElem_cons_zero, List.getElem_cons_succ, Act.put, List.setIfInBounds_toArray, List.set_cons_zero, List.set_cons_succ]
              refine wpAnyH_take (i := 4) (v := ?_) rfl (by decide +kernel) (by decide +kernel) (by decide +kernel) (fun _ _ _ h => h) (Or.inl ⟨by rfl, ?_⟩) (by assumption) ?_
              rotate_left 1
              · (intro w' hSw; (try dsimp only at hSw); go_simp; (try (with_reducible rfl)))
              try simp only [List.getElem_toArray, List.getElem_cons_zero, List.getElem_cons_succ, Act.put, List.setIfInBounds_toArray, List.set_cons_zero, List.set_cons_succ]
              refine wpAnyH_ready (rs := [5]) (by decide +kernel) (by simp) ?_
              refine AllReadyH.cons rfl (fun K hK => ?_) AllReadyH.nil
              go_simp
              go_at_call 41
              with_reducible refine (HRm.out _).mono ?_
              rintro e w9 ⟨rfl, rfl⟩
              try go_wp2_with fail
              refine hK.out _ _ (x1d) (fun hHeld => ?_)
              clear hK K
              try simp only [List.getElem_toArray, List.getElem_cons_zero, List.getElem_cons_succ, Act.put, List.setIfInBounds_toArray, List.set_cons_zero, List.set_cons_succ]
              refine wpAnyH_take (i := 6) (v := ?_) rfl (by decide +kernel) (by decide +kernel) (by decide +kernel) (fun _ _ _ h => h) (Or.inl ⟨by rfl, ?_⟩) (by assumption) ?_
              rotate_left 1
              · (intro w' hSw; (try dsimp only at hSw); go_simp; (try (with_reducible rfl)))
              try simp only [List.getElem_toArray, List.getElem_cons_zero, List.getElem_cons_succ, Act.put, List.setIfInBounds_toArray, List.set_cons_zero, List.set_cons_succ]
              refine wpAnyH_take (i := 7) (v := ?_) rfl (by decide +kernel) (by decide +kernel) (by decide +kernel) (fun _ _ _ h => h) (Or.inl ⟨by rfl, ?_⟩) (by assumption) ?_
              rotate_left 1
              · (intro w' hSw; (try dsimp only at hSw); go_simp; (try (with_reducible rfl)))
              try simp only [List.getElem_toArray, List.getElem_cons_zero, List.getElem_cons_succ, Act.put, List.setIfInBounds_toArray, List.set_cons_zero, List.set_cons_succ]
              refine wpAnyH_done (by decide +kernel) ?_ _
              intro K hK
              go_simp
              refine hK.out _ _ ?_
              clear hK K
              try simp only [List.getElem_toArray, List.getElem_cons_zero, List.getElem_cons_succ, Act.put, List.setIfInBounds_toArray, List.set_cons_zero, List.set_cons_succ]
              (refine (by assumption : ∀ _ _, _ → _) _ _ ?_)
              obtain ⟨W4, hW4⟩ : ∃ W4, W4 = (Wd.setCell ⟨wr.heap.size, 1, none⟩ (.int .i64 (m : Int))).drew := ⟨_, rfl⟩
              rw [← hW4]
              have hXw := (HBd.out.block wr.heap.size (Array.getElem?_eq_some_iff.1 HX3f.out).1).trans HX3f.out
              have s4 : W4.heap[wr.heap.size]? = some (.cells #[.slice A9 r.n r.c, .int .i64 (m : Int), .bool true] 69 (0, 0)) := by rw [hW4]; exact blk_set _ hXw
              have y0 := cell_of_row _ _ 0 _ _ _ s4
              have y1 := cell_of_row _ _ 1 _ _ _ s4
              have g0 := frz s4 0
              have hXl := (Array.getElem?_eq_some_iff.1 s4).1
              simp at y0 y1
              obtain ⟨W5, hW5⟩ : ∃ W5, W5 = W4.setCell ⟨wr.heap.size, 0, none⟩ (.slice A9 m r.c) := ⟨_, rfl⟩
              have s5 : W5.heap[wr.heap.size]? = some (.cells #[.slice A9 m r.c, .int .i64 (m : Int), .bool true] 69 (0, 0)) := by rw [hW5, blk_set _ s4]; rfl
              have t0 := cell_of_row _ _ 0 _ _ _ s5
              have t1 := cell_of_row _ _ 1 _ _ _ s5
              have t2 := cell_of_row _ _ 2 _ _ _ s5
              simp at t0 t1 t2
              rw [hW5] at t0 t1 t2
              have hT34 : Tn (· = wr.heap.size) W3 W4 := by rw [hW4]; exact ((Tn.of HBd.out : Tn (· = wr.heap.size) W3 Wd).trans (tn_set _ _ _ _) (fun i h => .inl h)).trans (Tn.of (Below.drew (Below.refl _ _))) (fun i h => .inl h)
              have hD4 : Dk W4 B p ⟨S.cap, S.dn, S.lim, S.lft, S.mp, P ++ (k, (r, bs)) :: T⟩ := by rw [hW4]; exact ((HD3.out.below HBd.out).box hXw _).below (Below.drew (Below.refl _ _))
              have hD5 : Dk W5 B p ⟨S.cap, S.dn, S.lim, S.lft, S.mp, P ++ (k, (r, bs)) :: T⟩ := by rw [hW5]; exact hD4.box s4 _
              have hT35 : Tn (· = wr.heap.size) W3 W5 := by rw [hW5]; exact hT34.trans (tn_set _ _ _ _) (fun i h => .inl h)
              have hT05 : Tn (· = wr.heap.size) wr W5 := (Tn.of HB3.out : Tn (· = wr.heap.size) wr W3).trans hT35 (fun i h => .inl h)
              have hXp : w.heap.size ≤ wr.heap.size := by exact HTr.out.size
              have HT5 := Lib.hid (HT3.out.trans hT35 (fun i h => .inr (by rw [h]; exact hXp)))
              have HR5 := Lib.hid (rd_turn HRr.out hT05 (fun b off e hb h => by have h : b = wr.heap.size := h; omega))
              have HRn5 := Lib.hid (rd_turn HRnr.out hT05 (fun b off e hb h => by have h : b = wr.heap.size := h; omega))
              have hpu := put_any B p ⟨S.cap, S.dn, S.lim, S.lft, S.mp, P ++ (k, (r, bs)) :: T⟩ k hkz ⟨r.A, m, r.c, m, true⟩ (bs.take m) HLe.out W5 (Nat.le_trans hB HT5.out.size) hD5 (rp_cut (hD5.rows (k, (r, bs)) (by simp)) m hmn true) (fun x hx hne g0 e0 e1 => hD5.apart2 hx (show (k, (r, bs)) ∈ P ++ (k, (r, bs)) :: T by simp) hne e0 e1)
              rw [show (⟨r.A, m, r.c, m, true⟩ : Rw).val = .agg #[.slice A9 m r.c, .int .i64 (m : Int), .bool true] by rw [HA9.out]; rfl] at hpu
              have HPu := Lib.hid hpu
              have HW5 := Lib.hid hW5
              clear hpu hW5 hW4 s5 s4 hXw hD4 hD5 hT34 hT35 hT05 hXp hX4 x1d hXd f1d
              go_wp2_with fail
              try rw [← HW5.out]
              refine HPu.out.mono ?_
              rintro e w7 ⟨rfl, ⟨b', hb', hd7⟩, hT7⟩
              have hbb : S.mp = some b' := by
                rcases hb' with h | ⟨h, _⟩
                · exact h
                · have h : S.mp = none := h
                  rw [HMb.out] at h; cases h
              have HD7 : Hid (Dk w7 B p ⟨S.cap, S.dn, S.lim, S.lft, S.mp, P ++ [(k, (⟨r.A, m, r.c, m, true⟩, bs.take m))] ++ T⟩) := Lib.hid (by
                have h := hd7
                have e : pt (P ++ (k, (r, bs)) :: T) k (⟨r.A, m, r.c, m, true⟩, bs.take m) = P ++ (k, (⟨r.A, m, r.c, m, true⟩, bs.take m)) :: T := pt_mid HD.out.sd _
                try dsimp only at h
                rw [e, ← hbb] at h
                rw [List.append_assoc]; exact h)
              have HT7 := Lib.hid (HT5.out.trans hT7 (fun i h => .inl h))
              have HR7 := Lib.hid (rd_turn HR5.out hT7 (fun b off e _ h => HAr.out b off e h))
              have HRn7 := Lib.hid (rd_turn HRn5.out hT7 (fun b off e _ h => HA1.out b off e h))
              clear hd7 hT7 hb' hbb y0 y1 g0 hXl t0 t1 t2
              go_wp2_with fail
              go_roundw
              case rel => exact ⟨j + 1, A2, c2, sc2.tail, P ++ [(k, (⟨r.A, m, r.c, m, true⟩, bs.take m))], by omega, by go_num, by rw [List.length_tail, ← HLs.out]; congr 1; omega, by rw [List.length_tail, ← HLs.out]; omega, by rw [List.length_tail, ← HLs.out]; omega, Lib.hid (by rw [HTl.out]; exact HR7.out), HAr, by rw [← HT.out]; exact HD7, by rw [← HT.out]; exact HRz2, by rw [List.length_append]; simp; omega, HRn7, HT7⟩
              case measure => simp [intOf] <;> omega
          · have hpI : decide ((0 : Int) < (r.n : Int) - (r.s : Int)) = false := by simp; omega
            have HRz2 : Hid (Rz = (P ++ [(k, (r, bs))]) ++ stF T sc2) := Lib.hid (by
              rw [HRr2.out, stF, if_neg (by show ¬ r.d = false; rw [hd]; decide), if_neg hpos, List.append_assoc]; rfl)
            go_wp2_with (first
              | (at_lookup; go_loud (refine wpList_getx rfl (.tmp 22) (.tmp 23) rfl b _ rfl HH.out k hkz rfl r HGt.out ?_); rw [HVr.out, hd])
              | (refine wpList_store_row rfl _ _ _ rfl wr.heap.size #[.slice A9 r.n r.c, .int .i64 (r.s : Int), .bool true] rfl rfl 69 _ HA.out HSb.out rfl (by rw [← hd]; exact H1r.out) ?_))
            first | rw [← HW3f.out] | rw [← HW3g.out]
            clear x0 x1 x2 m1 x0r x1r x2r x0g x1g x2g c1'
            go_roundw
            case rel => exact ⟨j + 1, A2, c2, sc2, P ++ [(k, (r, bs))], by omega, by go_num, rfl, hs2, hs3, HR3, HAr, by rw [← HT.out, List.append_assoc]; exact HD3, by rw [← HT.out]; exact HRz2, by rw [List.length_append]; simp; omega, HRn3, HT3⟩
            case measure => simp [intOf] <;> omega
      · have hjI : ¬ (j : Int) < (ln : Int) := by omega
        have hdr : S.fs.drop j = [] := List.drop_eq_nil_of_le (by rw [← HLn.out]; omega)
        have hD := HDr.out
        have hRr := HRzr.out
        rw [hdr] at hD hRr
        rw [List.append_nil] at hD
        have hRe : Rz = P := by rw [hRr, stF, List.append_nil]
        have h2 := tn_cell (j := 2) hD.blk (.bool false)
        have h3 := tn_cell (j := 3) h2.1 (.bool false)
        have h4 := tn_cell (j := 4) h3.1 (.int .i64 0)
        have hT := (h2.2.trans h3.2 (fun i h => .inl h)).trans h4.2 (fun i h => .inl h)
        have HF := Lib.hid (hD.flag (S' := ⟨S.cap, false, false, 0, S.mp, P⟩) rfl rfl h4.1 hT)
        have HTf := Lib.hid (HTr.out.trans hT (fun i h => .inl (.inl h)))
        have b2 := cell_of_row _ _ 2 _ _ _ hD.blk
        have b3 := cell_of_row _ _ 3 _ _ _ hD.blk
        have b4 := cell_of_row _ _ 4 _ _ _ hD.blk
        have f2 := frz hD.blk 2
        have f3 := frz hD.blk 3
        have f4 := frz hD.blk 4
        have hpl := hD.lt
        simp [Ds.row] at b2 b3 b4
        have HRe := Lib.hid hRe
        clear hD hRr hRe h2 h3 h4 hT hdr
        go_wp2_with fail
        refine bodyPost_end (results_none rfl _ _ _) rfl ?_
        rw [HSt.out, ← HRz.out, HRe.out]
        exact ⟨rfl, HF.out, HTf.out⟩
end Go.Proofs.Ytjajmlamlmnljaa
