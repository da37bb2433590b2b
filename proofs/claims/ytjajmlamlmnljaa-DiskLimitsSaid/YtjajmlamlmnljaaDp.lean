/- List, Down, Capacity, Limit; Read, Durable. -/
import Derived.Test.YtjajmlamlmnljaaDo
namespace Go.Proofs.Ytjajmlamlmnljaa
open Go.ChangeShapes Go.WideShapes Go.ChangeAt Go.RowKit Go.Joins Go.Maps Go.ChangeMaps Go.MapKept

/-- The names that List returns. -/
def liL (S : Ds) : List (Ct Fl) := if S.dn = true then [] else S.fs
set_option maxRecDepth 100000 in
theorem list_any (B p : Nat) (S : Ds) (hl : S.fs.length ≤ 1000000) (w : World) (hD : Dk w B p S) :
    Calls Try.prog 19 #[.pointer (some ⟨p, 0, none⟩)] w fun e w' => (∃ v, e = .returned v ∧ w'.ownsRow w.heap.size 9 1 v (liL S).length (kV (liL S))) ∧ Below w.heap.size w w' := by
  have HCk := Lib.hid (check_any p S none 0 [] (by simp) (fun s h => nomatch h) w hD.blk Rd.nil)
  have HNm := Lib.hid (fun W h => names_any B p S hl W h)
  have HDk := Lib.hid hD
  have HLi : Hid (liL S = if S.dn = true then [] else S.fs) := Lib.hid rfl
  obtain ⟨L, hL⟩ : ∃ L, L = liL S := ⟨_, rfl⟩
  rw [← hL] at HLi ⊢
  obtain ⟨dn, hdn⟩ : ∃ dn, dn = S.dn := ⟨_, rfl⟩
  rw [← hdn] at HCk HLi
  dsimp only [List.length_nil] at HCk
  rw [ck_nil] at HCk
  clear hD hL hdn
  cases dn with
  | true =>
    simp only [if_true] at HCk HLi
    go_enter Try.func19, Try.ntmps19
    go_wp2_with fail
    refine HCk.out.mono ?_
    rintro e w1 ⟨rfl, hb⟩
    have HB := Lib.hid hb
    clear hb
    go_wp2_with fail
    go_ret
    refine ⟨⟨_, rfl, ?_⟩, HB.out⟩
    rw [HLi.out]
    exact World.ownsRow_nil _ _ _ _
  | false =>
    simp only [Bool.false_eq_true, if_false] at HCk HLi
    go_enter Try.func19, Try.ntmps19
    go_wp2_with fail
    refine HCk.out.mono ?_
    rintro e w1 ⟨rfl, hb⟩
    have HB := Lib.hid hb
    have HN1 := Lib.hid (HNm.out w1 (HDk.out.below hb))
    clear hb
    go_wp2_with fail
    refine HN1.out.mono ?_
    rintro e w2 ⟨v, rfl, ho, hb⟩
    have HB2 := Lib.hid (HB.out.trans (hb.mono HB.out.size))
    have HO := Lib.hid (ownsRow_base_a ho HB.out.size)
    clear hb ho
    go_wp2_with fail
    go_ret
    refine ⟨⟨_, rfl, ?_⟩, HB2.out⟩
    rw [HLi.out]
    exact HO.out
theorem down_any (p : Nat) (S : Ds) (w : World) (hd : w.heap[p]? = some (.cells S.row 65 (0, 0))) : Calls Try.prog 27 #[.pointer (some ⟨p, 0, none⟩)] w fun e w' => e = .returned (.bool S.dn) ∧ Below w.heap.size w w' := by
  have c2 := cell_of_row _ _ 2 _ _ _ hd
  simp [Ds.row] at c2
  clear hd
  go_enter Try.func27, Try.ntmps27
  go_wp2_with fail
  go_ret
  exact ⟨rfl, Below.refl _ _⟩
theorem cap_any (p : Nat) (S : Ds) (w : World) (hd : w.heap[p]? = some (.cells S.row 65 (0, 0))) : Calls Try.prog 34 #[.pointer (some ⟨p, 0, none⟩)] w fun e w' => e = .returned (.int .i64 S.cap) ∧ Below w.heap.size w w' := by
  have c2 := cell_of_row _ _ 0 _ _ _ hd
  simp [Ds.row] at c2
  clear hd
  go_enter Try.func34, Try.ntmps34
  go_wp2_with fail
  go_ret
  exact ⟨rfl, Below.refl _ _⟩
theorem limit_any (B p : Nat) (S : Ds) (n : Int) (w : World) (hD : Dk w B p S) : Calls Try.prog 21 #[.pointer (some ⟨p, 0, none⟩), .int .i64 n] w fun e w' => e = .returned (.tuple #[]) ∧ Dk w' B p { S with lim := true, lft := max n 0 } ∧ Tn (· = p) w w' := by
  have hd := hD.blk
  have f3 := frz hd 3
  have f4 := frz hd 4
  have c3 := cell_of_row _ _ 3 _ _ _ hd
  have c4 := cell_of_row _ _ 4 _ _ _ hd
  have hp := hD.lt
  simp [Ds.row] at c3 c4
  have h1 := tn_cell (j := 3) hd (.bool true)
  have h2 := tn_cell (j := 4) h1.1 (.int .i64 (max n 0))
  have hT : Tn (· = p) w ((w.setCell ⟨p, 3, none⟩ (.bool true)).setCell ⟨p, 4, none⟩ (.int .i64 (max n 0))) := h1.2.trans h2.2 (fun i h => .inl h)
  have HD := Lib.hid (hD.flag (S' := { S with lim := true, lft := max n 0 }) rfl rfl h2.1 hT)
  have HT := Lib.hid hT
  clear hD hd h1 h2 hT
  go_enter Try.func21, Try.ntmps21
  go_wp2_with fail
  refine bodyPost_end (results_none rfl _ _ _) rfl ?_
  exact ⟨rfl, HD.out, HT.out⟩
theorem conv_none (c : Nat) (w : World) : (convert 59 9 (.slice none 0 c)).run Try.prog w = .ok (.string ⟨#[]⟩) w := by kernel_rfl
/-- A beginning of a file's row as a string. -/
theorem conv_file {w : World} {B : Nat} {r : Rw} {bs : List UInt8} (h : Rp w B (r, bs)) (m c : Nat) (hm : m ≤ r.n) : (convert 59 9 (.slice (r.A.map fun g => ⟨g, 0, none⟩) m c)).run Try.prog w = .ok (.string ⟨(bs.take m).toArray⟩) w := by
  obtain ⟨⟨h1, h2⟩, h3, _⟩ := h
  have h3 : r.n = bs.length := h3
  rcases h2 with ⟨e1, h0⟩ | ⟨g, cap, cur, e1, h4, h5, h6, h7, h8, h9⟩
  · have h0 : r.n = 0 := h0
    have eA : r.A.map (fun g => (⟨g, 0, none⟩ : Addr)) = none := by unfold Rw.sl at e1; injection e1
    obtain rfl : m = 0 := by omega
    rw [List.take_zero, eA]
    exact conv_none c w
  · have eA : r.A.map (fun g => (⟨g, 0, none⟩ : Addr)) = some ⟨g, 0, none⟩ := by unfold Rw.sl at e1; injection e1
    rw [eA]
    have hcells := World.ownsRow.cells (w := w) (base := B) (e := 5) (size := 1) (v := .slice (some ⟨g, 0, none⟩) r.n cap) (n := r.n) (xs := bs.map u8v) ⟨h1, .inr ⟨g, cap, cur, rfl, h4, h5, h6, h7, h8, h9⟩⟩ (g := g) rfl
    have := run_convert_bytes_back w 59 9 5 ⟨g, 0, none⟩ c (bs.take m) Try.underlying59 Try.underlying5 Try.underlying9 (fun j hj => by
      rw [List.length_take] at hj
      rw [hcells j (u8v bs[j]) (by rw [List.getElem?_map, List.getElem?_eq_getElem (by omega)]; rfl), List.getElem_take]
      rfl)
    rw [List.length_take, Nat.min_eq_left (by omega)] at this
    exact this
/-- What Read returns, and Durable. -/
noncomputable def rdE (S : Ds) (k : ByteArray) : ByteArray × Int := if (fnE S [k] k).2 = 0 then (⟨(gt S.fs k).2.toArray⟩, 0) else (⟨#[]⟩, (fnE S [k] k).2)
noncomputable def duE (S : Ds) (k : ByteArray) : ByteArray × Int := if (fnE S [k] k).2 = 0 then (⟨((gt S.fs k).2.take (gt S.fs k).1.s).toArray⟩, 0) else (⟨#[]⟩, (fnE S [k] k).2)
set_option maxRecDepth 100000 in
set_option maxHeartbeats 4000000 in
theorem read_any (B p : Nat) (S : Ds) (k : ByteArray) (hk : k.size ≤ 1000000) (w : World) (hD : Dk w B p S) :
    Calls Try.prog 20 #[.pointer (some ⟨p, 0, none⟩), .string k] w fun e w' => e = .returned (.tuple #[.string (rdE S k).1, .int .i64 (rdE S k).2]) ∧ Below w.heap.size w w' := by
  have hcl := find0_any B p S k hk w hD
  have HOk := Lib.hid (@fn_ok S [k] k)
  have HE : Hid (rdE S k = if (fnE S [k] k).2 = 0 then (⟨((gt S.fs k).2).toArray⟩, 0) else (⟨#[]⟩, (fnE S [k] k).2)) := Lib.hid rfl
  have HDf : Hid ((fnE S [k] k).2 ≠ 0 → (fnE S [k] k).1 = default) := Lib.hid (fun h => by
    unfold fnE at h ⊢
    split at h
    · rename_i h0
      rw [if_pos h0]
      split at h
      · exact absurd rfl h
      · rename_i h1; rw [if_neg h1]
    · rename_i h0; rw [if_neg h0])
  have HDk := Lib.hid hD
  obtain ⟨E, hE⟩ : ∃ E, E = rdE S k := ⟨_, rfl⟩
  rw [← hE] at HE ⊢
  obtain ⟨fr, hfr⟩ : ∃ fr, fr = fnE S [k] k := ⟨_, rfl⟩
  rw [← hfr] at HE HOk HDf hcl
  obtain ⟨r, z⟩ := fr
  dsimp only at HOk HDf HE hcl
  have HRp : Hid (∃ bs, Rp w B (r, bs) ∧ E = (⟨(bs.take r.n).toArray⟩, z)) := Lib.hid (by
    by_cases h0 : z = 0
    · obtain ⟨h1, h2, _⟩ := HOk.out h0
      refine ⟨(gt S.fs k).2, ?_, ?_⟩
      · rw [h2]; exact HDk.out.rows _ (gt_in h1)
      · have hn : r.n = (gt S.fs k).2.length := by rw [h2]; exact (HDk.out.rows _ (gt_in h1)).2.1
        rw [HE.out, if_pos h0, h0]
        rw [List.take_of_length_le (by omega)]
    · refine ⟨[], ?_, ?_⟩
      · rw [HDf.out h0]; exact rp_zero _ _
      · rw [HE.out, if_neg h0, List.take_nil])
  obtain ⟨bs, hrp, hEe⟩ := HRp.out
  have HRw := Lib.hid hrp
  have HEe := Lib.hid hEe
  obtain ⟨A9, hA9⟩ : ∃ A9, A9 = r.A.map fun g => (⟨g, 0, none⟩ : Addr) := ⟨_, rfl⟩
  have HA9 := Lib.hid hA9
  have hcl' : Calls Try.prog 44 #[.pointer (some ⟨p, 0, none⟩), .string k, .slice none 0 0] w fun e w' => e = .returned (.tuple #[.agg #[.slice A9 r.n r.c, .int .i64 (r.s : Int), .bool r.d], .int .i64 z]) ∧ Below w.heap.size w w' := by rw [hA9]; exact hcl
  have HCl := Lib.hid hcl'
  have HSb : Hid ((Try.prog.info? 69).map (fun i => i.size) = some 3) := Lib.hid (by kernel_rfl)
  have H1r : Hid ((#[.slice A9 r.n r.c, .int .i64 (r.s : Int), .bool r.d] : Array Value).all (·.oneCell') = true) := Lib.hid (by simp [Value.oneCell'])
  have hsn : r.s ≤ r.n := hrp.2.2
  have hnc : r.n ≤ r.c := by
    obtain ⟨A0, c0, e0, h0⟩ := own_slice hrp.1
    unfold Rw.sl at e0
    injection e0 with _ _ e0
    show r.n ≤ r.c
    rw [e0]; exact h0
  clear hcl hcl' hE hfr hD hrp hEe hA9 HE HOk HDf HRp
  go_enter Try.func20, Try.ntmps20
  go_wp2_with fail
  refine HCl.out.mono ?_
  rintro e w1 ⟨rfl, hb1⟩
  have HB1 := Lib.hid hb1
  obtain ⟨w2, hw2⟩ : ∃ w2, w2 = w1.alloc (.cells #[.slice A9 r.n r.c, .int .i64 (r.s : Int), .bool r.d] 69) := ⟨_, rfl⟩
  have hb2 : Below w1.heap.size w1 w2 := by rw [hw2]; exact (Below.refl _ _).alloc (Nat.le_refl _) _
  have HX2 : Hid (w2.heap[w1.heap.size]? = some (.cells #[.slice A9 r.n r.c, .int .i64 (r.s : Int), .bool r.d] 69 (0, 0))) := Lib.hid (by rw [hw2]; exact Deep.blk_alloc_new _ _)
  have HB2 := Lib.hid (HB1.out.trans (hb2.mono HB1.out.size))
  have HA : Hid ((w1.alloc (.cells #[.slice none 0 0, .int .i64 0, .bool false] 69)).heap[w1.heap.size]? = some (.cells #[.slice none 0 0, .int .i64 0, .bool false] 69 (0, 0))) := Lib.hid (Deep.blk_alloc_new _ _)
  have HW2 : Hid (w2 = (w1.alloc (.cells #[.slice none 0 0, .int .i64 0, .bool false] 69)).setRow w1.heap.size #[.slice A9 r.n r.c, .int .i64 (r.s : Int), .bool r.d]) := Lib.hid (by rw [hw2]; exact (alloc_setRow _ _ _ _).symm)
  have q0 := conv_file (HRw.out.below HB2.out) r.n r.c (by omega)
  rw [← HA9.out] at q0
  have c0 := cell_of_row _ _ 0 _ _ _ HX2.out
  have c1 := cell_of_row _ _ 1 _ _ _ HX2.out
  simp at c0 c1
  rw [HW2.out] at q0 c0 c1
  clear hb1 hw2 hb2
  go_wp2_with (refine wpList_store_row rfl _ _ _ rfl w1.heap.size #[.slice A9 r.n r.c, .int .i64 (r.s : Int), .bool r.d] rfl rfl 69 _ HA.out HSb.out rfl H1r.out ?_)
  try rw [← HW2.out]
  refine bodyPost_ret (results_tmp2 rfl _ _ _) rfl ⟨?_, HB2.out⟩
  rw [HEe.out]; rfl
set_option maxRecDepth 100000 in
set_option maxHeartbeats 4000000 in
theorem durable_any (B p : Nat) (S : Ds) (k : ByteArray) (hk : k.size ≤ 1000000) (w : World) (hD : Dk w B p S) :
    Calls Try.prog 33 #[.pointer (some ⟨p, 0, none⟩), .string k] w fun e w' => e = .returned (.tuple #[.string (duE S k).1, .int .i64 (duE S k).2]) ∧ Below w.heap.size w w' := by
  have hcl := find0_any B p S k hk w hD
  have HOk := Lib.hid (@fn_ok S [k] k)
  have HE : Hid (duE S k = if (fnE S [k] k).2 = 0 then (⟨((gt S.fs k).2.take (gt S.fs k).1.s).toArray⟩, 0) else (⟨#[]⟩, (fnE S [k] k).2)) := Lib.hid rfl
  have HDf : Hid ((fnE S [k] k).2 ≠ 0 → (fnE S [k] k).1 = default) := Lib.hid (fun h => by
    unfold fnE at h ⊢
    split at h
    · rename_i h0
      rw [if_pos h0]
      split at h
      · exact absurd rfl h
      · rename_i h1; rw [if_neg h1]
    · rename_i h0; rw [if_neg h0])
  have HDk := Lib.hid hD
  obtain ⟨E, hE⟩ : ∃ E, E = duE S k := ⟨_, rfl⟩
  rw [← hE] at HE ⊢
  obtain ⟨fr, hfr⟩ : ∃ fr, fr = fnE S [k] k := ⟨_, rfl⟩
  rw [← hfr] at HE HOk HDf hcl
  obtain ⟨r, z⟩ := fr
  dsimp only at HOk HDf HE hcl
  have HRp : Hid (∃ bs, Rp w B (r, bs) ∧ E = (⟨(bs.take r.s).toArray⟩, z)) := Lib.hid (by
    by_cases h0 : z = 0
    · obtain ⟨h1, h2, _⟩ := HOk.out h0
      refine ⟨(gt S.fs k).2, ?_, ?_⟩
      · rw [h2]; exact HDk.out.rows _ (gt_in h1)
      · have hn : r.n = (gt S.fs k).2.length := by rw [h2]; exact (HDk.out.rows _ (gt_in h1)).2.1
        rw [HE.out, if_pos h0, h0]
        rw [h2]
    · refine ⟨[], ?_, ?_⟩
      · rw [HDf.out h0]; exact rp_zero _ _
      · rw [HE.out, if_neg h0, List.take_nil])
  obtain ⟨bs, hrp, hEe⟩ := HRp.out
  have HRw := Lib.hid hrp
  have HEe := Lib.hid hEe
  obtain ⟨A9, hA9⟩ : ∃ A9, A9 = r.A.map fun g => (⟨g, 0, none⟩ : Addr) := ⟨_, rfl⟩
  have HA9 := Lib.hid hA9
  have hcl' : Calls Try.prog 44 #[.pointer (some ⟨p, 0, none⟩), .string k, .slice none 0 0] w fun e w' => e = .returned (.tuple #[.agg #[.slice A9 r.n r.c, .int .i64 (r.s : Int), .bool r.d], .int .i64 z]) ∧ Below w.heap.size w w' := by rw [hA9]; exact hcl
  have HCl := Lib.hid hcl'
  have HSb : Hid ((Try.prog.info? 69).map (fun i => i.size) = some 3) := Lib.hid (by kernel_rfl)
  have H1r : Hid ((#[.slice A9 r.n r.c, .int .i64 (r.s : Int), .bool r.d] : Array Value).all (·.oneCell') = true) := Lib.hid (by simp [Value.oneCell'])
  have hsn : r.s ≤ r.n := hrp.2.2
  have hnc : r.n ≤ r.c := by
    obtain ⟨A0, c0, e0, h0⟩ := own_slice hrp.1
    unfold Rw.sl at e0
    injection e0 with _ _ e0
    show r.n ≤ r.c
    rw [e0]; exact h0
  clear hcl hcl' hE hfr hD hrp hEe hA9 HE HOk HDf HRp
  go_enter Try.func33, Try.ntmps33
  go_wp2_with fail
  refine HCl.out.mono ?_
  rintro e w1 ⟨rfl, hb1⟩
  have HB1 := Lib.hid hb1
  obtain ⟨w2, hw2⟩ : ∃ w2, w2 = w1.alloc (.cells #[.slice A9 r.n r.c, .int .i64 (r.s : Int), .bool r.d] 69) := ⟨_, rfl⟩
  have hb2 : Below w1.heap.size w1 w2 := by rw [hw2]; exact (Below.refl _ _).alloc (Nat.le_refl _) _
  have HX2 : Hid (w2.heap[w1.heap.size]? = some (.cells #[.slice A9 r.n r.c, .int .i64 (r.s : Int), .bool r.d] 69 (0, 0))) := Lib.hid (by rw [hw2]; exact Deep.blk_alloc_new _ _)
  have HB2 := Lib.hid (HB1.out.trans (hb2.mono HB1.out.size))
  have HA : Hid ((w1.alloc (.cells #[.slice none 0 0, .int .i64 0, .bool false] 69)).heap[w1.heap.size]? = some (.cells #[.slice none 0 0, .int .i64 0, .bool false] 69 (0, 0))) := Lib.hid (Deep.blk_alloc_new _ _)
  have HW2 : Hid (w2 = (w1.alloc (.cells #[.slice none 0 0, .int .i64 0, .bool false] 69)).setRow w1.heap.size #[.slice A9 r.n r.c, .int .i64 (r.s : Int), .bool r.d]) := Lib.hid (by rw [hw2]; exact (alloc_setRow _ _ _ _).symm)
  have q0 := conv_file (HRw.out.below HB2.out) r.s r.c (by omega)
  rw [← HA9.out] at q0
  have c0 := cell_of_row _ _ 0 _ _ _ HX2.out
  have c1 := cell_of_row _ _ 1 _ _ _ HX2.out
  simp at c0 c1
  rw [HW2.out] at q0 c0 c1
  clear hb1 hw2 hb2
  have hs0 : (0 : Int) ≤ (r.s : Int) := by omega
  have hs1 : r.s ≤ r.c := by omega
  go_wp2_with (refine wpList_store_row rfl _ _ _ rfl w1.heap.size #[.slice A9 r.n r.c, .int .i64 (r.s : Int), .bool r.d] rfl rfl 69 _ HA.out HSb.out rfl H1r.out ?_)
  try rw [← HW2.out]
  refine bodyPost_ret (results_tmp2 rfl _ _ _) rfl ⟨?_, HB2.out⟩
  rw [HEe.out]; rfl
end Go.Proofs.Ytjajmlamlmnljaa
