/- A string's bytes appended to a file's row. -/
import Derived.Test.YtjajmlamlmnljaaDl
import Derived.Lib.AppendStr
namespace Go.Proofs.Ytjajmlamlmnljaa
open Go.ChangeShapes Go.WideShapes Go.ChangeAt Go.RowKit Go.Joins Go.Maps Go.ChangeMaps Go.MapKept

theorem by_info : (Try.prog.info? 5).map (fun i => (i.zero, i.size, i.bytes)) = some (some (.int .u8 0), 1, 1) := by kernel_rfl
theorem str_cells (s : ByteArray) : Lib.strCells s = s.data.toList.map u8v := rfl
/-- Where the row lies that append returns: where it was, or in a new block. -/
theorem append_at (base : Nat) (ty : TypeId) (v : Value) (n : Nat) (xs : List Value) (w : World) (hown : w.ownsRow base 5 1 v n xs) (s : ByteArray) (hn : n + s.size ≤ 1000000000) (hbase : base ≤ w.heap.size) :
    ∃ v' w', (Builtin.append_ #[59, 9] ty #[v, .string s]).run Try.prog w = .ok v' w' ∧ w'.ownsRow base 5 1 v' (n + s.size) (xs ++ Lib.strCells s) ∧ w.grownBy w' v.ownBlock ∧ (∀ k, v'.ownBlock = some k → v.ownBlock = some k ∨ w.heap.size ≤ k) ∧ w'.ownsRow base 5 1 v n xs := by
  obtain ⟨i, hi, hz, hs, hb⟩ := info_parts by_info
  obtain ⟨v', w', hr, h1, h2, _⟩ := Lib.run_append_own_string (P := Try.prog) w base 59 9 ty 5 i Try.underlying59 Try.underlying9 hi hz hs hb v n xs hown s (by unfold maxLen; omega) (by omega) hbase
  refine ⟨v', w', hr, h1, h2, ?_⟩
  have hxl : xs.length = n := by simpa using hown.1
  rcases hown.2 with ⟨rfl, rfl⟩ | ⟨g, cap, cur, rfl, hbg, hg, hnc, hcm, hcs, htake⟩
  · obtain ⟨v2, w2, hr2, h3, _, _⟩ := Lib.run_append_own_string (P := Try.prog) w w.heap.size 59 9 ty 5 i Try.underlying59 Try.underlying9 hi hz hs hb (.slice none 0 0) 0 xs ⟨by rw [hxl], .inl ⟨rfl, rfl⟩⟩ s (by unfold maxLen; omega) (by omega) (Nat.le_refl _)
    rw [hr] at hr2
    injection hr2 with e1 e2
    subst e1
    have hx0 : xs = [] := List.eq_nil_of_length_eq_zero hxl
    exact ⟨fun k hk => .inr (h3.lt k hk).1, by rw [hx0]; exact World.ownsRow_nil _ _ _ _⟩
  · by_cases hroom : n + s.size ≤ cap
    · have hcs' : cur.size = cap := by simpa using hcs
      have hr2 := Lib.run_append_room_string (P := Try.prog) w 59 9 ty 5 i Try.underlying59 Try.underlying9 hi hs g n cap cur hg s hroom (by omega)
      rw [hr] at hr2
      injection hr2 with e1 e2
      refine ⟨fun k hk => .inl (by rw [e1] at hk; exact hk), ?_⟩
      rw [e2]
      have ht' : cur.toList.take n = xs := by simpa using htake
      refine ⟨hown.1, .inr ⟨g, cap, _, rfl, hbg, setRow_heap w g cur _ 5 _ hg, hnc, hcm, ?_, ?_⟩⟩
      · simp only [List.size_toArray, List.length_append, List.length_take, List.length_drop, Array.length_toList, Lib.strCells_length]
        omega
      · rw [ht', Nat.mul_one, List.append_assoc, ← hxl]
        exact List.take_left
    · have holds : ∀ j u, xs[j]? = some u → w.cell? ((⟨g, 0, none⟩ : Addr).add j) = some u := hown.cells (g := g) rfl
      have hr2 := Lib.run_append_grow_string (P := Try.prog) w 59 9 ty 5 i (.int .u8 0) Try.underlying59 Try.underlying9 hi hz ⟨g, 0, none⟩ n cap xs (by rw [hs]; simpa using hxl) holds s (by omega) (by omega) (by rw [hb]; exact growslice_fits (by omega) (by omega))
      rw [hr] at hr2
      injection hr2 with e1 e2
      refine ⟨fun k hk => ?_, ?_⟩
      · rw [e1] at hk
        simp only [Value.ownBlock] at hk
        injection hk with hk
        exact .inr (by omega)
      · rw [e2]
        exact (show w.drew.ownsRow base 5 1 _ n xs from hown).alloc _
theorem sl_block (r : Rw) : r.sl.ownBlock = r.A := by unfold Rw.sl; cases r.A <;> rfl
/-- .. of a file. -/
theorem append_file (B : Nat) (ty : TypeId) (r : Rw) (bs : List UInt8) (w : World) (h : Rp w B (r, bs)) (s : ByteArray) (hn : r.n + s.size ≤ 1000000000) (hB : B ≤ w.heap.size) :
    ∃ r' w', (Builtin.append_ #[59, 9] ty #[r.sl, .string s]).run Try.prog w = .ok r'.sl w' ∧ Rp w' B (r', bs ++ s.data.toList) ∧ r'.n = r.n + s.size ∧ r'.s = r.s ∧ r'.d = r.d ∧ w.grownBy w' r.A ∧ (∀ k, r'.A = some k → r.A = some k ∨ w.heap.size ≤ k) ∧ Rp w' B (r, bs) := by
  obtain ⟨v', w', hr, h1, h2, h3, h9⟩ := append_at B ty r.sl r.n (bs.map u8v) w h.1 s hn hB
  rw [sl_block] at h2 h3
  have hl : r.n = bs.length := h.2.1
  have hsn : r.s ≤ r.n := h.2.2
  rw [str_cells, ← List.map_append] at h1
  have hlen : (bs ++ s.data.toList).length = r.n + s.size := by rw [List.length_append, hl]; rfl
  have hv : ∃ (A : Option Nat) (c : Nat), v' = .slice (A.map fun g => ⟨g, 0, none⟩) (r.n + s.size) c := by
    rcases h1.2 with ⟨rfl, h0⟩ | ⟨g, cap, cur, rfl, _⟩
    · exact ⟨none, 0, by rw [h0]; rfl⟩
    · exact ⟨some g, cap, rfl⟩
  obtain ⟨A, c, rfl⟩ := hv
  refine ⟨⟨A, r.n + s.size, c, r.s, r.d⟩, w', hr, ⟨h1, hlen.symm, Nat.le_trans hsn (Nat.le_add_right _ _)⟩, rfl, rfl, rfl, h2, (fun k hk => h3 k ?_), ⟨h9, h.2⟩⟩
  have e := sl_block ⟨A, r.n + s.size, c, r.s, r.d⟩
  unfold Rw.sl at e
  rw [e]; exact hk
theorem wpList_app {w : World} {ops : Array Oper} {rest : List Oper} {o : Oper} {a : Act} {Q : Exit → Act → World → Prop} (hg : o.guard = none) (x y : Operand) (hop : o.op = .call { callee := .builtin .append, args := #[x, y], argTypes := #[59, 9] })
    (B : Nat) (r : Rw) (bs : List UInt8) (hx : a.eval x = r.sl) (h : Rp w B (r, bs)) (s : ByteArray) (hy : a.eval y = .string s) (hn : r.n + s.size ≤ 1000000000) (hB : B ≤ w.heap.size)
    (hK : ∀ r' w', Rp w' B (r', bs ++ s.data.toList) → r'.n = r.n + s.size → r'.s = r.s → r'.d = r.d → w.grownBy w' r.A → (∀ k, r'.A = some k → r.A = some k ∨ w.heap.size ≤ k) → Rp w' B (r, bs) → wpList Try.prog ops Q rest (a.put o.dst r'.sl) w') : wpList Try.prog ops Q (o :: rest) a w := by
  refine wpList_plain hg fun K' hK' => ?_
  obtain ⟨r', w', hr, h1, h2, h3, h4, h5, h6, h7⟩ := append_file B o.type r bs w h s hn hB
  unfold Oper.wp execOp
  simp only [hop, resolve, invoke, builtin, Sem.run_bind, Sem.run_pure, Result.andThen_ok, List.map_toArray, List.map_cons, List.map_nil, hx, hy, hr]
  exact hK' _ _ (hK r' w' h1 h2 h3 h4 h5 h6 h7)
end Go.Proofs.Ytjajmlamlmnljaa
