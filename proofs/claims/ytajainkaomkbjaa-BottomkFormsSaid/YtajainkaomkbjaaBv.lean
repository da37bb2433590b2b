/- Settings and lists of small numbers as arguments. -/
import Derived.Test.YtajainkaomkbjaaBu
namespace Go.Proofs.Ytajainkaomkbjaa
open Go.ChangeShapes Go.WideShapes Go.ChangeAt Go.RowKit Go.Joins

theorem bd64 {a : Int} (w : (Lit.int .i64 a).wf = true) : -9223372036854775808 ≤ a ∧ a ≤ 9223372036854775807 := by
  simpa [Lit.wf, IntKind.min, IntKind.max, IntKind.signed, IntKind.bits] using w
theorem bd8 {a : Int} (w : (Lit.int .u8 a).wf = true) : 0 ≤ a ∧ a ≤ 255 := by
  simpa [Lit.wf, IntKind.min, IntKind.max, IntKind.signed, IntKind.bits] using w
theorem cells_set : Try.prog.cellsOf 23 = 2 := by kernel_rfl
set_option maxRecDepth 100000 in
theorem open_setting {H : Type} {enc : TypeId × Value → H} {W : World} {base : Nat} {v : Value} {d : DataW H} {p : List MemPlace} {r : Reach}
    (hv : Value.okWide Try.prog W r base 23 v) (h : DataW.Trod enc Try.prog W 0 (fun _ => true) true 23 v d p) :
    ∃ a b : Nat, v = .agg #[.int .u8 (a : Int), .int .u8 (b : Int)] ∧ d = .agg [.lit (.int .u8 (a : Int)), .lit (.int .u8 (b : Int))] ∧ p = [] ∧ a ≤ 255 ∧ b ≤ 255 := by
  obtain ⟨c, e, y, z, m, rfl, rfl, rfl, hy, hz⟩ := open_agg2 Try.underlying23 (by kernel_rfl) cells_set hv h
  obtain ⟨a, ea, rfl, wa⟩ := DataW.trod_int Try.underlying5 hy
  obtain ⟨b, eb, rfl, wb⟩ := DataW.trod_int Try.underlying5 hz
  simp at ea eb
  subst ea eb
  have h1 := bd8 wa
  have h2 := bd8 wb
  obtain ⟨a, rfl⟩ : ∃ u : Nat, a = (u : Int) := ⟨a.toNat, by omega⟩
  obtain ⟨b, rfl⟩ : ∃ u : Nat, b = (u : Int) := ⟨b.toNat, by omega⟩
  exact ⟨a, b, rfl, rfl, rfl, by omega, by omega⟩
set_option maxRecDepth 100000 in
theorem shut_setting {H : Type} {enc : TypeId × Value → H} {a b : Nat} (ha : a ≤ 255) (hb : b ≤ 255) (W' : World) (sp : Nat → Bool) :
    DataW.Trod enc Try.prog W' 0 sp true 23 (.agg #[.int .u8 (a : Int), .int .u8 (b : Int)]) (.agg [.lit (.int .u8 (a : Int)), .lit (.int .u8 (b : Int))]) [] := by
  have wa : (Lit.int .u8 (a : Int)).wf = true := by simp [Lit.wf, IntKind.min, IntKind.max, IntKind.signed, IntKind.bits]; omega
  have wb : (Lit.int .u8 (b : Int)).wf = true := by simp [Lit.wf, IntKind.min, IntKind.max, IntKind.signed, IntKind.bits]; omega
  exact shut_agg2 (y0 := (.lit (.int .u8 (a : Int)), [])) (y1 := (.lit (.int .u8 (b : Int)), [])) Try.underlying23 (by kernel_rfl) cells_set ⟨1, by simp [DataW.trod, Try.underlying5, wa]⟩ ⟨1, by simp [DataW.trod, Try.underlying5, wb]⟩
set_option maxRecDepth 100000 in
theorem open_u8s {H : Type} {enc : TypeId × Value → H} {W : World} {base : Nat} {v : Value} {d : DataW H} {p : List MemPlace} {r : Reach}
    (hv : Value.okWide Try.prog W r base 24 v) (h : DataW.Trod enc Try.prog W 0 (fun _ => true) true 24 v d p) (lt : ∀ x ∈ p, x.block < W.heap.size) :
    ∃ (A : Option Addr) (c : Nat) (L : List Nat), v = .slice A L.length c ∧ L.length ≤ 9223372036854775807 ∧ (∀ x ∈ L, x ≤ 255) ∧ Rd u8N W A L := by
  obtain ⟨A, n, c, rfl⟩ := okWide_slice Try.underlying24 hv
  obtain ⟨fuel, hf⟩ := h
  rcases open_ints Try.underlying24 Try.underlying5 (by kernel_rfl) hf with ⟨hcs, hx⟩ | ⟨a, len, cap, zs, hcs, _, hl, hm, hz, hx, hcell, hwf⟩
  · simp only [Value.cells, List.cons.injEq, Value.slice.injEq, and_true] at hcs
    obtain ⟨rfl, rfl, rfl⟩ := hcs
    exact ⟨none, 0, [], rfl, Nat.zero_le _, fun x hx => absurd hx (by simp), Rd.nil⟩
  · simp only [Value.cells, List.cons.injEq, Value.slice.injEq, and_true] at hcs
    obtain ⟨rfl, rfl, rfl⟩ := hcs
    simp only [Prod.mk.injEq] at hx
    unfold maxLen at hm
    simp only [if_true] at hz
    have hle : n ≤ zs.length := by rw [hz]; exact hl
    have hlen : ((zs.take n).map Int.toNat).length = n := by rw [List.length_map, List.length_take]; exact Nat.min_eq_left hle
    refine ⟨some a, c, (zs.take n).map Int.toNat, by rw [hlen], Nat.le_trans (Nat.le_of_eq hlen) (Nat.le_trans hl hm), fun x hx => ?_, fun k hk => ?_⟩
    · obtain ⟨y, hy, rfl⟩ := List.mem_map.1 hx
      have := bd8 (hwf y (List.mem_of_mem_take hy))
      omega
    rw [hlen] at hk
    have hc := hcell k (by omega)
    obtain ⟨b, off, spot⟩ := a
    have hspot : spot = none := by
      have := hcell 0 (by omega)
      simpa [Addr.add] using World.cell?_spot this
    subst hspot
    have hb : b < W.heap.size := lt (.cell b off) (by rw [hx.2]; exact MemPlace.mem_row.2 ⟨0, by omega, by simp⟩)
    rw [add_flat] at hc
    refine ⟨b, off, rfl, hb, ?_⟩
    have hkz : k < zs.length := by omega
    have hbd := bd8 (hwf zs[k] (List.getElem_mem hkz))
    rw [hc, List.getElem_map, List.getElem_take]
    simp [List.getD, List.getElem?_eq_getElem hkz, u8N]
    omega
end Go.Proofs.Ytajainkaomkbjaa
