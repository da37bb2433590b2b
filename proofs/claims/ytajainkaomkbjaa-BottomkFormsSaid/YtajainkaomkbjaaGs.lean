/- What is carried between the calls of a law; three lists of small numbers as an argument. -/
import Derived.Test.YtajainkaomkbjaaEf
import Derived.Test.YtajainkaomkbjaaBv
import Derived.Test.YtajainkaomkbjaaBw
import Derived.Laws.IdiomArrays
namespace Go.Proofs.Ytajainkaomkbjaa
open Go.ChangeShapes Go.WideShapes Go.ChangeAt Go.RowKit Go.Joins Bt

theorem bz_alloc {a w : World} (h : Below a.heap.size a w) (o : Obj) : Below a.heap.size a (w.alloc o) := h.alloc h.size o
theorem bz_call {a w w' : World} (h : Below a.heap.size a w) (hb : Below w.heap.size w w') : Below a.heap.size a w' := h.trans (hb.mono h.size)
theorem stv_gs {w w' : World} {g : Nat} {n sd n2 sd2 : Int} {S : List Ky} {u : Value} {x : List Ky × Bool} (h : StV w n sd S u) (hs : Sk w g n2 sd2 x) (k : Gs g w w') : StV w' n sd S u := by
  obtain ⟨v, e, h1⟩ := h
  obtain ⟨_, _, hb⟩ := hs
  exact ⟨v, e, h1.gs k hb⟩
theorem slv_gs {w w' : World} {g : Nat} {n2 sd2 : Int} {L : List Ky} {v : Value} {x : List Ky × Bool} (h : SlV w v L) (hs : Sk w g n2 sd2 x) (k : Gs g w w') : SlV w' v L := by
  obtain ⟨_, _, hb⟩ := hs
  exact h.gs k hb
theorem blk_gs {w w' : World} {g z : Nat} {n2 sd2 : Int} {x : List Ky × Bool} {cs : Array Value} {T : TypeId} (hT : T ≠ 59) (hz : w.heap[z]? = some (.cells cs T (0, 0))) (hs : Sk w g n2 sd2 x) (k : Gs g w w') : w'.heap[z]? = some (.cells cs T (0, 0)) := by
  refine (k.block z (Array.getElem?_eq_some_iff.1 hz).1 (fun e => ?_)).trans hz
  injection e with e
  subst e
  obtain ⟨_, _, hb⟩ := hs
  rw [hz] at hb
  injection hb with hb
  injection hb with _ hb
  exact hT hb
theorem blk_below {w w' : World} {z : Nat} {o : Obj} (hz : w.heap[z]? = some o) (hb : Below w.heap.size w w') : w'.heap[z]? = some o := (hb.block z (Array.getElem?_eq_some_iff.1 hz).1).trans hz
set_option maxRecDepth 100000 in
theorem open_u8c {H : Type} {enc : TypeId × Value → H} {W : World} {v : Value} {fuel : Nat} {y : DataW H × List MemPlace}
    (hf : DataW.trod enc Try.prog W 0 (fun _ => true) true fuel 24 [v] = some y) (lt : ∀ x ∈ y.2, x.block < W.heap.size) :
    ∃ (A : Option Addr) (c : Nat) (L : List Nat), v = .slice A L.length c ∧ L.length ≤ 9223372036854775807 ∧ (∀ x ∈ L, x ≤ 255) ∧ Rd u8N W A L := by
  rcases open_ints Try.underlying24 Try.underlying5 (by kernel_rfl) hf with ⟨hcs, hx⟩ | ⟨a, n, c, zs, hcs, _, hl, hm, hz, hx, hcell, hwf⟩
  · simp only [List.cons.injEq, and_true] at hcs
    subst hcs
    exact ⟨none, 0, [], rfl, Nat.zero_le _, fun x hx => absurd hx (by simp), Rd.nil⟩
  · simp only [List.cons.injEq, and_true] at hcs
    subst hcs
    subst hx
    unfold maxLen at hm
    simp only [if_true] at hz
    have hle : n ≤ zs.length := by rw [hz]; exact hl
    have hlen : ((zs.take n).map Int.toNat).length = n := by rw [List.length_map, List.length_take]; exact Nat.min_eq_left hle
    refine ⟨some a, c, (zs.take n).map Int.toNat, by rw [hlen], Nat.le_trans (Nat.le_of_eq hlen) (Nat.le_trans hl hm), fun x hx => ?_, fun k hk => ?_⟩
    · obtain ⟨y, hy, rfl⟩ := List.mem_map.1 hx
      have := bd8 (hwf y (List.mem_of_mem_take hy))
      omega
    rw [hlen] at hk
    have hc := hcell k (by omega)
    obtain ⟨b, off, spot⟩ := a
    have hspot : spot = none := by
      have := hcell 0 (by omega)
      simpa [Addr.add] using World.cell?_spot this
    subst hspot
    have hb : b < W.heap.size := lt (.cell b off) (MemPlace.mem_row.2 ⟨0, by omega, by simp⟩)
    rw [add_flat] at hc
    refine ⟨b, off, rfl, hb, ?_⟩
    have hkz : k < zs.length := by omega
    have hbd := bd8 (hwf zs[k] (List.getElem_mem hkz))
    rw [hc, List.getElem_map, List.getElem_take]
    simp [List.getD, List.getElem?_eq_getElem hkz, u8N]
    omega
set_option maxRecDepth 100000 in
theorem open_u8x3 {H : Type} {enc : TypeId × Value → H} {W : World} {base : Nat} {v : Value} {d : DataW H} {p : List MemPlace} {r : Reach}
    (hv : Value.okWide Try.prog W r base 46 v) (h : DataW.Trod enc Try.prog W 0 (fun _ => true) true 46 v d p) (lt : ∀ x ∈ p, x.block < W.heap.size) :
    ∃ (A0 : Option Addr) (c0 : Nat) (L0 : List Nat) (A1 : Option Addr) (c1 : Nat) (L1 : List Nat) (A2 : Option Addr) (c2 : Nat) (L2 : List Nat), v = .agg #[.slice A0 L0.length c0, .slice A1 L1.length c1, .slice A2 L2.length c2] ∧
      (L0.length ≤ 9223372036854775807 ∧ (∀ x ∈ L0, x ≤ 255) ∧ Rd u8N W A0 L0) ∧ (L1.length ≤ 9223372036854775807 ∧ (∀ x ∈ L1, x ≤ 255) ∧ Rd u8N W A1 L1) ∧ (L2.length ≤ 9223372036854775807 ∧ (∀ x ∈ L2, x ≤ 255) ∧ Rd u8N W A2 L2) := by
  obtain ⟨cs, rfl, hsz⟩ : ∃ cs, v = .agg cs ∧ cs.size = Try.prog.cellsOf 46 := by
    simp only [Value.okWide, Try.underlying46] at hv
    obtain ⟨cs, h1, h2, _⟩ := hv
    exact ⟨cs, h1, h2⟩
  have hC : Try.prog.cellsOf 46 = 3 := by kernel_rfl
  rw [hC] at hsz
  obtain ⟨c0, c1, c2, rfl⟩ : ∃ c0 c1 c2, cs = #[c0, c1, c2] := by
    obtain ⟨l⟩ := cs
    match l, hsz with
    | [a, b, c], _ => exact ⟨a, b, c, rfl⟩
  obtain ⟨fuel, hf⟩ := h
  obtain ⟨y0, y1, y2, n, hx, h0, h1, h2⟩ := trod_array3 Try.underlying46 (by kernel_rfl) hf
  simp only [Prod.mk.injEq] at hx
  obtain ⟨_, rfl⟩ := hx
  obtain ⟨A0, d0, L0, rfl, a0⟩ := open_u8c h0 (fun x hx => lt x (by simp [hx]))
  obtain ⟨A1, d1, L1, rfl, a1⟩ := open_u8c h1 (fun x hx => lt x (by simp [hx]))
  obtain ⟨A2, d2, L2, rfl, a2⟩ := open_u8c h2 (fun x hx => lt x (by simp [hx]))
  exact ⟨A0, d0, L0, A1, d1, L1, A2, d2, L2, rfl, a0, a1, a2⟩
theorem equal_self (g h : Nat) (n sd : Int) (x : List Ky × Bool) (hl : x.1.length ≤ 1000000) (w : World) (hk : Sk w g n sd x) (hk2 : Sk w h n sd x) :
    Calls Try.prog 21 #[.pointer (some ⟨g, 0, none⟩), .pointer (some ⟨h, 0, none⟩)] w fun e w' => e = .returned (.bool true) ∧ Below w.heap.size w w' :=
  (equal_any g h n sd n sd x x hl w hk hk2).mono (by rintro e w' ⟨rfl, hb⟩; exact ⟨by simp, hb⟩)
/-- The texts of small numbers are short. -/
theorem sz_kys (sd : Int) (L : List Nat) : Sz (bld (kys sd (txts L))) := fun k hk => by
  have h := (bld_mem _ _).1 hk
  unfold kys at h
  obtain ⟨t, ht, rfl⟩ := List.mem_map.1 h
  unfold txts at ht
  obtain ⟨x, _, rfl⟩ := List.mem_map.1 ht
  show (txtN x).size ≤ 300
  have : (txtN x).size = 3 := rfl
  omega
theorem sz_mrg {S T : List Ky} (h : Sz S) (k : Sz T) : Sz (mrg S T) := fun x hx => ((mrg_mem _ _ _).1 hx).elim (h x) (k x)
/-- A merged sketch keeps nothing that no part keeps. -/
theorem skt_parts (n : Nat) (S T : List Ky) (x : Ky) (h : x ∈ (skt n (mrg S T)).1) : x ∈ (skt n S).1 ∨ x ∈ (skt n T).1 := by
  rw [← kep_mrg] at h
  refine (mrg_mem _ _ _).1 ?_
  unfold kep at h
  split at h
  · exact List.mem_of_mem_take h
  · exact h
theorem mrg_again {S T U : List Ky} (hS : Srt S) (hT : Srt T) (hU : Srt U) : mrg (mrg (mrg U S) T) (mrg (mrg S T) U) = mrg (mrg S T) U :=
  srt_ext (mrg_srt _ _ (mrg_srt _ _ (mrg_srt _ _ hU hS) hT) (mrg_srt _ _ (mrg_srt _ _ hS hT) hU)) (mrg_srt _ _ (mrg_srt _ _ hS hT) hU) fun x => by
    simp only [mrg_mem]
    constructor
    · rintro (((h | h) | h) | h)
      · exact .inr h
      · exact .inl (.inl h)
      · exact .inl (.inr h)
      · exact h
    · exact .inr
end Go.Proofs.Ytajainkaomkbjaa
