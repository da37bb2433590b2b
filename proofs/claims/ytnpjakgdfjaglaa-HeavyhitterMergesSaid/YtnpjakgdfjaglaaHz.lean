/- Merge of two summaries of streams; a list in three parts. -/
import Derived.Test.YtnpjakgdfjaglaaHw
import Derived.Test.YtnpjakgdfjaglaaHs
namespace Go.Proofs.Ytnpjakgdfjaglaa
open Go.ChangeShapes Go.WideShapes Go.ChangeAt Go.RowKit Go.Joins

theorem mg_mo (a b : Su) : (mgS a b).mo = a.mo := by unfold mgS; split <;> rfl
theorem mg_to (a b : Su) : (mgS a b).to = a.to + b.to := by unfold mgS; split <;> rfl
theorem mrg_ok (a b : Su) (f g : ByteArray → Int) (ha : Gd a f) (hb : Gd b g) (hm : a.mo = b.mo) (h1 : 1 ≤ a.mo ∧ a.mo ≤ 256) (hta : a.to ≤ 1000000) (htb : b.to ≤ 1000000) (v v' : Value) (w : World) (hv : SuV w v a) (hv' : SuV w v' b) :
    Calls Try.prog 27 #[v, v'] w fun e w' => (∃ A c, e = .returned (.tuple #[.agg #[.int .i64 (mgS a b).mo, .int .i64 (mgS a b).to, .int .i64 (mgS a b).lo, .slice A (mgS a b).cs.length c], .int .i64 0]) ∧ SlV w' (.slice A (mgS a b).cs.length c) (mgS a b).cs) ∧ Below w.heap.size w w' := by
  have sa := ha.small h1 hta
  have sb := hb.small (by omega) htb
  have fa := sa.fit
  have fb := sb.fit
  have za := sa.size
  have zb := sb.size
  have ta := sa.to
  have tb := sb.to
  have hF : Fit22 (a.cs ++ b.cs) := by
    refine ⟨fun p hp => ?_, ?_, fun p hp => ?_, ?_⟩
    · rcases List.mem_append.1 hp with h | h
      · exact fa.1 p h
      · exact fb.1 p h
    · rw [sm_append]; have := sa.smb; have := sb.smb; omega
    · rcases List.mem_append.1 hp with h | h
      · exact fa.2.2.1 p h
      · exact fb.2.2.1 p h
    · rw [List.length_append]; omega
  have e : mgR a b = (mgS a b, 0) := by
    unfold mgR
    rw [if_neg (by simpa using hm), if_neg (by omega)]
  have := merge_any v v' a b (by omega) (by omega) hF sa.nb sb.nb (by omega) w hv hv'
  rw [e] at this
  refine this.mono ?_
  rintro e w' ⟨⟨v, rfl, u, rfl, h⟩, hb⟩
  obtain ⟨A, c, rfl, _⟩ := id h
  exact ⟨⟨A, c, rfl, h⟩, hb⟩
theorem ex_three (L : List It) (i k : Nat) (hik : i ≤ k) (key : ByteArray) : exL L key = exL (L.take i) key + exL ((L.take k).drop i) key + exL (L.drop k) key := by
  have e1 : L.take i ++ (L.take k).drop i = L.take k := by
    have := List.take_append_drop i (L.take k)
    rwa [List.take_take, Nat.min_eq_left hik] at this
  rw [← exL_app, e1, ← exL_app, List.take_append_drop]
/-- A part of a list of items in memory. -/
theorem ir_from {w : World} {A : Option Addr} {L : List It} {c p : Nat} (h : IR w A L) (hp : c = p → L.length ≤ p) : IR w (if c = p then A else A.map (fun a => a.add (p * 2))) (L.drop p) := by
  by_cases hc : c = p
  · rw [if_pos hc, List.drop_eq_nil_of_le (hp hc)]; exact IR.nil
  · rw [if_neg hc]
    intro j hj
    have hj' := hj
    rw [List.length_drop] at hj'
    obtain ⟨b, off, rfl, _⟩ := h (p + j) (by omega)
    rw [Option.map_some, add_flat]
    exact IR.drop h p j hj
theorem sl_to (A : Option Addr) (ln c p : Nat) (hp : p ≤ c) (W : World) : (Instr.slice 34 (.slice A ln c) none (some (.int .i64 (p : Int))) none).run Try.prog W = .ok (.slice A p c) W := by
  simp [go_sem, Try.underlying34, show (p : Int) ≤ (c : Int) by omega, sliced]
theorem sl_from (A : Option Addr) (ln c p : Nat) (hp : p ≤ ln) (W : World) : (Instr.slice 34 (.slice A ln c) (some (.int .i64 (p : Int))) none none).run Try.prog W = .ok (.slice (if c = p then A else A.map (fun a => a.add (p * 2))) (ln - p) (c - p)) W := by
  simp [go_sem, Try.underlying34, show (p : Int) ≤ (ln : Int) by omega, sliced]
theorem sl_mid (A : Option Addr) (ln c p q : Nat) (hp : p ≤ q) (hq : q ≤ c) (W : World) : (Instr.slice 34 (.slice A ln c) (some (.int .i64 (p : Int))) (some (.int .i64 (q : Int))) none).run Try.prog W = .ok (.slice (if c = p then A else A.map (fun a => a.add (p * 2))) (q - p) (c - p)) W := by
  simp [go_sem, Try.underlying34, show (p : Int) ≤ (q : Int) by omega, show (q : Int) ≤ (c : Int) by omega, sliced]
end Go.Proofs.Ytnpjakgdfjaglaa
