/- A summary that Check accepts; Add at a stream's summary. -/
import Derived.Test.YtnpjakgdfjaglaaHq
namespace Go.Proofs.Ytnpjakgdfjaglaa
open Go.ChangeShapes Go.WideShapes Go.ChangeAt Go.RowKit Go.Joins

theorem i64_and7 (n : Int) : bits .and .i64 n 7 = n % 8 := by
  have h7 : (BitVec.ofInt 64 7).toNat = 2 ^ 3 - 1 := by decide
  have key : (BitVec.ofInt 64 n &&& BitVec.ofInt 64 7).toNat = (n % ((2 ^ 64 : Nat) : Int)).toNat % 2 ^ 3 := by
    rw [BitVec.toNat_and, BitVec.toNat_ofInt, h7, Nat.and_two_pow_sub_one_eq_mod]
  show IntKind.i64.wrap ((BitVec.ofInt 64 n &&& BitVec.ofInt 64 7).toNat : Nat) = n % 8
  rw [key, IntKind.wrap_i64]
  omega
theorem ckS_gd {s : Su} {f : ByteArray → Int} (h : Gd s f) (hm : 1 ≤ s.mo ∧ s.mo ≤ 256) (ht : s.to ≤ 1125899906842624) : ckS s = 0 := by
  have h4 := h.len
  have h5 : 0 ≤ s.lo * (s.mo + 1) := Int.mul_nonneg h.lo (by omega)
  have h6 := h.sum
  have h7 := sm_nn h.ps.nn
  have h8 := h.lo
  unfold ckS
  rw [if_neg (by omega), if_neg (by omega)]
  have e : ckL none s.to s.cs = 0 := ck_ok h.sd h.ps h.nm (fun p hp => by have := mem_sm h.ps.nn hp; omega) none (fun x hx => by simp at hx)
  rw [if_pos e, if_pos h6]
/-- Check accepts a summary of a stream. -/
theorem pck_ok (s : Su) (f : ByteArray → Int) (h : Gd s f) (hm : 1 ≤ s.mo ∧ s.mo ≤ 256) (ht : s.to ≤ 1125899906842624) (v : Value) (w : World) (hv : SuV w v s) :
    Calls Try.prog 16 #[v] w fun e w' => e = .returned (.int .i64 0) ∧ Below w.heap.size w w' := by
  have h1 := h.len
  have h5 : 0 ≤ s.lo * (s.mo + 1) := Int.mul_nonneg h.lo (by omega)
  have h6 := h.sum
  have := pck_any v s (by omega) (fun p hp => by have := nm_size (h.nm p hp); omega) (fun p hp => by
    have h1 := h.ps p hp
    have h2 := mem_sm h.ps.nn hp
    omega) (by omega) w (SuW.of hv)
  rwa [ckS_gd h hm ht] at this
/-- equal at two readings of one summary. -/
theorem eq_self (s : Su) (hl : s.cs.length ≤ 1000000) (v u : Value) (w : World) (hv : SuV w v s) (hu : SuV w u s) :
    Calls Try.prog 15 #[v, u] w fun e w' => e = .returned (.bool true) ∧ Below w.heap.size w w' := by
  have := equal_any v u s s hl w hv hu
  rwa [show eqS s s = true by simp [eqS]] at this
theorem add_err (s : Su) (hs : Sl22 s) (k : ByteArray) (n : Int) (hk : k.size ≤ 1000) (z : Int) (hz : adR s k n = (su0, z)) (v : Value) (w : World) (hv : SuV w v s) :
    Calls Try.prog 19 #[v, .string k, .int .i64 n] w fun e w' => (∃ A c, e = .returned (.tuple #[.agg #[.int .i64 0, .int .i64 0, .int .i64 0, .slice A 0 c], .int .i64 z]) ∧ SlV w' (.slice A 0 c) []) ∧ Below w.heap.size w w' := by
  have := add_any v s k n hk (by have := hs.size; omega) hs.fit hs.sd hs.nb w hv
  rw [hz] at this
  refine this.mono ?_
  rintro e w' ⟨⟨v, rfl, u, rfl, h⟩, hb⟩
  obtain ⟨A, c, rfl, _⟩ := id h
  exact ⟨⟨A, c, rfl, h⟩, hb⟩
theorem add_ok (s : Su) (hs : Sl22 s) (k : ByteArray) (n : Int) (hk : nmK k = true) (hn : 1 ≤ n ∧ n ≤ 1099511627776) (v : Value) (w : World) (hv : SuV w v s) :
    Calls Try.prog 19 #[v, .string k, .int .i64 n] w fun e w' => (∃ u, e = .returned (.tuple #[u, .int .i64 0]) ∧ SuV w' u (adS s k n)) ∧ Below w.heap.size w w' := by
  have := add_any v s k n (by have := nm_size hk; omega) (by have := hs.size; omega) hs.fit hs.sd hs.nb w hv
  have e : adR s k n = (adS s k n, 0) := by
    unfold adR
    have := hs.to
    rw [if_neg (by rw [hk]; decide), if_neg (by omega), if_neg (by omega)]
  rw [e] at this
  exact this
end Go.Proofs.Ytnpjakgdfjaglaa
