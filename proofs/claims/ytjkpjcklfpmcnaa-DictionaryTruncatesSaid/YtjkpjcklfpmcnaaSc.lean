/- scanParts. -/
import Derived.Test.YtjkpjcklfpmcnaaTk
namespace Go.Proofs.Ytjkpjcklfpmcnaa
open Go.ChangeShapes Go.WideShapes Go.ChangeAt Go.RowKit Dp

theorem results_cell_tmp2 {fn : Func} {p u x : Tmp} {ty : TypeId} (h : fn.results = #[.cell p ty, .tmp u, .tmp x]) (tmps : Array Value) (P : Program) (w : World) :
    (results fn tmps).run P w =
      ((asAddr (tmps.getD p undef)).run P w).andThen fun a w₁ => ((loadVar ty a).run P w₁).andThen fun v w₂ => .ok (.tuple #[v, tmps.getD u undef, tmps.getD x undef]) w₂ := by
  simp only [results, h]
  simp [Sem.run_bind, Result.andThen]
/-- The byte at k. -/
def byt (s : ByteArray) (k : Nat) : Nat := (s.data.toList.getD k 0).toNat
theorem byt_le (s : ByteArray) (k : Nat) : byt s k ≤ 255 := by
  have := (s.data.toList.getD k 0).toNat_lt
  unfold byt; omega
theorem byt_at (s : ByteArray) (k : Nat) (h : k < s.size) : s[k].toNat = byt s k := by
  unfold byt
  rw [List.getD_eq_getElem?_getD, List.getElem?_eq_getElem (by simpa using h)]; rfl
/-- What scanParts returns. -/
def Sp (w w' : World) (e : Ending) (sh : Nat) (o : ByteArray) (n : Nat) (E : Int) : Prop :=
  e = .returned (.tuple #[.agg #[.int .i64 (sh : Int), .string o], .int .i64 (n : Int), .int .i64 E]) ∧ Below w.heap.size w w'
theorem scan_few1 (s : ByteArray) (h : s.size < 1) (w : World) :
    Calls Try.prog 59 #[.string s, .bool true] w fun e w' => Sp w w' e 0 ByteArray.empty 0 4 := by
  go_enter Try.func59, Try.ntmps59
  go_wp2_with fail
  (try simp only [Exit.inBlock, Exit.then])
  refine bodyPost_ret (v := .tuple #[.agg #[.int .i64 0, .string ByteArray.empty], .int .i64 0, .int .i64 4]) ?_ rfl ⟨rfl, ?_⟩
  · rw [results_cell_tmp2 rfl]; go_simp; rfl
  · (repeat' (first | exact Below.refl _ _ | refine Below.drew ?_ | refine Below.alloc ?_ (by simp <;> omega) _))
set_option maxHeartbeats 1000000 in
theorem scan_few2 (s : ByteArray) (h : s.size < 2) (w : World) :
    Calls Try.prog 59 #[.string s, .bool false] w fun e w' => Sp w w' e 0 ByteArray.empty 0 4 := by
  go_enter Try.func59, Try.ntmps59
  go_wp2_with fail
  (try simp only [Exit.inBlock, Exit.then])
  refine bodyPost_ret (v := .tuple #[.agg #[.int .i64 0, .string ByteArray.empty], .int .i64 0, .int .i64 4]) ?_ rfl ⟨rfl, ?_⟩
  · rw [results_cell_tmp2 rfl]; go_simp; rfl
  · (repeat' (first | exact Below.refl _ _ | refine Below.drew ?_ | refine Below.alloc ?_ (by simp <;> omega) _))
set_option maxHeartbeats 1000000 in
theorem scan_short1 (s : ByteArray) (h : 1 ≤ s.size) (hs : s.size ≤ 9223372036854775807) (m : Nat) (hm : s[0].toNat = m) (hm2 : m ≤ 255) (h2 : s.size < 1 + m) (w : World) :
    Calls Try.prog 59 #[.string s, .bool true] w fun e w' => Sp w w' e 0 ByteArray.empty 0 4 := by
  go_enter Try.func59, Try.ntmps59
  go_wp2_with fail
  (try simp only [Exit.inBlock, Exit.then])
  refine bodyPost_ret (v := .tuple #[.agg #[.int .i64 0, .string ByteArray.empty], .int .i64 0, .int .i64 4]) ?_ rfl ⟨rfl, ?_⟩
  · rw [results_cell_tmp2 rfl]; go_simp; rfl
  · (repeat' (first | exact Below.refl _ _ | refine Below.drew ?_ | refine Below.alloc ?_ (by simp <;> omega) _))
set_option maxHeartbeats 1000000 in
theorem scan_short2 (s : ByteArray) (h : 2 ≤ s.size) (hs : s.size ≤ 9223372036854775807) (m : Nat) (hm : s[1].toNat = m) (hm2 : m ≤ 255) (h2 : s.size < 2 + m) (w : World) :
    Calls Try.prog 59 #[.string s, .bool false] w fun e w' => Sp w w' e 0 ByteArray.empty 0 4 := by
  obtain ⟨m0, hm0⟩ : ∃ m0, s[0].toNat = m0 := ⟨_, rfl⟩
  go_enter Try.func59, Try.ntmps59
  go_wp2_with fail
  (try simp only [Exit.inBlock, Exit.then])
  refine bodyPost_ret (v := .tuple #[.agg #[.int .i64 0, .string ByteArray.empty], .int .i64 0, .int .i64 4]) ?_ rfl ⟨rfl, ?_⟩
  · rw [results_cell_tmp2 rfl]; go_simp; rfl
  · (repeat' (first | exact Below.refl _ _ | refine Below.drew ?_ | refine Below.setCell ?_ (by simp <;> omega) _ | refine Below.alloc ?_ (by simp <;> omega) _))
set_option maxHeartbeats 1000000 in
theorem scan_good1 (s : ByteArray) (h : 1 ≤ s.size) (hs : s.size ≤ 9223372036854775807) (m : Nat) (hm : s[0].toNat = m) (hm2 : m ≤ 255) (h2 : 1 + m ≤ s.size) (w : World) :
    Calls Try.prog 59 #[.string s, .bool true] w fun e w' => Sp w w' e 0 (s.extract 1 (1 + m)) (1 + m) 0 := by
  go_enter Try.func59, Try.ntmps59
  go_wp2_with fail
  (try simp only [Exit.inBlock, Exit.then])
  refine bodyPost_ret (v := .tuple #[.agg #[.int .i64 0, .string (s.extract 1 (1 + m))], .int .i64 ((1 + m : Nat) : Int), .int .i64 0]) ?_ rfl ⟨rfl, ?_⟩
  · rw [results_cell_tmp2 rfl]; go_simp
  · (repeat' (first | exact Below.refl _ _ | refine Below.drew ?_ | refine Below.setCell ?_ (by simp <;> omega) _ | refine Below.alloc ?_ (by simp <;> omega) _))
set_option maxHeartbeats 1000000 in
theorem scan_good2 (s : ByteArray) (h : 2 ≤ s.size) (hs : s.size ≤ 9223372036854775807) (m0 m : Nat) (hm0 : s[0].toNat = m0) (hm : s[1].toNat = m) (hm02 : m0 ≤ 255) (hm2 : m ≤ 255) (h2 : 2 + m ≤ s.size) (w : World) :
    Calls Try.prog 59 #[.string s, .bool false] w fun e w' => Sp w w' e m0 (s.extract 2 (2 + m)) (2 + m) 0 := by
  go_enter Try.func59, Try.ntmps59
  go_wp2_with fail
  (try simp only [Exit.inBlock, Exit.then])
  refine bodyPost_ret (v := .tuple #[.agg #[.int .i64 (m0 : Int), .string (s.extract 2 (2 + m))], .int .i64 ((2 + m : Nat) : Int), .int .i64 0]) ?_ rfl ⟨rfl, ?_⟩
  · rw [results_cell_tmp2 rfl]; go_simp
  · (repeat' (first | exact Below.refl _ _ | refine Below.drew ?_ | refine Below.setCell ?_ (by simp <;> omega) _ | refine Below.alloc ?_ (by simp <;> omega) _))
end Go.Proofs.Ytjkpjcklfpmcnaa
