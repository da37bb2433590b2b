/- The reference's take. -/
import Derived.Test.YtjkpjcklfpmcnaaKr
namespace Go.Proofs.Ytjkpjcklfpmcnaa
open Go.ChangeShapes Go.WideShapes Go.ChangeAt Go.RowKit Dp

theorem take_short (s : ByteArray) (n : Nat) (h : s.size < n) (_hn : n ≤ 9223372036854775807) (w : World) :
    Calls Try.prog 61 #[.string s, .int .i64 (n : Int)] w fun e w' => e = .returned (.tuple #[.string ByteArray.empty, .string ByteArray.empty, .bool false]) ∧ ∃ q, w' = w.drewN q := by
  go_enter Try.func61, Try.ntmps61
  go_wp2_with fail
  go_ret3
  exact ⟨rfl, 0, rfl⟩
set_option maxHeartbeats 1000000 in
theorem take_long (s : ByteArray) (n : Nat) (h : n ≤ s.size) (_hs : s.size ≤ 9223372036854775807) (w : World) :
    Calls Try.prog 61 #[.string s, .int .i64 (n : Int)] w fun e w' => e = .returned (.tuple #[.string (s.extract 0 n), .string (s.extract n s.size), .bool true]) ∧ ∃ q, w' = w.drewN q := by
  go_enter Try.func61, Try.ntmps61
  go_wp2_with fail
  go_quiet (fail)
  (refine (by assumption : ∀ _ _, _ → _) _ _ ?_)
  go_wp2_with fail
  go_ret3
  exact ⟨rfl, nq, rfl⟩
end Go.Proofs.Ytjkpjcklfpmcnaa
