/- The laws' own count of a list of complex numbers. -/
import Derived.Test.YtgidoceflkdklaaZn
namespace Go.Proofs.Ytgidoceflkdklaa
open Go.RowKit Fl
theorem sz28_any (ao : Option Addr) (n cap : Nat) (w : World) (hn : n ≤ 9223372036854775807) : Calls Try.prog 19 #[.slice ao n cap, .int .i64 1048576] w fun e w' => e = .returned (.int .i64 (if 1048576 < n then -1 else 1048576 - n)) ∧ w = w' := by
  by_cases h : 1048576 < n
  · rw [if_pos h]
    go_enter Try.func19, Try.ntmps19
    go_wp2
    go_ret
    exact ⟨rfl, rfl⟩
  · rw [if_neg h]
    go_enter Try.func19, Try.ntmps19
    go_wp2
    go_ret
    exact ⟨rfl, rfl⟩
end Go.Proofs.Ytgidoceflkdklaa
