/- Answers of two numbers: compared. -/
import Derived.Test.YtelejihgechmgaaNums
namespace Go.Proofs.Ytelejihgechmgaa
open Go.RowKit
set_option maxRecDepth 20000 in
set_option maxHeartbeats 1600000 in
theorem eqMerit_same (c m : Int) (w : World) : Calls Try.prog 24 #[.agg #[.int .i64 c, .int .i64 m], .agg #[.int .i64 c, .int .i64 m]] w fun e w' => e = .returned (.bool true) ∧ Below w.heap.size w w' := by
  go_enter Try.func24, Try.ntmps24
  go_wp2
  go_ret
  exact ⟨rfl, by go_grown⟩
end Go.Proofs.Ytelejihgechmgaa
