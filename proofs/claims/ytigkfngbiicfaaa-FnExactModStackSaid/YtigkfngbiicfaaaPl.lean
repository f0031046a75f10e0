/- Plates over residues are compared. -/
import Derived.Test.YtigkfngbiicfaaaMf
namespace Go.Proofs.Ytigkfngbiicfaaa
open Go.RowKit
set_option linter.unusedVariables false
set_option maxHeartbeats 1000000 in
theorem eqPlate_same (a b c d : Int) (w : World) : Calls Try.prog 26 #[.agg #[.int .i64 a, .int .i64 b, .int .i64 c, .int .i64 d], .agg #[.int .i64 a, .int .i64 b, .int .i64 c, .int .i64 d]] w fun e w' => e = .returned (.bool true) ∧ Below w.heap.size w w' := by
  go_enter Try.func26, Try.ntmps26
  go_wp2
  go_ret
  refine ⟨rfl, ?_⟩
  go_grown
theorem film_form (x ph : Int) : ∃ a b c d, Wv.film x ph = #[.int .i64 a, .int .i64 b, .int .i64 c, .int .i64 d] := by
  unfold Wv.film
  split
  · exact ⟨_, _, _, _, rfl⟩
  · exact ⟨_, _, _, _, rfl⟩
end Go.Proofs.Ytigkfngbiicfaaa
