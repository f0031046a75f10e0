/- Fractions, as pairs of whole numbers: the laws' own copies and comparisons. -/
import Derived.Test.YtjibogknakaokaaOp
import Derived.Test.YtjibogknakaokaaRh
namespace Go.Proofs.Ytjibogknakaokaa
open Go.RowKit
set_option linter.unusedVariables false
/-- A fraction as it lies. -/
structure Q where
  n : Int
  d : Int
set_option maxHeartbeats 1600000 in
theorem toFrac_any (n d : Int) (w : World) : Calls Try.prog 91 #[.agg #[.int .i64 n, .int .i64 d]] w fun e w' => e = .returned (.agg #[.int .i64 n, .int .i64 d]) ∧ Below w.heap.size w w' := by
  go_enter Try.func91, Try.ntmps91
  go_wp2
  refine bodyPost_ret (v := .agg #[.int .i64 n, .int .i64 d]) (by simp [results, Try.results91, go_sem]) rfl ⟨rfl, ?_⟩
  go_grown
set_option maxHeartbeats 1600000 in
theorem eqFrac_same (n d : Int) (w : World) : Calls Try.prog 92 #[.agg #[.int .i64 n, .int .i64 d], .agg #[.int .i64 n, .int .i64 d]] w fun e w' => e = .returned (.bool true) ∧ Below w.heap.size w w' := by
  go_enter Try.func92, Try.ntmps92
  go_wp2
  go_ret
  refine ⟨rfl, ?_⟩
  go_grown
end Go.Proofs.Ytjibogknakaokaa
