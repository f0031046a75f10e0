/- The order of all floats: contracts of the specification's and the program's comparison. -/
import Derived.Test.YtndfncjoknibaaaDoorNext
namespace Go.Proofs.YtndfncjoknibaaaDoor
open Go.RowKit Fl
theorem ret_i64 {a b : Int} (h : a = b) : Ending.returned (.int .i64 a) = .returned (.int .i64 b) := by rw [h]
end Go.Proofs.YtndfncjoknibaaaDoor
