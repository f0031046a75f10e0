/- A part's system by its interface: which function is called. -/
import Derived.Test.YtdmjfphmgpkfcaaMo
import Derived.Test.YtdmjfphmgpkfcaaIm
namespace Go.Proofs.Ytdmjfphmgpkfcaa
open Go.RowKit
set_option linter.unusedVariables false
theorem follow_nil (t : TypeId) (x : Place) (w : World) : (follow [] t x).run Try.prog w = .ok (t, x) w := by unfold follow; rfl
end Go.Proofs.Ytdmjfphmgpkfcaa
