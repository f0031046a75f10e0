/- How a fraction that came in is opened; the laws' own conversion. -/
import Derived.Test.YtdmjfphmgpkfcaaRows
import Derived.Test.YtdmjfphmgpkfcaaIfaults
import Derived.WalkKit
import Derived.ProofKit
import Derived.OpenShut
import Derived.ShutString
import Derived.ChangeOld
import Derived.Below
import Derived.Lib.SmallJoins
namespace Go.Proofs.Ytdmjfphmgpkfcaa
open Go.ChangeShapes Go.WideShapes Go.ChangeAt Go.RowKit Go.Joins

theorem own : ownKnob Try.prog.godebug = none := by kernel_rfl
theorem laidOut : laidOutB Try.prog = true := by kernel_rfl
end Go.Proofs.Ytdmjfphmgpkfcaa
