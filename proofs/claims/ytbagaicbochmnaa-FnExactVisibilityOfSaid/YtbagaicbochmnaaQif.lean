/- The program's FracFault: the same number. -/
import Derived.Test.YtbagaicbochmnaaQfault
import Derived.Test.YtbagaicbochmnaaQstil
namespace Go.Proofs.Ytbagaicbochmnaa
open Go.RowKit
theorem st25 : Try.prog.stoodInHeld 61 = false := by kernel_rfl
end Go.Proofs.Ytbagaicbochmnaa
