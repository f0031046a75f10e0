/- How slices of numbers and slices of slices that come in are opened. -/
import Derived.Test.YtpkbpikdffbadaaDoorOpen
import Derived.Test.YtpkbpikdffbadaaDoorToss
import Derived.Deep.Matrix
namespace Go.Proofs.YtpkbpikdffbadaaDoor
open Go.ChangeShapes Go.WideShapes Go.ChangeAt Go.RowKit Go.Joins Go.Deep
theorem cells38 : Tryd.prog.cellsOf 22 = 1 := by kernel_rfl
theorem cells2 : Tryd.prog.cellsOf 2 = 1 := by kernel_rfl
theorem maxLen_eq : maxLen = 9223372036854775807 := rfl
end Go.Proofs.YtpkbpikdffbadaaDoor
