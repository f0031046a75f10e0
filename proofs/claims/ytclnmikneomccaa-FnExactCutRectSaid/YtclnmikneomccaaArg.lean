/- How slices of numbers and slices of slices that come in are opened. -/
import Derived.Test.YtclnmikneomccaaOpen
import Derived.Test.YtclnmikneomccaaToss
import Derived.Deep.Matrix
namespace Go.Proofs.Ytclnmikneomccaa
open Go.ChangeShapes Go.WideShapes Go.ChangeAt Go.RowKit Go.Joins Go.Deep
theorem cells38 : Try.prog.cellsOf 29 = 1 := by kernel_rfl
theorem cells2 : Try.prog.cellsOf 2 = 1 := by kernel_rfl
theorem maxLen_eq : maxLen = 9223372036854775807 := rfl
end Go.Proofs.Ytclnmikneomccaa
