/- Fractions, as pairs of whole numbers: the laws' own copies and comparisons. -/
import Derived.Test.YtbcidfmfkmeinaaOp
import Derived.Test.YtbcidfmfkmeinaaRh
namespace Go.Proofs.Ytbcidfmfkmeinaa
open Go.RowKit
set_option linter.unusedVariables false
/-- A fraction as it lies. -/
structure Q where
  n : Int
  d : Int
end Go.Proofs.Ytbcidfmfkmeinaa
