/- The library's two functions between floats and their bits, and the program's and the specification's tests for NaN. -/
import Derived.Test.YtndfncjoknibaaaFl
import Derived.Test.YtndfncjoknibaaaRows
import Derived.WalkKit
import Derived.WalkSpells
import Derived.WalkLawsBesides
import Derived.Outline
import Derived.RegionTactic
import Derived.Deep.QuietTactic
import Derived.Deep.RegionWith
import Derived.BigQuiet
import Derived.BigRegion
import Derived.WalkSmall
import Derived.Laws.Externs
namespace Go.Proofs.Ytndfncjoknibaaa
open Go.RowKit Fl
end Go.Proofs.Ytndfncjoknibaaa
