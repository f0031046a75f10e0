/- What every text of this seat stands on: the kit's walks; numbers that are answered. -/
import Derived.Test.YtloebnlmeplgbaaRows
import Derived.WalkKit
import Derived.WalkSpells
import Derived.Outline
import Derived.RegionTactic
import Derived.Deep.QuietTactic
import Derived.Deep.RegionWith
import Derived.BigQuiet
import Derived.BigRegion
import Derived.WalkSmall
namespace Go.Proofs.Ytloebnlmeplgbaa
open Go.RowKit
namespace Rm
abbrev Mx := Nat → Nat → Int
end Rm
theorem ret_int {a b : Int} (h : a = b) : Ending.returned (.int .i64 a) = .returned (.int .i64 b) := by rw [h]
theorem ret_bool {a b : Bool} (h : a = b) : Ending.returned (.bool a) = .returned (.bool b) := by rw [h]
end Go.Proofs.Ytloebnlmeplgbaa
