/- What every walk here imports. -/
import Derived.Test.YtclnmikneomccaaRows
import Derived.WalkKit
import Derived.WalkSpells
import Derived.Outline
import Derived.RegionTactic
import Derived.Deep.QuietTactic
import Derived.Deep.RegionWith
import Derived.BigQuiet
import Derived.BigRegion
import Derived.WalkSmall
import Derived.Handy
import Derived.Deep.RegionHeld3
namespace Go.Proofs.Ytclnmikneomccaa
open Go.RowKit
theorem ret_int {a b : Int} (h : a = b) : Ending.returned (.int .i64 a) = .returned (.int .i64 b) := by rw [h]
abbrev Rm.Mx := Nat → Nat → Int
end Go.Proofs.Ytclnmikneomccaa
