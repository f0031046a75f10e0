/- The library's two functions between floats and their bits, and the program's and the specification's tests for NaN. -/
import Derived.Test.YtbagaicbochmnaaFl
import Derived.Test.YtbagaicbochmnaaRows
import Derived.WalkKit
import Derived.WalkSpells
import Derived.WalkLawsBesides
import Derived.Outline
import Derived.RegionTactic
import Derived.Deep.QuietTactic
import Derived.Deep.RegionWith
import Derived.BigQuiet
import Derived.BigRegion
import Derived.WalkSmall
import Derived.Laws.Externs
namespace Go.Proofs.Ytbagaicbochmnaa
open Go.RowKit Fl
theorem l3NaN_any {b : Nat} (hb : b < 18446744073709551616) (w : World) : Calls Try.prog 103 #[.float .f64 b] w fun e w' => e = .returned (.bool (decide (¬ Num b))) ∧ w = w' := by
  rw [← ne_self hb]
  go_enter Try.func103, Try.ntmps103
  go_wp2
  go_ret
  exact ⟨rfl, rfl⟩
end Go.Proofs.Ytbagaicbochmnaa
