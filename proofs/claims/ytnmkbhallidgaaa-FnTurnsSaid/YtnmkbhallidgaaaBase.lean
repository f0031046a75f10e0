/- The library's two functions between floats and their bits, and the program's and the specification's tests for NaN. -/
import Derived.Test.YtnmkbhallidgaaaFl
import Derived.Test.YtnmkbhallidgaaaRows
import Derived.WalkKit
import Derived.WalkSpells
import Derived.WalkLawsBesides
import Derived.Outline
import Derived.RegionTactic
import Derived.Deep.QuietTactic
import Derived.Deep.RegionWith
import Derived.BigQuiet
import Derived.BigRegion
import Derived.WalkSmall
import Derived.Laws.Externs
namespace Go.Proofs.Ytnmkbhallidgaaa
open Go.RowKit Fl
theorem bits52 (b : Nat) (w : World) : (callFunc 94 #[.float .f64 b]).run Try.prog w = .ok (.value (.int .u64 b)) w := by
  rw [run_callFunc_extern Try.func94 (by kernel_rfl) (by kernel_rfl) (by kernel_rfl) (e := Extern.MathFloatBits.float64bits) (by kernel_rfl)]
  rfl
theorem bits50 (n : Nat) (w : World) : (callFunc 90 #[.int .u64 n]).run Try.prog w = .ok (.value (.float .f64 n)) w := by
  rw [run_callFunc_extern Try.func90 (by kernel_rfl) (by kernel_rfl) (by kernel_rfl) (e := Extern.MathFloatBits.float64frombits) (by kernel_rfl)]
  rfl
theorem isNaN_any {b : Nat} (hb : b < 18446744073709551616) (w : World) : Calls Try.prog 72 #[.float .f64 b] w fun e w' => e = .returned (.bool (decide (¬ Num b))) ∧ w = w' := by
  rw [← ne_self hb]
  go_enter Try.func72, Try.ntmps72
  go_wp2
  go_ret
  exact ⟨rfl, rfl⟩
theorem l3NaN_any {b : Nat} (hb : b < 18446744073709551616) (w : World) : Calls Try.prog 64 #[.float .f64 b] w fun e w' => e = .returned (.bool (decide (¬ Num b))) ∧ w = w' := by
  rw [← ne_self hb]
  go_enter Try.func64, Try.ntmps64
  go_wp2
  go_ret
  exact ⟨rfl, rfl⟩
end Go.Proofs.Ytnmkbhallidgaaa
