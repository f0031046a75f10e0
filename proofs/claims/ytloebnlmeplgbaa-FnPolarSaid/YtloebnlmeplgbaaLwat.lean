/- The law's own choice out of bytes, its bound, its comparison of floats: contracts. -/
import Derived.Test.YtloebnlmeplgbaaDraws
namespace Go.Proofs.Ytloebnlmeplgbaa
open Go.RowKit
set_option linter.unusedVariables false
theorem big_any (ao : Option Addr) (n cap : Nat) (w : World) : Calls Try.prog 16 #[.slice ao n cap] w fun e w' => e = .returned (.bool (decide ((1048576 : Int) < (n : Int)))) ∧ w = w' := by
  go_enter Try.func16, Try.ntmps16
  go_wp2
  go_ret
  exact ⟨rfl, rfl⟩
end Go.Proofs.Ytloebnlmeplgbaa
