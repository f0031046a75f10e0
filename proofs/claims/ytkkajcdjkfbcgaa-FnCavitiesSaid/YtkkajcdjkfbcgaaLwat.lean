/- The law's own choice out of bytes, its bound, its comparison of floats: contracts. -/
import Derived.Test.YtkkajcdjkfbcgaaDraws
namespace Go.Proofs.Ytkkajcdjkfbcgaa
open Go.RowKit
set_option linter.unusedVariables false
theorem big_any (ao : Option Addr) (n cap : Nat) (w : World) : Calls Try.prog 13 #[.slice ao n cap] w fun e w' => e = .returned (.bool (decide ((1048576 : Int) < (n : Int)))) ∧ w = w' := by
  go_enter Try.func13, Try.ntmps13
  go_wp2
  go_ret
  exact ⟨rfl, rfl⟩
end Go.Proofs.Ytkkajcdjkfbcgaa
