/- Where a ray meets a face: the program. -/
import Derived.Test.YtbcidfmfkmeinaaMt
import Derived.Test.YtbcidfmfkmeinaaMf
namespace Go.Proofs.Ytbcidfmfkmeinaa
open Go.RowKit Fl
set_option linter.unusedVariables false
set_option linter.unusedSimpArgs false
theorem iMeet_any {g a : Nat → Nat} {G A : Nat → Option Nat} (hg : Gc g G) (ha : Rc a A) (w : World) : MV 17 #[Gv g, Rv a] w (meetC G A) := by
  cases h : isPl (G 0) (G 1) with
  | true => exact iMeet_true hg ha h w
  | false => exact iMeet_false hg ha h w
end Go.Proofs.Ytbcidfmfkmeinaa
