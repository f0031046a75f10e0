/- Sums of lists of floats, one by one: contracts of the specification's and the program's. -/
import Derived.Test.YtgidoceflkdklaaEqs
import Derived.Handy
namespace Go.Proofs.Ytgidoceflkdklaa
open Go.RowKit Fl
/-- The sum of the first k floats f, all NaNs being one. -/
def fsumC (f : Nat → Nat) : Nat → Option Nat
  | 0 => cl 0
  | k + 1 => opC .add (fsumC f k) (cl (f k))
end Go.Proofs.Ytgidoceflkdklaa
