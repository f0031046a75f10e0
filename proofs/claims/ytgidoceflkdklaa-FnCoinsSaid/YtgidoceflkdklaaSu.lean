/- Sums of lists of complex numbers: contracts of the specification's and the program's. -/
import Derived.Test.YtgidoceflkdklaaTz
import Derived.Test.YtgidoceflkdklaaOwn2
namespace Go.Proofs.Ytgidoceflkdklaa
open Go.RowKit Fl
set_option linter.unusedVariables false
set_option linter.unusedSimpArgs false
/-- The class of the i-th number. -/
def clZ (f : Nat → Nat → Nat) (i : Nat) : Option Nat × Option Nat := (cl (f i 0), cl (f i 1))
def sumL (f : Nat → Nat → Nat) : Nat → Option Nat × Option Nat
  | 0 => (cl 0, cl 0)
  | k + 1 => sumC .add (sumL f k) (clZ f k)
theorem cell_alloc_old' {W : World} {o : Obj} {p : Addr} {v : Value} (h : W.cell? p = some v) : (W.alloc o).cell? p = some v :=
  (((Below.refl W.heap.size W).alloc (Nat.le_refl _) o).cell (World.block_lt_of_cell? _ _ h)).trans h
end Go.Proofs.Ytgidoceflkdklaa
