/- Determinants and invariants: the specification's way. -/
import Derived.Test.YtdmjfphmgpkfcaaJn
import Derived.Test.YtdmjfphmgpkfcaaPu
namespace Go.Proofs.Ytdmjfphmgpkfcaa
open Go.RowKit
set_option linter.unusedVariables false
set_option linter.unusedSimpArgs false
/-- A ray: height and slope. -/
structure Ry where
  Y : Q
  U : Q
def Ry.ok (r : Ry) : Bool := r.Y.ok && r.U.ok
/-- The code of two products, one less the other: of four fractions. -/
def apC (a b c d : Q) : Int := if (a.ok && b.ok && c.ok && d.ok) = true then tC (apK a b c d) else 1
theorem ap_out {a b c d : Q} (h : (a.ok && b.ok && c.ok && d.ok) = true) : apC a b c d = tC (apK a b c d) := if_pos h
theorem ap_sel (k : Bool) (x : Q) : sel (tC k) x = tQ k x := by cases k <;> rfl
end Go.Proofs.Ytdmjfphmgpkfcaa
