/- Foci: both ways. -/
import Derived.Test.YtdmjfphmgpkfcaaIp
namespace Go.Proofs.Ytdmjfphmgpkfcaa
open Go.RowKit
set_option linter.unusedVariables false
set_option linter.unusedSimpArgs false
/-- What the foci come to. -/
def mone : Q := ⟨-1, 1⟩
def foK (m : Mx) : Bool := divK mone m.C && divK (nQ m.D) m.C && divK (nQ m.A) m.C
def foC (m : Mx) : Int := if m.ok = true then (if m.C.n = 0 then 4 else if foK m = true then 0 else 3) else 1
theorem mone_ok : mone.ok = true := by decide
theorem mxok {m : Mx} (h : m.ok = true) : m.A.ok = true ∧ m.B.ok = true ∧ m.C.ok = true ∧ m.D.ok = true := by
  simpa [Mx.ok, and_assoc] using h
theorem dK_t (x y : Q) : dK true x y = divK x y := rfl
theorem dQ_t (x y : Q) : dQ true x y = divQ x y := rfl
end Go.Proofs.Ytdmjfphmgpkfcaa
