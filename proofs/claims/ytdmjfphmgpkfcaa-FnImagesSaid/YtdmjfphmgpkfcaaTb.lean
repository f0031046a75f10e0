/- A ray behind one part, by the program. -/
import Derived.Test.YtdmjfphmgpkfcaaTm
import Derived.Test.YtdmjfphmgpkfcaaRo
import Derived.Handy
import Derived.Deep.RegionHeld3
import Derived.Deep.DeepCutAuto
import Derived.Deep.RegionLaw
namespace Go.Proofs.Ytdmjfphmgpkfcaa
open Go.RowKit
set_option linter.unusedVariables false
set_option linter.unusedSimpArgs false
theorem Blk.drew {W : World} {b : Nat} {cs : Array Value} {t : TypeId} (h : Blk W b cs t) : Blk W.drew b cs t := h
theorem But.blk {r B : Nat} {X W : World} {b : Nat} {cs : Array Value} {t : TypeId} (h : But r B X W) (k : Blk X b cs t) (hb : b < B) (hr : b ≠ r) : Blk W b cs t := (h.block b hb hr).trans k
end Go.Proofs.Ytdmjfphmgpkfcaa
