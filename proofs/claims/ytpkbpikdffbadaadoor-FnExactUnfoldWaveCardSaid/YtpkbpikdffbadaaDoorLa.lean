/- The library's table of trailing zeros, as the rows lay it. -/
import Derived.Test.YtpkbpikdffbadaaDoorArgrow
import Derived.Test.YtpkbpikdffbadaaDoorUp
import Derived.OpenVars
import Derived.Lib.LaidTab
import Derived.LaidMore
import Derived.Stop.Joined
import Derived.Stop.LaidErr
import Derived.SevenTiedAt
import Derived.MakeChecks
namespace Go.Proofs.YtpkbpikdffbadaaDoor
open Go.ChangeShapes Go.WideShapes Go.ChangeAt Go.RowKit Go.Joins
set_option linter.unusedVariables false
def tabZ : List Int := Lib.deBruijn64tab.map Int.ofNat
def laid2 : List (String × DataW Unit) := [("math/bits.deBruijn32tab", Rows.laid_math_bits_deBruijn32tab), ("math/bits.deBruijn64tab", Rows.laid_math_bits_deBruijn64tab)]
theorem tab64_eq : (Rows.laid_math_bits_deBruijn64tab : DataW Unit) = Lib.tabData .u8 tabZ := by kernel_rfl
theorem g64 : Tryd.prog.globalNamed "math/bits.deBruijn64tab" = some 1 := by kernel_rfl
theorem g64Type : (Tryd.prog.globals[1]?).map (·.type) = some 63 := by kernel_rfl
theorem cells5 : Tryd.prog.cellsOf 5 = 1 := by kernel_rfl
theorem cells62 : Tryd.prog.cellsOf 63 = 64 := by kernel_rfl
theorem tabZ_at : ∀ j : Fin 64, tabZ.getD j.val 0 = ((Lib.deBruijn64tab.getD j.val 0 : Nat) : Int) := by decide +kernel
theorem tab_of {W : World} (h : laidMetH Tryd.prog laid2 W) : Tab W := by
  rw [MakeChecks.laidMetH_plain _ _ _ (by kernel_rfl)] at h
  have h0 : laidMet Tryd.prog [("math/bits.deBruijn32tab", Rows.laid_math_bits_deBruijn32tab), ("math/bits.deBruijn64tab", Rows.laid_math_bits_deBruijn64tab)] W := h
  have h1 := h0.tail
  rw [tab64_eq] at h1
  have hT := Lib.tabIs_of_head g64 g64Type Tryd.underlying63 Tryd.underlying5 cells5 cells62 h1
  intro j hj
  have := hT.cell g64 j (by show j < tabZ.length; exact hj)
  rw [tabZ_at ⟨j, hj⟩] at this
  exact this
theorem door_met (os : Os) (args : Array Value) : laidMetH Tryd.prog laid2 ((World.doorLaid Tryd.prog 400 os).forCall (fun _ _ => 0) ⟨#[], args, []⟩).memory :=
  laidMetH_of_parts3 (fuel := 8) (laidMet_of_run' 8 (by kernel_rfl) (by kernel_rfl)) (by kernel_rfl) (by kernel_rfl)
theorem wf_dim {n : Nat} (h : Wv.wf n = 0) : n ≤ 1000000 := by have := Wv.wf_le h; omega
theorem pf_dim {n m : Nat} (h : Wv.pf n m = 0) : n ≤ 1000000 := wf_dim (Wv.pf_ok h).1
end Go.Proofs.YtpkbpikdffbadaaDoor
