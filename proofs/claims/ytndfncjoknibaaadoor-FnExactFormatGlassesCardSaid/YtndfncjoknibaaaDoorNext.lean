/- The next float: contracts of the specification's and the program's. -/
import Derived.Test.YtndfncjoknibaaaDoorSame
namespace Go.Proofs.YtndfncjoknibaaaDoor
open Go.RowKit Fl
set_option linter.unusedSimpArgs false
theorem cl_fb (x : Nat) : cl (fb x) = cl x := by
  unfold fb
  by_cases h : Num x
  · rw [if_pos h]
  · rw [if_neg h]
    simp only [cl, h, if_false]
    decide
theorem fb_num {x : Nat} (h : Num x) : fb x = x := by unfold fb; rw [if_pos h]
theorem fb_nan {x : Nat} (h : ¬ Num x) : fb x = 9221120237041090560 := by unfold fb; rw [if_neg h]
theorem cl_num {x : Nat} (h : Num x) : cl x = some x := by simp [cl, h]
theorem cl_nan {x : Nat} (h : ¬ Num x) : cl x = none := by simp [cl, h]
end Go.Proofs.YtndfncjoknibaaaDoor
