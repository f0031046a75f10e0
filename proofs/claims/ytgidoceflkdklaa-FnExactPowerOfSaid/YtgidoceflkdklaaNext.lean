/- The next float: contracts of the specification's and the program's. -/
import Derived.Test.YtgidoceflkdklaaSame
namespace Go.Proofs.Ytgidoceflkdklaa
open Go.RowKit Fl
set_option linter.unusedSimpArgs false
theorem cl_fb (x : Nat) : cl (fb x) = cl x := by
  unfold fb
  by_cases h : Num x
  · rw [if_pos h]
  · rw [if_neg h]
    simp only [cl, h, if_false]
    decide
theorem fb_num {x : Nat} (h : Num x) : fb x = x := by unfold fb; rw [if_pos h]
theorem fb_nan {x : Nat} (h : ¬ Num x) : fb x = 9221120237041090560 := by unfold fb; rw [if_neg h]
/-- The next one, of what is no NaN and not the infinite one above 0. -/
def nx (x : Nat) : Nat := if rg x = 0 then 1 else if sg x then x - 1 else x + 1
def nextC (x : Nat) : Option Nat := if Num x then some (if x = 9218868437227405312 then x else nx x) else none
theorem nx_num {x : Nat} (hx : x < 18446744073709551616) (n : Num x) (h : x ≠ 9218868437227405312) : Num (nx x) ∧ nx x < 18446744073709551616 := by
  unfold nx Num at *
  simp only [rg, sg, decide_eq_true_eq] at *
  split
  · omega
  · split <;> omega
theorem large_gt {x : Nat} (hx : x < 18446744073709551616) (n : Num x) (h : x ≠ 9218868437227405312) : (FloatKind.f64.format.order x 9218868437227405311 == some .gt) = false := by
  rw [beq_order]; exact decide_eq_false (fun k => h ((order_large hx n).1 k))
theorem cl_num {x : Nat} (h : Num x) : cl x = some x := by simp [cl, h]
theorem cl_nan {x : Nat} (h : ¬ Num x) : cl x = none := by simp [cl, h]
end Go.Proofs.Ytgidoceflkdklaa
