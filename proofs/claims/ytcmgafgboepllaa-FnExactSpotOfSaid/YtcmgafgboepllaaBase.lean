/- The library's two functions between floats and their bits, and the program's and the specification's tests for NaN. -/
import Derived.Test.YtcmgafgboepllaaFl
import Derived.Test.YtcmgafgboepllaaRows
import Derived.WalkKit
import Derived.WalkSpells
import Derived.WalkLawsBesides
import Derived.Outline
import Derived.RegionTactic
import Derived.Deep.QuietTactic
import Derived.Deep.RegionWith
import Derived.BigQuiet
import Derived.BigRegion
import Derived.WalkSmall
import Derived.Laws.Externs
namespace Go.Proofs.Ytcmgafgboepllaa
open Go.RowKit Fl
theorem bits52 (b : Nat) (w : World) : (callFunc 108 #[.float .f64 b]).run Try.prog w = .ok (.value (.int .u64 b)) w := by
  rw [run_callFunc_extern Try.func108 (by kernel_rfl) (by kernel_rfl) (by kernel_rfl) (e := Extern.MathFloatBits.float64bits) (by kernel_rfl)]
  rfl
theorem bits50 (n : Nat) (w : World) : (callFunc 107 #[.int .u64 n]).run Try.prog w = .ok (.value (.float .f64 n)) w := by
  rw [run_callFunc_extern Try.func107 (by kernel_rfl) (by kernel_rfl) (by kernel_rfl) (e := Extern.MathFloatBits.float64frombits) (by kernel_rfl)]
  rfl
theorem isNaN_any {b : Nat} (hb : b < 18446744073709551616) (w : World) : Calls Try.prog 109 #[.float .f64 b] w fun e w' => e = .returned (.bool (decide (¬ Num b))) ∧ w = w' := by
  rw [← ne_self hb]
  go_enter Try.func109, Try.ntmps109
  go_wp2
  go_ret
  exact ⟨rfl, rfl⟩
theorem l3NaN_any {b : Nat} (hb : b < 18446744073709551616) (w : World) : Calls Try.prog 83 #[.float .f64 b] w fun e w' => e = .returned (.bool (decide (¬ Num b))) ∧ w = w' := by
  rw [← ne_self hb]
  go_enter Try.func83, Try.ntmps83
  go_wp2
  go_ret
  exact ⟨rfl, rfl⟩
theorem iBits_any {b : Nat} (hb : b < 18446744073709551616) (w : World) : Calls Try.prog 106 #[.float .f64 b] w fun e w' => e = .returned (.int .u64 (fb b)) ∧ w = w' := by
  have h52 := bits52 b
  by_cases h : Num b
  · have e : fb b = b := by unfold fb; rw [if_pos h]
    rw [e]
    go_enter Try.func106, Try.ntmps106
    go_wp2_with fail
    refine (isNaN_any hb _).mono ?_
    rintro e w1 ⟨rfl, rfl⟩
    rw [decide_eq_false (by simpa using h)]
    go_wp2
    go_ret
    exact ⟨rfl, rfl⟩
  · have e : fb b = 9221120237041090560 := by unfold fb; rw [if_neg h]
    rw [e]
    go_enter Try.func106, Try.ntmps106
    go_wp2_with fail
    refine (isNaN_any hb _).mono ?_
    rintro e w1 ⟨rfl, rfl⟩
    rw [decide_eq_true h]
    go_wp2
    go_ret
    exact ⟨rfl, rfl⟩
end Go.Proofs.Ytcmgafgboepllaa
