/- The library's two functions between floats and their bits, and the program's and the specification's tests for NaN. -/
import Derived.Test.YtbhpdlhmkmkbhaaFl
import Derived.Test.YtbhpdlhmkmkbhaaRows
import Derived.WalkKit
import Derived.WalkSpells
import Derived.WalkLawsBesides
import Derived.Outline
import Derived.RegionTactic
import Derived.Deep.QuietTactic
import Derived.Deep.RegionWith
import Derived.BigQuiet
import Derived.BigRegion
import Derived.WalkSmall
import Derived.Laws.Externs
namespace Go.Proofs.Ytbhpdlhmkmkbhaa
open Go.RowKit Fl
theorem bits52 (b : Nat) (w : World) : (callFunc 52 #[.float .f64 b]).run Try.prog w = .ok (.value (.int .u64 b)) w := by
  rw [run_callFunc_extern Try.func52 (by kernel_rfl) (by kernel_rfl) (by kernel_rfl) (e := Extern.MathFloatBits.float64bits) (by kernel_rfl)]
  rfl
theorem bits50 (n : Nat) (w : World) : (callFunc 50 #[.int .u64 n]).run Try.prog w = .ok (.value (.float .f64 n)) w := by
  rw [run_callFunc_extern Try.func50 (by kernel_rfl) (by kernel_rfl) (by kernel_rfl) (e := Extern.MathFloatBits.float64frombits) (by kernel_rfl)]
  rfl
theorem isNaN_any {b : Nat} (hb : b < 18446744073709551616) (w : World) : Calls Try.prog 51 #[.float .f64 b] w fun e w' => e = .returned (.bool (decide (¬ Num b))) ∧ w = w' := by
  rw [← ne_self hb]
  go_enter Try.func51, Try.ntmps51
  go_wp2
  go_ret
  exact ⟨rfl, rfl⟩
theorem l3NaN_any {b : Nat} (hb : b < 18446744073709551616) (w : World) : Calls Try.prog 58 #[.float .f64 b] w fun e w' => e = .returned (.bool (decide (¬ Num b))) ∧ w = w' := by
  rw [← ne_self hb]
  go_enter Try.func58, Try.ntmps58
  go_wp2
  go_ret
  exact ⟨rfl, rfl⟩
theorem iBits_any {b : Nat} (hb : b < 18446744073709551616) (w : World) : Calls Try.prog 19 #[.float .f64 b] w fun e w' => e = .returned (.int .u64 (fb b)) ∧ w = w' := by
  have h52 := bits52 b
  by_cases h : Num b
  · have e : fb b = b := by unfold fb; rw [if_pos h]
    rw [e]
    go_enter Try.func19, Try.ntmps19
    go_wp2_with fail
    refine (isNaN_any hb _).mono ?_
    rintro e w1 ⟨rfl, rfl⟩
    rw [decide_eq_false (by simpa using h)]
    go_wp2
    go_ret
    exact ⟨rfl, rfl⟩
  · have e : fb b = 9221120237041090560 := by unfold fb; rw [if_neg h]
    rw [e]
    go_enter Try.func19, Try.ntmps19
    go_wp2_with fail
    refine (isNaN_any hb _).mono ?_
    rintro e w1 ⟨rfl, rfl⟩
    rw [decide_eq_true h]
    go_wp2
    go_ret
    exact ⟨rfl, rfl⟩
theorem iOf_any {b : Nat} (hb : b < 18446744073709551616) (w : World) : Calls Try.prog 18 #[.int .u64 b] w fun e w' => e = .returned (.float .f64 (fb b)) ∧ w = w' := by
  have h50 := bits50 b
  have h50' : ∀ w, (callFunc 50 #[.int .u64 9221120237041090560]).run Try.prog w = .ok (.value (.float .f64 9221120237041090560)) w := bits50 9221120237041090560
  by_cases h : Num b
  · have e : fb b = b := by unfold fb; rw [if_pos h]
    rw [e]
    go_enter Try.func18, Try.ntmps18
    go_wp2_with fail
    refine (isNaN_any hb _).mono ?_
    rintro e w1 ⟨rfl, rfl⟩
    rw [decide_eq_false (by simpa using h)]
    go_wp2
    go_ret
    exact ⟨rfl, rfl⟩
  · have e : fb b = 9221120237041090560 := by unfold fb; rw [if_neg h]
    rw [e]
    go_enter Try.func18, Try.ntmps18
    go_wp2_with fail
    refine (isNaN_any hb _).mono ?_
    rintro e w1 ⟨rfl, rfl⟩
    rw [decide_eq_true h]
    go_wp2
    go_ret
    exact ⟨rfl, rfl⟩
end Go.Proofs.Ytbhpdlhmkmkbhaa
