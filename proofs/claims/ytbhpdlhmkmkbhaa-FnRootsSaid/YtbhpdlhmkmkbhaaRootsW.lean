/- The law on roots, behind its bound: it says yes at every float that is drawn. -/
import Derived.Test.YtbhpdlhmkmkbhaaLwat
import Derived.Test.YtbhpdlhmkmkbhaaFlSquare
namespace Go.Proofs.Ytbhpdlhmkmkbhaa
open Go.RowKit Fl
set_option linter.unusedVariables false
theorem one_F : F false 1 0 = 4607182418800017408 := by decide
theorem one_root : Ieee.double.sqrt 4607182418800017408 = some 4607182418800017408 := by
  have h := sqrt_square (k := 1) (by omega) (by omega)
  rw [show 1 * 1 = 1 from rfl, one_F] at h
  exact h
theorem one_self : FloatKind.f64.format.order 4607182418800017408 4607182418800017408 = some .eq := by decide
theorem mul_is {x y s : Nat} (h : Ieee.double.mul x y = some s) : ∀ (t : TypeId) (w : World), (binOp .mul t (.float .f64 x) (.float .f64 y)).run Try.prog w = .ok (.float .f64 s) w := fun t w => run_float_arith w .mul t .f64 _ _ _ h
theorem f_lt (k : Nat) (p : Int) : F false k p < 18446744073709551616 := Ieee.double.nearest_lt false k p
theorem f_num {k : Nat} (h : k < 9007199254740992) : Num (F false k 0) := by
  obtain ⟨r, r1, r2, _⟩ := rep_word (rep_int h) false
  rw [r2, dW_false]
  unfold Num
  omega
/-- x is no number from 0 on. -/
theorem bad_nan {x : Nat} (hx : x < 18446744073709551616) (n : ¬ Num x) : FloatKind.f64.format.order x 0 = none ∧ FloatKind.f64.format.order x x = none ∧ Ieee.double.sqrt x = none := ⟨order_nan' 0 hx n, order_nan' x hx n, sqrt_nan hx n⟩
theorem nan_nan (w : World) (x y : Nat) : FloatKind.f64.format.order (nanAt w x y) (nanAt w x y) = none := order_nan' _ (nanAt_lt _ _ _) (nanAt_nan _ _ _)
theorem root_some {x : Nat} (h0 : 0 < x) (hr : x < 9218868437227405312) : ∃ r, Ieee.double.sqrt x = some r := by
  obtain ⟨m1, R, e1, _, _, _, _, _, _, _, _, a9⟩ := root_form h0 hr
  exact ⟨_, a9⟩
/-- The next float's root is not below. -/
theorem next_root {x r : Nat} (h0 : 0 < x) (hr : x < 9218868437227405312) (h : Ieee.double.sqrt x = some r) : ∃ y, Ieee.double.sqrt (x + 1) = some y ∧ (FloatKind.f64.format.order y r = some .gt ∨ FloatKind.f64.format.order y r = some .eq) := by
  by_cases hi : x + 1 = 9218868437227405312
  · rw [hi]
    refine ⟨_, sqrt_inf, Or.inl ?_⟩
    obtain ⟨r1, r2⟩ := root_pos h0 hr h
    refine order_of_gt (by omega) (by omega) (by decide) (by unfold Num; omega) ?_
    have h1 := vv_lt.2 r2
    rw [show sg 9218868437227405312 = false by decide, show rg 9218868437227405312 = 9218868437227405312 by decide, show sg r = false by simp [sg]; omega, show rg r = r by simp only [rg]; omega]
    simp only [sv]
    simp
    exact h1
  · obtain ⟨y, hy⟩ := root_some (x := x + 1) (by omega) (by omega)
    exact ⟨y, hy, root_mono h0 (by omega) (by omega) h hy⟩
theorem next_is {x : Nat} (h0 : 0 < x) (hr : x < 9218868437227405312) (w : World) : Calls Try.prog 22 #[.float .f64 x] w fun e w' => e = .returned (.float .f64 (x + 1)) ∧ w = w' := by
  refine (iNext_any (x := x) (by omega) w).mono ?_
  rintro e w' ⟨v, rfl, hv, hc, rfl⟩
  have n1 : Num x := by unfold Num; omega
  have hn : nx x = x + 1 := by
    unfold nx
    rw [if_neg (by simp only [rg]; omega), if_neg (by simp [sg]; omega)]
  have n2 : Num (x + 1) := by unfold Num; omega
  have : cl v = cl (x + 1) := by
    rw [hc, cl_num n2]
    unfold nextC
    rw [if_pos n1, if_neg (by omega), hn]
  rw [cl_same n2 this.symm]
  exact ⟨rfl, rfl⟩
end Go.Proofs.Ytbhpdlhmkmkbhaa
