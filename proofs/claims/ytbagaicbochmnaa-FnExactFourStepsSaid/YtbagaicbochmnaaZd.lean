/- The specification's sizes, signs, ones and infinite floats: contracts. -/
import Derived.Test.YtbagaicbochmnaaZn
namespace Go.Proofs.Ytbagaicbochmnaa
open Go.RowKit Fl
set_option linter.unusedVariables false
abbrev Tells (f : FuncId) (x y : Nat) : Prop := ∀ w, Calls Try.prog f #[.float .f64 x] w fun e w' => e = .returned (.float .f64 y) ∧ w = w'
theorem order_nan0 {x : Nat} (hx : W64 x) (n : ¬ Num x) (y : Nat) : FloatKind.f64.format.order x y = none := order_nan_l y hx n
theorem rg_pos {x : Nat} (hx : W64 x) (h : sg x = false) : rg x = x := by
  simp only [sg, decide_eq_false_iff_not] at h
  simp only [rg]
  omega
abbrev Tells2 (f : FuncId) (s x y : Nat) : Prop := ∀ w, Calls Try.prog f #[.float .f64 s, .float .f64 x] w fun e w' => e = .returned (.float .f64 y) ∧ w = w'
theorem nan_any (w : World) : Calls Try.prog 104 #[.int .u64 9221120237041090560] w fun e w' => ∃ x q, e = .returned (.float .f64 x) ∧ Fc x none ∧ w' = w.drewN q := by
  refine (sOf_any (b := 9221120237041090560) (by omega) w).mono ?_
  rintro e w' ⟨x, q, rfl, hx, hc, rfl⟩
  exact ⟨x, q, rfl, ⟨hx, by rw [hc]; exact cl_nan (by decide)⟩, rfl⟩
end Go.Proofs.Ytbagaicbochmnaa
