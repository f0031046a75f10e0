/- The specification's sizes, signs, ones and infinite floats: contracts. -/
import Derived.Test.YtbcidfmfkmeinaaZn
namespace Go.Proofs.Ytbcidfmfkmeinaa
open Go.RowKit Fl
set_option linter.unusedVariables false
abbrev Tells (f : FuncId) (x y : Nat) : Prop := ∀ w, Calls Try.prog f #[.float .f64 x] w fun e w' => e = .returned (.float .f64 y) ∧ w = w'
theorem order_nan0 {x : Nat} (hx : W64 x) (n : ¬ Num x) (y : Nat) : FloatKind.f64.format.order x y = none := order_nan_l y hx n
theorem neg_nan {x : Nat} (hx : W64 x) (n : ¬ Num x) : Says 38 x false := fun w => by
  have h1 := order_nan0 hx n 0
  clear n
  go_enter Try.func38, Try.ntmps38
  go_wp2
  go_ret
  exact ⟨rfl, rfl⟩
theorem abs_t {x : Nat} (H : Says 38 x true) {y : Nat} (hn : Op.negFloat .f64 x = y) : Tells 27 x y := fun w => by
  have hneg := neg_run x
  rw [hn] at hneg
  clear hn
  go_enter Try.func27, Try.ntmps27
  go_wp2_with fail
  refine (H _).mono ?_
  rintro e w1 ⟨rfl, rfl⟩
  go_wp2
  go_ret
  exact ⟨rfl, rfl⟩
theorem abs_f {x : Nat} (H : Says 38 x false) : Tells 27 x x := fun w => by
  go_enter Try.func27, Try.ntmps27
  go_wp2_with fail
  refine (H _).mono ?_
  rintro e w1 ⟨rfl, rfl⟩
  go_wp2
  go_ret
  exact ⟨rfl, rfl⟩
theorem rg_pos {x : Nat} (hx : W64 x) (h : sg x = false) : rg x = x := by
  simp only [sg, decide_eq_false_iff_not] at h
  simp only [rg]
  omega
theorem abs_any {x : Nat} (hx : W64 x) (n : Num x) : Tells 27 x (rg x) := by
  cases h : sg x with
  | true => exact abs_t (neg_s hx n h) (neg_dW hx h)
  | false => rw [rg_pos hx h]; exact abs_f (neg_s hx n h)
theorem abs_nan {x : Nat} (hx : W64 x) (n : ¬ Num x) : Tells 27 x x := abs_f (neg_nan hx n)
abbrev Tells2 (f : FuncId) (s x y : Nat) : Prop := ∀ w, Calls Try.prog f #[.float .f64 s, .float .f64 x] w fun e w' => e = .returned (.float .f64 y) ∧ w = w'
theorem nan_any (w : World) : Calls Try.prog 40 #[.int .u64 9221120237041090560] w fun e w' => ∃ x q, e = .returned (.float .f64 x) ∧ Fc x none ∧ w' = w.drewN q := by
  refine (sOf_any (b := 9221120237041090560) (by omega) w).mono ?_
  rintro e w' ⟨x, q, rfl, hx, hc, rfl⟩
  exact ⟨x, q, rfl, ⟨hx, by rw [hc]; exact cl_nan (by decide)⟩, rfl⟩
end Go.Proofs.Ytbcidfmfkmeinaa
