/- The specification's sizes, signs, ones and infinite floats: contracts. -/
import Derived.Test.YtnpcldgacdgplaaZn
namespace Go.Proofs.Ytnpcldgacdgplaa
open Go.RowKit Fl
set_option linter.unusedVariables false
abbrev Tells (f : FuncId) (x y : Nat) : Prop := ∀ w, Calls Try.prog f #[.float .f64 x] w fun e w' => e = .returned (.float .f64 y) ∧ w = w'
theorem order_nan0 {x : Nat} (hx : W64 x) (n : ¬ Num x) (y : Nat) : FloatKind.f64.format.order x y = none := order_nan_l y hx n
theorem neg_nan {x : Nat} (hx : W64 x) (n : ¬ Num x) : Says 103 x false := fun w => by
  have h1 := order_nan0 hx n 0
  clear n
  go_enter Try.func103, Try.ntmps103
  go_wp2
  go_ret
  exact ⟨rfl, rfl⟩
theorem abs_t {x : Nat} (H : Says 103 x true) {y : Nat} (hn : Op.negFloat .f64 x = y) : Tells 83 x y := fun w => by
  have hneg := neg_run x
  rw [hn] at hneg
  clear hn
  go_enter Try.func83, Try.ntmps83
  go_wp2_with fail
  refine (H _).mono ?_
  rintro e w1 ⟨rfl, rfl⟩
  go_wp2
  go_ret
  exact ⟨rfl, rfl⟩
theorem abs_f {x : Nat} (H : Says 103 x false) : Tells 83 x x := fun w => by
  go_enter Try.func83, Try.ntmps83
  go_wp2_with fail
  refine (H _).mono ?_
  rintro e w1 ⟨rfl, rfl⟩
  go_wp2
  go_ret
  exact ⟨rfl, rfl⟩
theorem rg_pos {x : Nat} (hx : W64 x) (h : sg x = false) : rg x = x := by
  simp only [sg, decide_eq_false_iff_not] at h
  simp only [rg]
  omega
theorem abs_any {x : Nat} (hx : W64 x) (n : Num x) : Tells 83 x (rg x) := by
  cases h : sg x with
  | true => exact abs_t (neg_s hx n h) (neg_dW hx h)
  | false => rw [rg_pos hx h]; exact abs_f (neg_s hx n h)
theorem abs_nan {x : Nat} (hx : W64 x) (n : ¬ Num x) : Tells 83 x x := abs_f (neg_nan hx n)
abbrev Tells2 (f : FuncId) (s x y : Nat) : Prop := ∀ w, Calls Try.prog f #[.float .f64 s, .float .f64 x] w fun e w' => e = .returned (.float .f64 y) ∧ w = w'
theorem sign_t {s x : Nat} (H : Says 103 x true) {y : Nat} (hn : Op.negFloat .f64 s = y) : Tells2 85 s x y := fun w => by
  have hneg := neg_run s
  rw [hn] at hneg
  clear hn
  go_enter Try.func85, Try.ntmps85
  go_wp2_with fail
  refine (H _).mono ?_
  rintro e w1 ⟨rfl, rfl⟩
  go_wp2
  go_ret
  exact ⟨rfl, rfl⟩
theorem sign_f {s x : Nat} (H : Says 103 x false) : Tells2 85 s x s := fun w => by
  go_enter Try.func85, Try.ntmps85
  go_wp2_with fail
  refine (H _).mono ?_
  rintro e w1 ⟨rfl, rfl⟩
  go_wp2
  go_ret
  exact ⟨rfl, rfl⟩
theorem sign_any {s x : Nat} (hs : s < 9223372036854775808) (hx : W64 x) (n : Num x) : Tells2 85 s x (dW (sg x) s) := by
  cases h : sg x with
  | true => exact sign_t (neg_s hx n h) (by have := neg_false hs; rw [dW_false] at this; exact this)
  | false => rw [dW_false]; exact sign_f (neg_s hx n h)
theorem one_t {x : Nat} (H : Says 86 x true) {y : Nat} (K : Tells2 85 4607182418800017408 x y) : Tells 88 x y := fun w => by
  go_enter Try.func88, Try.ntmps88
  go_wp2_with fail
  refine (H _).mono ?_
  rintro e w1 ⟨rfl, rfl⟩
  go_wp2_with fail
  refine (K _).mono ?_
  rintro e w1 ⟨rfl, rfl⟩
  go_wp2
  go_ret
  exact ⟨rfl, rfl⟩
theorem one_f {x : Nat} (H : Says 86 x false) {y : Nat} (K : Tells2 85 0 x y) : Tells 88 x y := fun w => by
  go_enter Try.func88, Try.ntmps88
  go_wp2_with fail
  refine (H _).mono ?_
  rintro e w1 ⟨rfl, rfl⟩
  go_wp2_with fail
  refine (K _).mono ?_
  rintro e w1 ⟨rfl, rfl⟩
  go_wp2
  go_ret
  exact ⟨rfl, rfl⟩
theorem one_any {x : Nat} (hx : W64 x) (n : Num x) : Tells 88 x (oneOf x) := by
  unfold oneOf
  by_cases h : rg x = 9218868437227405312
  · rw [if_pos h]; exact one_t (isInf_s hx n (decide_eq_true h)) (sign_any (by omega) hx n)
  · rw [if_neg h]; exact one_f (isInf_s hx n (decide_eq_false h)) (sign_any (by omega) hx n)
theorem fin_b {x : Nat} (N : Says 81 x false) {b : Bool} (H : Says 86 x b) : Says 87 x (!b) := fun w => by
  go_enter Try.func87, Try.ntmps87
  go_wp2_with fail
  refine (N _).mono ?_
  rintro e w1 ⟨rfl, rfl⟩
  go_wp2_with fail
  refine (H _).mono ?_
  rintro e w1 ⟨rfl, rfl⟩
  go_wp2
  go_ret
  exact ⟨rfl, rfl⟩
theorem fin_any {x : Nat} (hx : W64 x) (n : Num x) {b : Bool} (h : decide (rg x ≠ 9218868437227405312) = b) : Says 87 x b := by
  have := fin_b (nan_f hx n) (isInf_s hx n rfl)
  rw [← h]
  rw [show decide (rg x ≠ 9218868437227405312) = !decide (rg x = 9218868437227405312) by by_cases e : rg x = 9218868437227405312 <;> simp [e]]
  exact this
theorem inf_any (w : World) : Calls Try.prog 84 #[] w fun e w' => e = .returned (.float .f64 9218868437227405312) ∧ ∃ q, w' = w.drewN q := by
  have HO : Hid (∀ w, Calls Try.prog 82 #[.int .u64 9218868437227405312] w fun e w' => e = .returned (.float .f64 9218868437227405312) ∧ ∃ q, w' = w.drewN q) := fun w => by
    refine (sOf_any (b := 9218868437227405312) (by omega) w).mono ?_
    rintro e w' ⟨x, q, rfl, hx, hc, rfl⟩
    have : 9218868437227405312 = x := cl_same (by decide) hc.symm
    subst this
    exact ⟨rfl, q, rfl⟩
  go_enter Try.func84, Try.ntmps84
  go_wp2_with fail
  refine (HO.out _).mono ?_
  rintro e w1 ⟨rfl, q, rfl⟩
  go_wp2
  go_ret
  exact ⟨rfl, q, rfl⟩
theorem nan_any (w : World) : Calls Try.prog 82 #[.int .u64 9221120237041090560] w fun e w' => ∃ x q, e = .returned (.float .f64 x) ∧ Fc x none ∧ w' = w.drewN q := by
  refine (sOf_any (b := 9221120237041090560) (by omega) w).mono ?_
  rintro e w' ⟨x, q, rfl, hx, hc, rfl⟩
  exact ⟨x, q, rfl, ⟨hx, by rw [hc]; exact cl_nan (by decide)⟩, rfl⟩
end Go.Proofs.Ytnpcldgacdgplaa
