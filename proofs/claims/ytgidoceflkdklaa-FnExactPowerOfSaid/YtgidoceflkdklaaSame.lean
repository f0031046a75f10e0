/- The laws' own comparison of two floats: at the same float (all NaNs being one) it says yes. -/
import Derived.Test.YtgidoceflkdklaaFloatOf
namespace Go.Proofs.Ytgidoceflkdklaa
open Go.RowKit Fl
theorem cl_cases {x y : Nat} (h : cl x = cl y) : (¬ Num x ∧ ¬ Num y) ∨ (x = y ∧ Num x) := by
  unfold cl at h
  by_cases nx : Num x <;> by_cases ny : Num y
  · rw [if_pos nx, if_pos ny] at h
    exact Or.inr ⟨Option.some.inj h, nx⟩
  · rw [if_pos nx, if_neg ny] at h; cases h
  · rw [if_neg nx, if_pos ny] at h; cases h
  · exact Or.inl ⟨nx, ny⟩
theorem cl_same {x : Nat} (h : Num x) {y : Nat} (e : cl x = cl y) : x = y := by
  rcases cl_cases e with ⟨h1, _⟩ | ⟨h1, _⟩
  · exact absurd h h1
  · exact h1
theorem order_self' {x : Nat} (hx : x < 18446744073709551616) (nx : Num x) : FloatKind.f64.format.order x x = some .eq := order_self hx nx
theorem order_nan' {x : Nat} (y : Nat) (hx : x < 18446744073709551616) (nx : ¬ Num x) : FloatKind.f64.format.order x y = none := order_nan_l y hx nx
set_option maxHeartbeats 800000 in
theorem same_any {x y : Nat} (hx : x < 18446744073709551616) (hy : y < 18446744073709551616) (h : cl x = cl y) (w : World) : Calls Try.prog 42 #[.float .f64 x, .float .f64 y] w fun e w' => e = .returned (.bool true) ∧ w = w' := by
  rcases cl_cases h with ⟨nx, ny⟩ | ⟨rfl, nx⟩
  · have h1 := order_nan' x hx nx
    have h2 := order_nan' y hy ny
    clear h nx ny hx hy
    go_enter Try.func42, Try.ntmps42
    go_wp2
    go_ret
    exact ⟨rfl, rfl⟩
  · have h1 := order_self' hx nx
    have h2 := order_zero hx nx
    clear h hy
    by_cases h0 : rg x = 0
    · rw [if_pos h0] at h2
      by_cases hs : 9223372036854775808 ≤ x
      · obtain rfl : x = 9223372036854775808 := by simp only [rg] at h0; omega
        have hq : ∀ t w, (binOp .quo t (.float .f64 4607182418800017408) (.float .f64 9223372036854775808)).run Try.prog w = .ok (.float .f64 18442240474082181120) w := fun t w => run_float_arith w .quo t .f64 _ _ _ one_over_negzero
        have h3 : FloatKind.f64.format.order 18442240474082181120 0 = some .lt := by decide
        clear hx nx h0 hs
        go_enter Try.func42, Try.ntmps42
        go_wp2
        go_ret
        exact ⟨rfl, rfl⟩
      · obtain rfl : x = 0 := by simp only [rg] at h0; omega
        have hq : ∀ t w, (binOp .quo t (.float .f64 4607182418800017408) (.float .f64 0)).run Try.prog w = .ok (.float .f64 9218868437227405312) w := fun t w => run_float_arith w .quo t .f64 _ _ _ one_over_zero
        have h3 : FloatKind.f64.format.order 9218868437227405312 0 = some .gt := by decide
        clear hx nx h0 hs h2
        go_enter Try.func42, Try.ntmps42
        go_wp2
        go_ret
        exact ⟨rfl, rfl⟩
    · rw [if_neg h0] at h2
      by_cases hs : sg x = true
      · rw [if_pos hs] at h2
        clear hx nx h0 hs
        go_enter Try.func42, Try.ntmps42
        go_wp2
        go_ret
        exact ⟨rfl, rfl⟩
      · rw [if_neg hs] at h2
        clear hx nx h0 hs
        go_enter Try.func42, Try.ntmps42
        go_wp2
        go_ret
        exact ⟨rfl, rfl⟩
end Go.Proofs.Ytgidoceflkdklaa
