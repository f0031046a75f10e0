/- The specification's bits of a float: a contract. -/
import Derived.Test.YtgidoceflkdklaaTimes
import Derived.Laws.BitsAllLaws
namespace Go.Proofs.Ytgidoceflkdklaa
open Go.RowKit Fl
theorem xor63 {x : Nat} (h : x < 9223372036854775808) : x ^^^ 9223372036854775808 = 9223372036854775808 + x := by
  have h1 := Nat.two_pow_add_eq_or_of_lt (i := 63) (b := x) h 1
  have h2 : 2 ^ 63 * 1 ||| x = x ^^^ 9223372036854775808 := by
    apply Nat.eq_of_testBit_eq
    intro i
    rw [show 2 ^ 63 * 1 = 2 ^ 63 by omega, show (9223372036854775808 : Nat) = 2 ^ 63 by decide, Nat.testBit_or, Nat.testBit_xor, Nat.testBit_two_pow]
    by_cases hi : 63 = i
    · subst hi
      rw [Nat.testBit_lt_two_pow (by omega : x < 2 ^ 63)]
      simp
    · simp [hi]
  omega
theorem neg_false {r : Nat} (h : r < 9223372036854775808) : Op.negFloat .f64 (dW false r) = dW true r := by
  rw [dW_true, dW_false]
  exact xor63 h
theorem neg_true {r : Nat} (h : r < 9223372036854775808) : Op.negFloat .f64 (dW true r) = dW false r := by
  rw [← neg_false h]
  unfold Op.negFloat
  rw [Nat.xor_assoc, Nat.xor_self, Nat.xor_zero]
theorem neg_dW {b : Nat} (hb : b < 18446744073709551616) (hs : sg b = true) : Op.negFloat .f64 b = rg b := by
  have h1 := split_word hb
  rw [hs] at h1
  have h2 := neg_true (r := rg b) (by simp only [rg]; omega)
  rw [← h1, dW_false] at h2
  exact h2
theorem ret_u64 {a b : Int} (h : a = b) : Ending.returned (.int .u64 a) = .returned (.int .u64 b) := by rw [h]
theorem ret_f64 {a b : Nat} (h : a = b) : Ending.returned (.float .f64 a) = .returned (.float .f64 b) := by rw [h]
theorem wraps_u64 (n : Int) (h₀ : 0 ≤ n) (h₁ : n < 2 ^ 64) : IntKind.u64.wrap n = n := by
  simp [IntKind.wrap, IntKind.bits, IntKind.signed]; omega
theorem join_u64 (i : Nat) (x y : Int) (hx₀ : 0 ≤ x) (hx : x % 2 ^ i = 0) (hx₁ : x < 2 ^ 64) (hy₀ : 0 ≤ y) (hy : y < 2 ^ i) (hy₁ : y < 2 ^ 64) : bits .or .u64 x y = x + y :=
  bits_join .u64 64 (by decide) wraps_u64 i x y hx₀ hx hx₁ hy₀ hy hy₁
theorem mg_pl_small {r : Nat} (h : mg r < 4503599627370496) : mg r = r := by
  unfold mg at h ⊢
  split at h
  · rename_i h1; rw [if_pos h1]
  · omega
theorem mg_pl_great {r : Nat} (h : 4503599627370496 ≤ mg r) : mg r = 4503599627370496 + r % 4503599627370496 ∧ pl r + 1075 = (r / 4503599627370496 : Nat) := by
  unfold mg at h
  unfold mg pl
  split at h
  · omega
  · rename_i h1
    rw [if_neg h1, if_neg h1]
    omega
theorem parts_zero (w : World) : Calls Try.prog 97 #[.float .f64 0] w fun e w' => e = .returned (.tuple #[.int .i64 0, .int .i64 (-1074)]) ∧ w = w' := by
  have hz : FloatKind.f64.format.order 0 0 = some .eq := by decide
  go_enter Try.func97, Try.ntmps97
  go_wp2
  go_ret2
  exact ⟨rfl, rfl⟩
theorem parts_all {r : Nat} (hr : r < 9218868437227405312) (w : World) : Calls Try.prog 97 #[.float .f64 r] w fun e w' => e = .returned (.tuple #[.int .i64 (mg r), .int .i64 (pl r)]) ∧ w = w' := by
  by_cases h : r = 0
  · subst h
    exact parts_zero w
  · exact parts_any (by omega) hr w
end Go.Proofs.Ytgidoceflkdklaa
