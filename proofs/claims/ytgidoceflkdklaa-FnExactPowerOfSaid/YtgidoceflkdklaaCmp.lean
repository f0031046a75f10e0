/- The order of all floats: contracts of the specification's and the program's comparison. -/
import Derived.Test.YtgidoceflkdklaaNext
namespace Go.Proofs.Ytgidoceflkdklaa
open Go.RowKit Fl
theorem not64 {x : Nat} (h : x < 18446744073709551616) : 18446744073709551615 ^^^ x = 18446744073709551615 - x := by
  apply Nat.eq_of_testBit_eq
  intro i
  rw [show (18446744073709551615 : Nat) = 2 ^ 64 - 1 by decide, Nat.testBit_xor, Nat.testBit_two_pow_sub_one, show 2 ^ 64 - 1 - x = 2 ^ 64 - (x + 1) by omega, Nat.testBit_two_pow_sub_succ (by omega)]
  by_cases hi : i < 64
  · simp [hi]
  · rw [Nat.testBit_lt_two_pow (i := i) (x := x) (Nat.lt_of_lt_of_le h (by rw [show (18446744073709551616 : Nat) = 2 ^ 64 by decide]; exact Nat.pow_le_pow_right (by omega) (by omega)))]
    simp [hi]
theorem and63 {x : Nat} (h : x < 18446744073709551616) : x &&& 9223372036854775808 = if 9223372036854775808 ≤ x then 9223372036854775808 else 0 := by
  apply Nat.eq_of_testBit_eq
  intro i
  rw [show (9223372036854775808 : Nat) = 2 ^ 63 by decide, Nat.testBit_and, Nat.testBit_two_pow]
  by_cases hx : 2 ^ 63 ≤ x
  · rw [if_pos hx, Nat.testBit_two_pow]
    by_cases hi : 63 = i
    · subst hi
      have : x.testBit 63 = true := by
        rw [Nat.testBit_eq_decide_div_mod_eq]
        have : x / 2 ^ 63 = 1 := by omega
        rw [this]; rfl
      rw [this]; rfl
    · simp [hi]
  · rw [if_neg hx, Nat.zero_testBit]
    by_cases hi : 63 = i
    · subst hi
      rw [Nat.testBit_lt_two_pow (by omega)]; rfl
    · simp [hi]
theorem ret_i64 {a b : Int} (h : a = b) : Ending.returned (.int .i64 a) = .returned (.int .i64 b) := by rw [h]
theorem cmpF_int (x y : Nat) : (if ((rk x : Nat) : Int) < (rk y : Nat) then -1 else if ((rk y : Nat) : Int) < (rk x : Nat) then 1 else 0 : Int) = cmpF x y := by
  unfold cmpF
  by_cases h1 : rk x < rk y
  · rw [if_pos h1, if_pos (by omega)]
  · rw [if_neg h1, if_neg (by omega)]
    by_cases h2 : rk y < rk x
    · rw [if_pos h2, if_pos (by omega)]
    · rw [if_neg h2, if_neg (by omega)]
theorem cmpF_bounds (x y : Nat) : -1 ≤ cmpF x y ∧ cmpF x y ≤ 1 := by
  unfold cmpF
  split
  · omega
  · split <;> omega
end Go.Proofs.Ytgidoceflkdklaa
