/- The order of all floats: contracts of the specification's and the program's comparison. -/
import Derived.Test.YtcmgafgboepllaaNext
namespace Go.Proofs.Ytcmgafgboepllaa
open Go.RowKit Fl
theorem not64 {x : Nat} (h : x < 18446744073709551616) : 18446744073709551615 ^^^ x = 18446744073709551615 - x := by
  apply Nat.eq_of_testBit_eq
  intro i
  rw [show (18446744073709551615 : Nat) = 2 ^ 64 - 1 by decide, Nat.testBit_xor, Nat.testBit_two_pow_sub_one, show 2 ^ 64 - 1 - x = 2 ^ 64 - (x + 1) by omega, Nat.testBit_two_pow_sub_succ (by omega)]
  by_cases hi : i < 64
  · simp [hi]
  · rw [Nat.testBit_lt_two_pow (i := i) (x := x) (Nat.lt_of_lt_of_le h (by rw [show (18446744073709551616 : Nat) = 2 ^ 64 by decide]; exact Nat.pow_le_pow_right (by omega) (by omega)))]
    simp [hi]
theorem and63 {x : Nat} (h : x < 18446744073709551616) : x &&& 9223372036854775808 = if 9223372036854775808 ≤ x then 9223372036854775808 else 0 := by
  apply Nat.eq_of_testBit_eq
  intro i
  rw [show (9223372036854775808 : Nat) = 2 ^ 63 by decide, Nat.testBit_and, Nat.testBit_two_pow]
  by_cases hx : 2 ^ 63 ≤ x
  · rw [if_pos hx, Nat.testBit_two_pow]
    by_cases hi : 63 = i
    · subst hi
      have : x.testBit 63 = true := by
        rw [Nat.testBit_eq_decide_div_mod_eq]
        have : x / 2 ^ 63 = 1 := by omega
        rw [this]; rfl
      rw [this]; rfl
    · simp [hi]
  · rw [if_neg hx, Nat.zero_testBit]
    by_cases hi : 63 = i
    · subst hi
      rw [Nat.testBit_lt_two_pow (by omega)]; rfl
    · simp [hi]
theorem ret_i64 {a b : Int} (h : a = b) : Ending.returned (.int .i64 a) = .returned (.int .i64 b) := by rw [h]
theorem rank_any {x : Nat} (hx : x < 18446744073709551616) (w : World) : Calls Try.prog 103 #[.float .f64 x] w fun e w' => e = .returned (.int .u64 (rk x)) ∧ w = w' := by
  have hf := fb_lt hx
  obtain ⟨X, hX⟩ : ∃ X : Int, X = (fb x : Nat) := ⟨_, rfl⟩
  have HB : Hid (∀ w, Calls Try.prog 106 #[.float .f64 x] w fun e w' => e = .returned (.int .u64 X) ∧ w = w') := fun w => by
    rw [hX]; exact iBits_any hx w
  have ha : bits .and .u64 X 9223372036854775808 = ((if 9223372036854775808 ≤ fb x then 9223372036854775808 else 0 : Nat) : Int) := by
    rw [hX, ← and63 hf]
    exact u64_and_nat (fb x) 9223372036854775808 hf (by omega)
  by_cases hs : 9223372036854775808 ≤ fb x
  · rw [if_pos hs] at ha
    have ha' : bits .and .u64 X 9223372036854775808 = 9223372036854775808 := ha
    have HR : Hid (bits .xor .u64 18446744073709551615 X = ((rk x : Nat) : Int)) := by
      show bits .xor .u64 18446744073709551615 X = ((rk x : Nat) : Int)
      have h2 := u64_xor_nat 18446744073709551615 (fb x) (by omega) hf
      rw [not64 hf] at h2
      unfold rk
      rw [if_pos hs, hX]
      exact h2
    clear ha hX hs hf hx
    go_enter Try.func103, Try.ntmps103
    go_wp2_with fail
    refine (HB.out _).mono ?_
    rintro e w1 ⟨rfl, rfl⟩
    go_wp2
    go_ret
    exact ⟨ret_u64 HR.out, rfl⟩
  · rw [if_neg hs] at ha
    have ha' : bits .and .u64 X 9223372036854775808 = 0 := ha
    have HR : Hid (bits .or .u64 X 9223372036854775808 = ((rk x : Nat) : Int)) := by
      show bits .or .u64 X 9223372036854775808 = ((rk x : Nat) : Int)
      have h2 := u64_or_nat (fb x) 9223372036854775808 hf (by omega)
      have h3 := Nat.two_pow_add_eq_or_of_lt (i := 63) (b := fb x) (by omega) 1
      rw [Nat.or_comm] at h3
      unfold rk
      rw [if_neg hs, hX]
      rw [show (2 ^ 63 * 1 : Nat) = 9223372036854775808 by decide] at h3
      rw [← h3] at h2
      rw [show fb x + 9223372036854775808 = 9223372036854775808 + fb x by omega]
      exact h2
    clear ha hX hs hf hx
    go_enter Try.func103, Try.ntmps103
    go_wp2_with fail
    refine (HB.out _).mono ?_
    rintro e w1 ⟨rfl, rfl⟩
    go_wp2
    go_ret
    exact ⟨ret_u64 HR.out, rfl⟩
theorem cnan_any (x : Int) (w : World) : Calls Try.prog 105 #[.int .u64 x] w fun e w' => e = .returned (.bool false) ∧ w = w' := by
  go_enter Try.func105, Try.ntmps105
  go_wp2
  go_ret
  exact ⟨by simp, rfl⟩
theorem ccmp_any (x y : Int) (w : World) : Calls Try.prog 102 #[.int .u64 x, .int .u64 y] w fun e w' => e = .returned (.int .i64 (if x < y then -1 else if y < x then 1 else 0)) ∧ w = w' := by
  by_cases h1 : x < y
  · rw [if_pos h1]
    go_enter Try.func102, Try.ntmps102
    go_wp2_with fail
    refine (cnan_any _ _).mono ?_
    rintro e w1 ⟨rfl, rfl⟩
    go_wp2_with fail
    refine (cnan_any _ _).mono ?_
    rintro e w1 ⟨rfl, rfl⟩
    go_wp2
    go_ret
    exact ⟨rfl, rfl⟩
  · rw [if_neg h1]
    by_cases h2 : y < x
    · rw [if_pos h2]
      go_enter Try.func102, Try.ntmps102
      go_wp2_with fail
      refine (cnan_any _ _).mono ?_
      rintro e w1 ⟨rfl, rfl⟩
      go_wp2_with fail
      refine (cnan_any _ _).mono ?_
      rintro e w1 ⟨rfl, rfl⟩
      go_wp2
      go_ret
      exact ⟨rfl, rfl⟩
    · rw [if_neg h2]
      go_enter Try.func102, Try.ntmps102
      go_wp2_with fail
      refine (cnan_any _ _).mono ?_
      rintro e w1 ⟨rfl, rfl⟩
      go_wp2_with fail
      refine (cnan_any _ _).mono ?_
      rintro e w1 ⟨rfl, rfl⟩
      go_wp2
      go_ret
      exact ⟨rfl, rfl⟩
theorem cmpF_int (x y : Nat) : (if ((rk x : Nat) : Int) < (rk y : Nat) then -1 else if ((rk y : Nat) : Int) < (rk x : Nat) then 1 else 0 : Int) = cmpF x y := by
  unfold cmpF
  by_cases h1 : rk x < rk y
  · rw [if_pos h1, if_pos (by omega)]
  · rw [if_neg h1, if_neg (by omega)]
    by_cases h2 : rk y < rk x
    · rw [if_pos h2, if_pos (by omega)]
    · rw [if_neg h2, if_neg (by omega)]
theorem cmpF_bounds (x y : Nat) : -1 ≤ cmpF x y ∧ cmpF x y ≤ 1 := by
  unfold cmpF
  split
  · omega
  · split <;> omega
theorem iCmp_any {x y : Nat} (hx : x < 18446744073709551616) (hy : y < 18446744073709551616) (w : World) : Calls Try.prog 99 #[.float .f64 x, .float .f64 y] w fun e w' => e = .returned (.int .i64 (cmpF x y)) ∧ w = w' := by
  have H1 : Hid (∀ w, Calls Try.prog 102 #[.int .u64 (rk x : Nat), .int .u64 (rk y : Nat)] w fun e w' => e = .returned (.int .i64 (cmpF x y)) ∧ w = w') := fun w => by
    rw [← cmpF_int]; exact ccmp_any _ _ w
  have hc := cmpF_bounds x y
  go_enter Try.func99, Try.ntmps99
  go_wp2_with fail
  refine (rank_any hx _).mono ?_
  rintro e w1 ⟨rfl, rfl⟩
  go_wp2_with fail
  refine (rank_any hy _).mono ?_
  rintro e w1 ⟨rfl, rfl⟩
  go_wp2_with fail
  refine (H1.out _).mono ?_
  rintro e w1 ⟨rfl, rfl⟩
  go_wp2
  go_ret
  exact ⟨rfl, rfl⟩
end Go.Proofs.Ytcmgafgboepllaa
