/- The specification's bits of a float: a contract. -/
import Derived.Test.YtbhpdlhmkmkbhaaTimes
import Derived.Laws.BitsAllLaws
namespace Go.Proofs.Ytbhpdlhmkmkbhaa
open Go.RowKit Fl
theorem xor63 {x : Nat} (h : x < 9223372036854775808) : x ^^^ 9223372036854775808 = 9223372036854775808 + x := by
  have h1 := Nat.two_pow_add_eq_or_of_lt (i := 63) (b := x) h 1
  have h2 : 2 ^ 63 * 1 ||| x = x ^^^ 9223372036854775808 := by
    apply Nat.eq_of_testBit_eq
    intro i
    rw [show 2 ^ 63 * 1 = 2 ^ 63 by omega, show (9223372036854775808 : Nat) = 2 ^ 63 by decide, Nat.testBit_or, Nat.testBit_xor, Nat.testBit_two_pow]
    by_cases hi : 63 = i
    · subst hi
      rw [Nat.testBit_lt_two_pow (by omega : x < 2 ^ 63)]
      simp
    · simp [hi]
  omega
theorem neg_false {r : Nat} (h : r < 9223372036854775808) : Op.negFloat .f64 (dW false r) = dW true r := by
  rw [dW_true, dW_false]
  exact xor63 h
theorem neg_true {r : Nat} (h : r < 9223372036854775808) : Op.negFloat .f64 (dW true r) = dW false r := by
  rw [← neg_false h]
  unfold Op.negFloat
  rw [Nat.xor_assoc, Nat.xor_self, Nat.xor_zero]
theorem neg_dW {b : Nat} (hb : b < 18446744073709551616) (hs : sg b = true) : Op.negFloat .f64 b = rg b := by
  have h1 := split_word hb
  rw [hs] at h1
  have h2 := neg_true (r := rg b) (by simp only [rg]; omega)
  rw [← h1, dW_false] at h2
  exact h2
theorem ret_u64 {a b : Int} (h : a = b) : Ending.returned (.int .u64 a) = .returned (.int .u64 b) := by rw [h]
theorem ret_f64 {a b : Nat} (h : a = b) : Ending.returned (.float .f64 a) = .returned (.float .f64 b) := by rw [h]
theorem wraps_u64 (n : Int) (h₀ : 0 ≤ n) (h₁ : n < 2 ^ 64) : IntKind.u64.wrap n = n := by
  simp [IntKind.wrap, IntKind.bits, IntKind.signed]; omega
theorem join_u64 (i : Nat) (x y : Int) (hx₀ : 0 ≤ x) (hx : x % 2 ^ i = 0) (hx₁ : x < 2 ^ 64) (hy₀ : 0 ≤ y) (hy : y < 2 ^ i) (hy₁ : y < 2 ^ 64) : bits .or .u64 x y = x + y :=
  bits_join .u64 64 (by decide) wraps_u64 i x y hx₀ hx hx₁ hy₀ hy hy₁
theorem mg_pl_small {r : Nat} (h : mg r < 4503599627370496) : mg r = r := by
  unfold mg at h ⊢
  split at h
  · rename_i h1; rw [if_pos h1]
  · omega
theorem mg_pl_great {r : Nat} (h : 4503599627370496 ≤ mg r) : mg r = 4503599627370496 + r % 4503599627370496 ∧ pl r + 1075 = (r / 4503599627370496 : Nat) := by
  unfold mg at h
  unfold mg pl
  split at h
  · omega
  · rename_i h1
    rw [if_neg h1, if_neg h1]
    omega
set_option maxRecDepth 100000 in
set_option maxHeartbeats 800000 in
theorem sBits_pos_inf {b : Nat} (hb : b < 18446744073709551616) (nb : Num b) (hs : sg b = false) (hy : b < 18446744073709551616) (ny : Num b) (hi : rg b = 9218868437227405312) (HB : Hid (bits .or .u64 0 9218868437227405312 = (b : Int))) (w : World) : Calls Try.prog 29 #[.float .f64 b] w fun e w' => e = .returned (.int .u64 b) ∧ w = w' := by
  go_enter Try.func29, Try.ntmps29
  go_wp2_with fail
  refine (l3NaN_any hb _).mono ?_
  rintro e w1 ⟨rfl, rfl⟩
  rw [decide_eq_false (by simpa using nb)]
  go_wp2_with fail
  refine (l3Neg_any hb nb _).mono ?_
  rintro e w1 ⟨rfl, rfl⟩
  rw [hs]
  go_wp2_with fail
  refine (l3IsInf_any hy ny _).mono ?_
  rintro e w1 ⟨rfl, rfl⟩
  rw [decide_eq_true hi]
  go_wp2
  go_ret
  exact ⟨ret_u64 HB.out, rfl⟩
set_option maxRecDepth 100000 in
set_option maxHeartbeats 800000 in
theorem sBits_pos_big {b : Nat} (hb : b < 18446744073709551616) (nb : Num b) (hs : sg b = false) (hy : b < 18446744073709551616) (ny : Num b) (hi : ¬ rg b = 9218868437227405312) {m p : Int} (HP : Hid (∀ w, Calls Try.prog 61 #[.float .f64 b] w fun e w' => e = .returned (.tuple #[.int .i64 m, .int .i64 p]) ∧ w = w')) (hm : 4503599627370496 ≤ m) (hm2 : m < 9007199254740992) (hp : -1074 ≤ p) (hp2 : p ≤ 971) (HB : Hid (bits .or .u64 (bits .or .u64 0 ((p + 1075) * 4503599627370496)) (m - 4503599627370496) = (b : Int))) (w : World) : Calls Try.prog 29 #[.float .f64 b] w fun e w' => e = .returned (.int .u64 b) ∧ w = w' := by
  go_enter Try.func29, Try.ntmps29
  go_wp2_with fail
  refine (l3NaN_any hb _).mono ?_
  rintro e w1 ⟨rfl, rfl⟩
  rw [decide_eq_false (by simpa using nb)]
  go_wp2_with fail
  refine (l3Neg_any hb nb _).mono ?_
  rintro e w1 ⟨rfl, rfl⟩
  rw [hs]
  go_wp2_with fail
  refine (l3IsInf_any hy ny _).mono ?_
  rintro e w1 ⟨rfl, rfl⟩
  rw [decide_eq_false hi]
  go_wp2_with fail
  refine (HP.out _).mono ?_
  rintro e w1 ⟨rfl, rfl⟩
  clear HP hi hs ny nb
  go_wp2
  go_ret
  exact ⟨ret_u64 HB.out, rfl⟩
set_option maxRecDepth 100000 in
set_option maxHeartbeats 800000 in
theorem sBits_pos_small {b : Nat} (hb : b < 18446744073709551616) (nb : Num b) (hs : sg b = false) (hy : b < 18446744073709551616) (ny : Num b) (hi : ¬ rg b = 9218868437227405312) {m p : Int} (HP : Hid (∀ w, Calls Try.prog 61 #[.float .f64 b] w fun e w' => e = .returned (.tuple #[.int .i64 m, .int .i64 p]) ∧ w = w')) (hm0 : 0 ≤ m) (hm : m < 4503599627370496) (HB : Hid (bits .or .u64 0 m = (b : Int))) (w : World) : Calls Try.prog 29 #[.float .f64 b] w fun e w' => e = .returned (.int .u64 b) ∧ w = w' := by
  go_enter Try.func29, Try.ntmps29
  go_wp2_with fail
  refine (l3NaN_any hb _).mono ?_
  rintro e w1 ⟨rfl, rfl⟩
  rw [decide_eq_false (by simpa using nb)]
  go_wp2_with fail
  refine (l3Neg_any hb nb _).mono ?_
  rintro e w1 ⟨rfl, rfl⟩
  rw [hs]
  go_wp2_with fail
  refine (l3IsInf_any hy ny _).mono ?_
  rintro e w1 ⟨rfl, rfl⟩
  rw [decide_eq_false hi]
  go_wp2_with fail
  refine (HP.out _).mono ?_
  rintro e w1 ⟨rfl, rfl⟩
  clear HP hi hs ny nb
  go_wp2
  go_ret
  exact ⟨ret_u64 HB.out, rfl⟩
set_option maxRecDepth 100000 in
set_option maxHeartbeats 800000 in
theorem sBits_neg_inf {b y : Nat} (hb : b < 18446744073709551616) (nb : Num b) (hs : sg b = true) (hn : ∀ w, (Op.unary .neg (.float .f64 b)).run Try.prog w = .ok (.float .f64 y) w) (hy : y < 18446744073709551616) (ny : Num y) (hi : rg y = 9218868437227405312) (HB : Hid (bits .or .u64 9223372036854775808 9218868437227405312 = (b : Int))) (w : World) : Calls Try.prog 29 #[.float .f64 b] w fun e w' => e = .returned (.int .u64 b) ∧ w = w' := by
  go_enter Try.func29, Try.ntmps29
  go_wp2_with fail
  refine (l3NaN_any hb _).mono ?_
  rintro e w1 ⟨rfl, rfl⟩
  rw [decide_eq_false (by simpa using nb)]
  go_wp2_with fail
  refine (l3Neg_any hb nb _).mono ?_
  rintro e w1 ⟨rfl, rfl⟩
  rw [hs]
  go_wp2_with fail
  refine (l3IsInf_any hy ny _).mono ?_
  rintro e w1 ⟨rfl, rfl⟩
  rw [decide_eq_true hi]
  go_wp2
  go_ret
  exact ⟨ret_u64 HB.out, rfl⟩
set_option maxRecDepth 100000 in
set_option maxHeartbeats 800000 in
theorem sBits_neg_big {b y : Nat} (hb : b < 18446744073709551616) (nb : Num b) (hs : sg b = true) (hn : ∀ w, (Op.unary .neg (.float .f64 b)).run Try.prog w = .ok (.float .f64 y) w) (hy : y < 18446744073709551616) (ny : Num y) (hi : ¬ rg y = 9218868437227405312) {m p : Int} (HP : Hid (∀ w, Calls Try.prog 61 #[.float .f64 y] w fun e w' => e = .returned (.tuple #[.int .i64 m, .int .i64 p]) ∧ w = w')) (hm : 4503599627370496 ≤ m) (hm2 : m < 9007199254740992) (hp : -1074 ≤ p) (hp2 : p ≤ 971) (HB : Hid (bits .or .u64 (bits .or .u64 9223372036854775808 ((p + 1075) * 4503599627370496)) (m - 4503599627370496) = (b : Int))) (w : World) : Calls Try.prog 29 #[.float .f64 b] w fun e w' => e = .returned (.int .u64 b) ∧ w = w' := by
  go_enter Try.func29, Try.ntmps29
  go_wp2_with fail
  refine (l3NaN_any hb _).mono ?_
  rintro e w1 ⟨rfl, rfl⟩
  rw [decide_eq_false (by simpa using nb)]
  go_wp2_with fail
  refine (l3Neg_any hb nb _).mono ?_
  rintro e w1 ⟨rfl, rfl⟩
  rw [hs]
  go_wp2_with fail
  refine (l3IsInf_any hy ny _).mono ?_
  rintro e w1 ⟨rfl, rfl⟩
  rw [decide_eq_false hi]
  go_wp2_with fail
  refine (HP.out _).mono ?_
  rintro e w1 ⟨rfl, rfl⟩
  clear HP hi hs ny nb
  go_wp2
  go_ret
  exact ⟨ret_u64 HB.out, rfl⟩
set_option maxRecDepth 100000 in
set_option maxHeartbeats 800000 in
theorem sBits_neg_small {b y : Nat} (hb : b < 18446744073709551616) (nb : Num b) (hs : sg b = true) (hn : ∀ w, (Op.unary .neg (.float .f64 b)).run Try.prog w = .ok (.float .f64 y) w) (hy : y < 18446744073709551616) (ny : Num y) (hi : ¬ rg y = 9218868437227405312) {m p : Int} (HP : Hid (∀ w, Calls Try.prog 61 #[.float .f64 y] w fun e w' => e = .returned (.tuple #[.int .i64 m, .int .i64 p]) ∧ w = w')) (hm0 : 0 ≤ m) (hm : m < 4503599627370496) (HB : Hid (bits .or .u64 9223372036854775808 m = (b : Int))) (w : World) : Calls Try.prog 29 #[.float .f64 b] w fun e w' => e = .returned (.int .u64 b) ∧ w = w' := by
  go_enter Try.func29, Try.ntmps29
  go_wp2_with fail
  refine (l3NaN_any hb _).mono ?_
  rintro e w1 ⟨rfl, rfl⟩
  rw [decide_eq_false (by simpa using nb)]
  go_wp2_with fail
  refine (l3Neg_any hb nb _).mono ?_
  rintro e w1 ⟨rfl, rfl⟩
  rw [hs]
  go_wp2_with fail
  refine (l3IsInf_any hy ny _).mono ?_
  rintro e w1 ⟨rfl, rfl⟩
  rw [decide_eq_false hi]
  go_wp2_with fail
  refine (HP.out _).mono ?_
  rintro e w1 ⟨rfl, rfl⟩
  clear HP hi hs ny nb
  go_wp2
  go_ret
  exact ⟨ret_u64 HB.out, rfl⟩
theorem parts_zero (w : World) : Calls Try.prog 61 #[.float .f64 0] w fun e w' => e = .returned (.tuple #[.int .i64 0, .int .i64 (-1074)]) ∧ w = w' := by
  have hz : FloatKind.f64.format.order 0 0 = some .eq := by decide
  go_enter Try.func61, Try.ntmps61
  go_wp2
  go_ret2
  exact ⟨rfl, rfl⟩
theorem parts_all {r : Nat} (hr : r < 9218868437227405312) (w : World) : Calls Try.prog 61 #[.float .f64 r] w fun e w' => e = .returned (.tuple #[.int .i64 (mg r), .int .i64 (pl r)]) ∧ w = w' := by
  by_cases h : r = 0
  · subst h
    exact parts_zero w
  · exact parts_any (by omega) hr w
theorem sBits_any {b : Nat} (hb : b < 18446744073709551616) (w : World) : Calls Try.prog 29 #[.float .f64 b] w fun e w' => e = .returned (.int .u64 (fb b)) ∧ w = w' := by
  by_cases nb : Num b
  · rw [show fb b = b by unfold fb; rw [if_pos nb]]
    by_cases hs : sg b = true
    · have h1 : 9223372036854775808 ≤ b := by simpa [sg] using hs
      obtain ⟨y, hy⟩ : ∃ y, y = rg b := ⟨_, rfl⟩
      have hyb : b = 9223372036854775808 + y := by rw [hy]; simp only [rg]; omega
      have hy1 : y < 9223372036854775808 := by omega
      have ny : Num y := by unfold Num at nb ⊢; omega
      have hn : ∀ w, (Op.unary .neg (.float .f64 b)).run Try.prog w = .ok (.float .f64 y) w := fun w => by
        rw [hy, ← neg_dW hb hs]; rfl
      by_cases hi : rg y = 9218868437227405312
      · refine sBits_neg_inf hb nb hs hn (by omega) ny hi ?_ w
        show bits .or .u64 9223372036854775808 9218868437227405312 = (b : Int)
        rw [join_u64 63 9223372036854775808 9218868437227405312 (by omega) (by omega) (by omega) (by omega) (by omega) (by omega)]
        simp only [rg] at hi
        omega
      · have hr : y < 9218868437227405312 := by unfold Num at ny; simp only [rg] at hi; omega
        have hl := mg_lt y
        have hp := pl_ge y
        have hp2 := pl_le hr
        by_cases hm : mg y < 4503599627370496
        · refine sBits_neg_small hb nb hs hn (by omega) ny hi (m := (mg y : Nat)) (p := pl y) (fun w => parts_all hr w) (by omega) (by omega) ?_ w
          show bits .or .u64 9223372036854775808 (mg y : Nat) = (b : Int)
          rw [join_u64 63 9223372036854775808 (mg y : Nat) (by omega) (by omega) (by omega) (by omega) (by omega) (by omega)]
          have := mg_pl_small hm
          omega
        · obtain ⟨e1, e2⟩ := mg_pl_great (r := y) (by omega)
          have hd : y / 4503599627370496 < 2048 := by omega
          refine sBits_neg_big hb nb hs hn (by omega) ny hi (m := (mg y : Nat)) (p := pl y) (fun w => parts_all hr w) (by omega) (by omega) hp hp2 ?_ w
          show bits .or .u64 (bits .or .u64 9223372036854775808 ((pl y + 1075) * 4503599627370496)) ((mg y : Nat) - 4503599627370496) = (b : Int)
          rw [e1, e2, join_u64 63 9223372036854775808 (((y / 4503599627370496 : Nat) : Int) * 4503599627370496) (by omega) (by omega) (by omega) (by omega) (by omega) (by omega)]
          rw [join_u64 52 _ (((4503599627370496 + y % 4503599627370496 : Nat) : Int) - 4503599627370496) (by omega) (by omega) (by omega) (by omega) (by omega) (by omega)]
          omega
    · have hs' : sg b = false := Bool.eq_false_iff.2 hs
      have h1 : b < 9223372036854775808 := by simp only [sg, decide_eq_true_eq] at hs; omega
      by_cases hi : rg b = 9218868437227405312
      · refine sBits_pos_inf hb nb hs' hb nb hi ?_ w
        show bits .or .u64 0 9218868437227405312 = (b : Int)
        rw [join_u64 63 0 9218868437227405312 (by omega) (by omega) (by omega) (by omega) (by omega) (by omega)]
        simp only [rg] at hi
        omega
      · have hr : b < 9218868437227405312 := by unfold Num at nb; simp only [rg] at hi; omega
        have hl := mg_lt b
        have hp := pl_ge b
        have hp2 := pl_le hr
        by_cases hm : mg b < 4503599627370496
        · refine sBits_pos_small hb nb hs' hb nb hi (m := (mg b : Nat)) (p := pl b) (fun w => parts_all hr w) (by omega) (by omega) ?_ w
          show bits .or .u64 0 (mg b : Nat) = (b : Int)
          rw [join_u64 63 0 (mg b : Nat) (by omega) (by omega) (by omega) (by omega) (by omega) (by omega)]
          have := mg_pl_small hm
          omega
        · obtain ⟨e1, e2⟩ := mg_pl_great (r := b) (by omega)
          have hd : b / 4503599627370496 < 2048 := by omega
          refine sBits_pos_big hb nb hs' hb nb hi (m := (mg b : Nat)) (p := pl b) (fun w => parts_all hr w) (by omega) (by omega) hp hp2 ?_ w
          show bits .or .u64 (bits .or .u64 0 ((pl b + 1075) * 4503599627370496)) ((mg b : Nat) - 4503599627370496) = (b : Int)
          rw [e1, e2, join_u64 63 0 (((b / 4503599627370496 : Nat) : Int) * 4503599627370496) (by omega) (by omega) (by omega) (by omega) (by omega) (by omega)]
          rw [join_u64 52 _ (((4503599627370496 + b % 4503599627370496 : Nat) : Int) - 4503599627370496) (by omega) (by omega) (by omega) (by omega) (by omega) (by omega)]
          omega
  · rw [show fb b = 9221120237041090560 by unfold fb; rw [if_neg nb]]
    go_enter Try.func29, Try.ntmps29
    go_wp2_with fail
    refine (l3NaN_any hb _).mono ?_
    rintro e w1 ⟨rfl, rfl⟩
    rw [decide_eq_true nb]
    go_wp2
    go_ret
    exact ⟨rfl, rfl⟩
end Go.Proofs.Ytbhpdlhmkmkbhaa
