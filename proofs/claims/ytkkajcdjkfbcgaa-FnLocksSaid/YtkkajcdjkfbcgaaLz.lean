/- Small questions of both packages: may one divide by a number, are there so many steps, so much of a colour; the lesser one of two; what is wrong with a laser. -/
import Derived.Test.YtkkajcdjkfbcgaaLb
import Derived.Handy
namespace Go.Proofs.Ytkkajcdjkfbcgaa
open Go.RowKit
set_option linter.unusedVariables false
set_option linter.unusedSimpArgs false
theorem ret_int {a b : Int} (h : a = b) : Ending.returned (.int .i64 a) = .returned (.int .i64 b) := by rw [h]
def rate (n : Int) : Bool := decide (1 ≤ n ∧ n ≤ 1000000)
def amount (n : Int) : Bool := decide (0 ≤ n ∧ n ≤ 1000000)
def stepsB (n : Int) : Bool := decide (0 ≤ n ∧ n ≤ 1000)
def photB (n : Int) : Bool := decide (0 ≤ n ∧ n ≤ 4096)
theorem rate_t {n : Int} (h : rate n = true) : 1 ≤ n ∧ n ≤ 1000000 := by simpa [rate] using h
theorem amount_t {n : Int} (h : amount n = true) : 0 ≤ n ∧ n ≤ 1000000 := by simpa [amount] using h
theorem stepsB_t {n : Int} (h : stepsB n = true) : 0 ≤ n ∧ n ≤ 1000 := by simpa [stepsB] using h
theorem photB_t {n : Int} (h : photB n = true) : 0 ≤ n ∧ n ≤ 4096 := by simpa [photB] using h
theorem rate_i (n : Int) (w : World) : Calls Try.prog 84 #[.int .i64 n] w fun e w' => e = .returned (.bool (rate n)) ∧ w = w' := by
  by_cases h1 : 1 ≤ n
  · by_cases h2 : n ≤ 1000000
    · go_enter Try.func84, Try.ntmps84
      go_wp2
      go_ret
      exact ⟨ret_bool (by simp [rate, h1, h2]), rfl⟩
    · go_enter Try.func84, Try.ntmps84
      go_wp2
      go_ret
      exact ⟨ret_bool (by simp [rate]; omega), rfl⟩
  · go_enter Try.func84, Try.ntmps84
    go_wp2
    go_ret
    exact ⟨ret_bool (by simp [rate]; omega), rfl⟩
theorem rate_s (n : Int) (w : World) : Calls Try.prog 94 #[.int .i64 n] w fun e w' => e = .returned (.bool (rate n)) ∧ w = w' := by
  by_cases h1 : 1 ≤ n
  · by_cases h2 : n ≤ 1000000
    · go_enter Try.func94, Try.ntmps94
      go_wp2
      go_ret
      exact ⟨ret_bool (by simp [rate, h1, h2]), rfl⟩
    · go_enter Try.func94, Try.ntmps94
      go_wp2
      go_ret
      exact ⟨ret_bool (by simp [rate]; omega), rfl⟩
  · go_enter Try.func94, Try.ntmps94
    go_wp2
    go_ret
    exact ⟨ret_bool (by simp [rate]; omega), rfl⟩
theorem amount_i (n : Int) (w : World) : Calls Try.prog 99 #[.int .i64 n] w fun e w' => e = .returned (.bool (amount n)) ∧ w = w' := by
  by_cases h1 : 0 ≤ n
  · by_cases h2 : n ≤ 1000000
    · go_enter Try.func99, Try.ntmps99
      go_wp2
      go_ret
      exact ⟨ret_bool (by simp [amount, h1, h2]), rfl⟩
    · go_enter Try.func99, Try.ntmps99
      go_wp2
      go_ret
      exact ⟨ret_bool (by simp [amount]; omega), rfl⟩
  · go_enter Try.func99, Try.ntmps99
    go_wp2
    go_ret
    exact ⟨ret_bool (by simp [amount]; omega), rfl⟩
theorem steps_i (n : Int) (w : World) : Calls Try.prog 96 #[.int .i64 n] w fun e w' => e = .returned (.bool (stepsB n)) ∧ w = w' := by
  by_cases h1 : 0 ≤ n
  · by_cases h2 : n ≤ 1000
    · go_enter Try.func96, Try.ntmps96
      go_wp2
      go_ret
      exact ⟨ret_bool (by simp [stepsB, h1, h2]), rfl⟩
    · go_enter Try.func96, Try.ntmps96
      go_wp2
      go_ret
      exact ⟨ret_bool (by simp [stepsB]; omega), rfl⟩
  · go_enter Try.func96, Try.ntmps96
    go_wp2
    go_ret
    exact ⟨ret_bool (by simp [stepsB]; omega), rfl⟩
theorem phot_i (n : Int) (w : World) : Calls Try.prog 83 #[.int .i64 n] w fun e w' => e = .returned (.bool (photB n)) ∧ w = w' := by
  by_cases h1 : 0 ≤ n
  · by_cases h2 : n ≤ 4096
    · go_enter Try.func83, Try.ntmps83
      go_wp2
      go_ret
      exact ⟨ret_bool (by simp [photB, h1, h2]), rfl⟩
    · go_enter Try.func83, Try.ntmps83
      go_wp2
      go_ret
      exact ⟨ret_bool (by simp [photB]; omega), rfl⟩
  · go_enter Try.func83, Try.ntmps83
    go_wp2
    go_ret
    exact ⟨ret_bool (by simp [photB]; omega), rfl⟩
theorem phot_s (n : Int) (w : World) : Calls Try.prog 81 #[.int .i64 n] w fun e w' => e = .returned (.bool (photB n)) ∧ w = w' := by
  by_cases h1 : 0 ≤ n
  · by_cases h2 : n ≤ 4096
    · go_enter Try.func81, Try.ntmps81
      go_wp2
      go_ret
      exact ⟨ret_bool (by simp [photB, h1, h2]), rfl⟩
    · go_enter Try.func81, Try.ntmps81
      go_wp2
      go_ret
      exact ⟨ret_bool (by simp [photB]; omega), rfl⟩
  · go_enter Try.func81, Try.ntmps81
    go_wp2
    go_ret
    exact ⟨ret_bool (by simp [photB]; omega), rfl⟩
def lsr (a b : Int) : Int := if a < b then a else b
theorem min_s (a b : Int) (w : World) : Calls Try.prog 95 #[.int .i64 a, .int .i64 b] w fun e w' => e = .returned (.int .i64 (lsr a b)) ∧ w = w' := by
  by_cases h : a < b
  · go_enter Try.func95, Try.ntmps95
    go_wp2
    go_ret
    exact ⟨ret_int (by simp [lsr, h]), rfl⟩
  · go_enter Try.func95, Try.ntmps95
    go_wp2
    go_ret
    exact ⟨ret_int (by unfold lsr; rw [if_neg (by omega)]), rfl⟩
structure La where
  g : Int
  l : Int
  s : Int
  p : Int
def lcode (a : La) : Int := if rate a.g = true ∧ rate a.l = true ∧ rate a.s = true ∧ 0 ≤ a.p ∧ a.p ≤ 1000 then 0 else 3
set_option maxHeartbeats 1600000 in
theorem lfault_s (a : La) (w : World) : Calls Try.prog 42 #[.agg #[.int .i64 a.g, .int .i64 a.l, .int .i64 a.s, .int .i64 a.p]] w fun e w' => e = .returned (.int .i64 (lcode a)) ∧ Below w.heap.size w w' := by
  obtain ⟨g, l, s, p⟩ := a
  simp only
  cases hg : rate g
  · rw [show lcode ⟨g, l, s, p⟩ = 3 by simp [lcode, hg]]
    go_enter Try.func42, Try.ntmps42
    go_wp2_with fail
    refine (rate_s g _).mono ?_
    rintro e w1 ⟨rfl, rfl⟩
    rw [hg]
    go_wp2
    go_ret
    exact ⟨rfl, by go_grown⟩
  cases hl : rate l
  · rw [show lcode ⟨g, l, s, p⟩ = 3 by simp [lcode, hl]]
    go_enter Try.func42, Try.ntmps42
    go_wp2_with fail
    refine (rate_s g _).mono ?_
    rintro e w1 ⟨rfl, rfl⟩
    rw [hg]
    go_wp2_with fail
    refine (rate_s l _).mono ?_
    rintro e w1 ⟨rfl, rfl⟩
    rw [hl]
    go_wp2
    go_ret
    exact ⟨rfl, by go_grown⟩
  cases hs : rate s
  · rw [show lcode ⟨g, l, s, p⟩ = 3 by simp [lcode, hs]]
    go_enter Try.func42, Try.ntmps42
    go_wp2_with fail
    refine (rate_s g _).mono ?_
    rintro e w1 ⟨rfl, rfl⟩
    rw [hg]
    go_wp2_with fail
    refine (rate_s l _).mono ?_
    rintro e w1 ⟨rfl, rfl⟩
    rw [hl]
    go_wp2_with fail
    refine (rate_s s _).mono ?_
    rintro e w1 ⟨rfl, rfl⟩
    rw [hs]
    go_wp2
    go_ret
    exact ⟨rfl, by go_grown⟩
  by_cases h0 : p < 0
  · rw [show lcode ⟨g, l, s, p⟩ = 3 by simp [lcode]; omega]
    go_enter Try.func42, Try.ntmps42
    go_wp2_with fail
    refine (rate_s g _).mono ?_
    rintro e w1 ⟨rfl, rfl⟩
    rw [hg]
    go_wp2_with fail
    refine (rate_s l _).mono ?_
    rintro e w1 ⟨rfl, rfl⟩
    rw [hl]
    go_wp2_with fail
    refine (rate_s s _).mono ?_
    rintro e w1 ⟨rfl, rfl⟩
    rw [hs]
    go_wp2
    go_ret
    exact ⟨rfl, by go_grown⟩
  by_cases h1 : 1000 < p
  · rw [show lcode ⟨g, l, s, p⟩ = 3 by simp [lcode]; omega]
    go_enter Try.func42, Try.ntmps42
    go_wp2_with fail
    refine (rate_s g _).mono ?_
    rintro e w1 ⟨rfl, rfl⟩
    rw [hg]
    go_wp2_with fail
    refine (rate_s l _).mono ?_
    rintro e w1 ⟨rfl, rfl⟩
    rw [hl]
    go_wp2_with fail
    refine (rate_s s _).mono ?_
    rintro e w1 ⟨rfl, rfl⟩
    rw [hs]
    go_wp2
    go_ret
    exact ⟨rfl, by go_grown⟩
  rw [show lcode ⟨g, l, s, p⟩ = 0 by simp [lcode, hg, hl, hs]; omega]
  go_enter Try.func42, Try.ntmps42
  go_wp2_with fail
  refine (rate_s g _).mono ?_
  rintro e w1 ⟨rfl, rfl⟩
  rw [hg]
  go_wp2_with fail
  refine (rate_s l _).mono ?_
  rintro e w1 ⟨rfl, rfl⟩
  rw [hl]
  go_wp2_with fail
  refine (rate_s s _).mono ?_
  rintro e w1 ⟨rfl, rfl⟩
  rw [hs]
  go_wp2
  go_ret
  exact ⟨rfl, by go_grown⟩
set_option maxHeartbeats 1600000 in
theorem lfault_i (a : La) (w : World) : Calls Try.prog 44 #[.agg #[.int .i64 a.g, .int .i64 a.l, .int .i64 a.s, .int .i64 a.p]] w fun e w' => e = .returned (.int .i64 (lcode a)) ∧ Below w.heap.size w w' := by
  obtain ⟨g, l, s, p⟩ := a
  simp only
  cases hg : rate g
  · rw [show lcode ⟨g, l, s, p⟩ = 3 by simp [lcode, hg]]
    go_enter Try.func44, Try.ntmps44
    go_wp2_with fail
    refine (rate_i g _).mono ?_
    rintro e w1 ⟨rfl, rfl⟩
    rw [hg]
    go_wp2
    go_ret
    exact ⟨rfl, by go_grown⟩
  cases hl : rate l
  · rw [show lcode ⟨g, l, s, p⟩ = 3 by simp [lcode, hl]]
    go_enter Try.func44, Try.ntmps44
    go_wp2_with fail
    refine (rate_i g _).mono ?_
    rintro e w1 ⟨rfl, rfl⟩
    rw [hg]
    go_wp2_with fail
    refine (rate_i l _).mono ?_
    rintro e w1 ⟨rfl, rfl⟩
    rw [hl]
    go_wp2
    go_ret
    exact ⟨rfl, by go_grown⟩
  cases hs : rate s
  · rw [show lcode ⟨g, l, s, p⟩ = 3 by simp [lcode, hs]]
    go_enter Try.func44, Try.ntmps44
    go_wp2_with fail
    refine (rate_i g _).mono ?_
    rintro e w1 ⟨rfl, rfl⟩
    rw [hg]
    go_wp2_with fail
    refine (rate_i l _).mono ?_
    rintro e w1 ⟨rfl, rfl⟩
    rw [hl]
    go_wp2_with fail
    refine (rate_i s _).mono ?_
    rintro e w1 ⟨rfl, rfl⟩
    rw [hs]
    go_wp2
    go_ret
    exact ⟨rfl, by go_grown⟩
  by_cases h0 : p < 0
  · rw [show lcode ⟨g, l, s, p⟩ = 3 by simp [lcode]; omega]
    go_enter Try.func44, Try.ntmps44
    go_wp2_with fail
    refine (rate_i g _).mono ?_
    rintro e w1 ⟨rfl, rfl⟩
    rw [hg]
    go_wp2_with fail
    refine (rate_i l _).mono ?_
    rintro e w1 ⟨rfl, rfl⟩
    rw [hl]
    go_wp2_with fail
    refine (rate_i s _).mono ?_
    rintro e w1 ⟨rfl, rfl⟩
    rw [hs]
    go_wp2
    go_ret
    exact ⟨rfl, by go_grown⟩
  by_cases h1 : 1000 < p
  · rw [show lcode ⟨g, l, s, p⟩ = 3 by simp [lcode]; omega]
    go_enter Try.func44, Try.ntmps44
    go_wp2_with fail
    refine (rate_i g _).mono ?_
    rintro e w1 ⟨rfl, rfl⟩
    rw [hg]
    go_wp2_with fail
    refine (rate_i l _).mono ?_
    rintro e w1 ⟨rfl, rfl⟩
    rw [hl]
    go_wp2_with fail
    refine (rate_i s _).mono ?_
    rintro e w1 ⟨rfl, rfl⟩
    rw [hs]
    go_wp2
    go_ret
    exact ⟨rfl, by go_grown⟩
  rw [show lcode ⟨g, l, s, p⟩ = 0 by simp [lcode, hg, hl, hs]; omega]
  go_enter Try.func44, Try.ntmps44
  go_wp2_with fail
  refine (rate_i g _).mono ?_
  rintro e w1 ⟨rfl, rfl⟩
  rw [hg]
  go_wp2_with fail
  refine (rate_i l _).mono ?_
  rintro e w1 ⟨rfl, rfl⟩
  rw [hl]
  go_wp2_with fail
  refine (rate_i s _).mono ?_
  rintro e w1 ⟨rfl, rfl⟩
  rw [hs]
  go_wp2
  go_ret
  exact ⟨rfl, by go_grown⟩
set_option maxHeartbeats 1600000 in
theorem toLaser_any (a : La) (w : World) : Calls Try.prog 43 #[.agg #[.int .i64 a.g, .int .i64 a.l, .int .i64 a.s, .int .i64 a.p]] w fun e w' => e = .returned (.agg #[.int .i64 a.g, .int .i64 a.l, .int .i64 a.s, .int .i64 a.p]) ∧ Below w.heap.size w w' := by
  go_enter Try.func43, Try.ntmps43
  go_wp2
  refine bodyPost_ret (v := .agg #[.int .i64 a.g, .int .i64 a.l, .int .i64 a.s, .int .i64 a.p]) (by simp [results, Try.results43, go_sem]) rfl ⟨rfl, by go_grown⟩
end Go.Proofs.Ytkkajcdjkfbcgaa
