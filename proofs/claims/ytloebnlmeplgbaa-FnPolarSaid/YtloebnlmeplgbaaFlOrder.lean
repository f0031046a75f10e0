/- Words of 64 bits: which are NaN, how two stand to each other, the order of all of them by ranks, noughts, signs. Plain laws, no program. -/
import Derived.Test.YtloebnlmeplgbaaFlRoot
namespace Go.Proofs.Ytloebnlmeplgbaa.Fl
open Ieee
/-- No NaN: the rung is at most that of the infinite one. -/
abbrev Num (x : Nat) : Prop := x % 9223372036854775808 ≤ 9218868437227405312
abbrev sg (x : Nat) : Bool := decide (9223372036854775808 ≤ x)
abbrev rg (x : Nat) : Nat := x % 9223372036854775808
theorem split_word {x : Nat} (h : x < 18446744073709551616) : x = dW (sg x) (rg x) := by
  unfold dW Format.word
  rw [sign_eq]
  by_cases h1 : 9223372036854775808 ≤ x
  · simp only [sg, rg, h1, decide_true, if_true]; omega
  · simp only [sg, rg, h1, decide_false, Bool.false_eq_true, if_false]; omega
theorem dW_true (r : Nat) : dW true r = 9223372036854775808 + r := by simp [dW, Format.word, sign_eq]
theorem dW_false (r : Nat) : dW false r = r := by simp [dW, Format.word]
theorem read_parts (neg : Bool) {r : Nat} (h : r < 9223372036854775808) : (dW neg r / 9223372036854775808 % 2 == 1) = neg ∧ dW neg r % 9223372036854775808 = r := by
  cases neg
  · rw [dW_false]
    refine ⟨?_, by omega⟩
    rw [Nat.div_eq_of_lt h]; rfl
  · rw [dW_true]
    refine ⟨?_, by omega⟩
    rw [Nat.add_div_left _ (by omega), Nat.div_eq_of_lt h]; rfl
theorem read_inf (neg : Bool) : double.read (dW neg 9218868437227405312) = .infinity neg := by
  cases neg <;> decide
theorem read_nan (neg : Bool) {r : Nat} (h1 : 9218868437227405312 < r) (h2 : r < 9223372036854775808) : double.read (dW neg r) = .nan neg (r - 9218868437227405312) := by
  obtain ⟨e1, e2⟩ := read_parts neg h2
  unfold Format.read
  simp only [sign_eq, binade_eq, inf_eq, e1, e2]
  rw [if_neg (by omega), if_neg (by omega), if_neg (by omega)]
theorem vv_pos {r : Nat} (h : 0 < r) : 0 < vv r := by
  have := vv_lt.2 h
  omega
theorem vv_zero : vv 0 = 0 := vv_small (by omega)
theorem order_le (s t : Bool) {r q : Nat} (hr : r ≤ 9218868437227405312) (hq : q ≤ 9218868437227405312) : double.order (dW s r) (dW t q) = some (compare (sv s r) (sv t q)) := by
  rcases Nat.lt_or_eq_of_le hr with h1 | h1
  · rcases Nat.lt_or_eq_of_le hq with h2 | h2
    · exact order_word s t h1 h2
    · subst h2
      unfold Format.order
      rw [read_word s h1, read_inf t]
      simp only [Datum.order]
      have := vv_lt.2 h1
      cases t
      · rw [Int.compare_eq_lt.2]
        · rfl
        · unfold sv; cases s <;> simp <;> omega
      · rw [Int.compare_eq_gt.2]
        · rfl
        · unfold sv; cases s <;> simp <;> omega
  · subst h1
    rcases Nat.lt_or_eq_of_le hq with h2 | h2
    · unfold Format.order
      rw [read_word t h2, read_inf s]
      simp only [Datum.order]
      have := vv_lt.2 h2
      cases s
      · rw [Int.compare_eq_gt.2]
        · rfl
        · unfold sv; cases t <;> simp <;> omega
      · rw [Int.compare_eq_lt.2]
        · rfl
        · unfold sv; cases t <;> simp <;> omega
    · subst h2
      unfold Format.order
      rw [read_inf s, read_inf t]
      simp only [Datum.order]
      have := vv_pos (r := 9218868437227405312) (by omega)
      cases s <;> cases t
      · simp [sv]
      · rw [Int.compare_eq_gt.2 (by unfold sv; simp; omega)]; rfl
      · rw [Int.compare_eq_lt.2 (by unfold sv; simp; omega)]; rfl
      · simp [sv]
theorem order_nan_l {x : Nat} (y : Nat) (hx : x < 18446744073709551616) (h : ¬ Num x) : double.order x y = none := by
  have h2 : double.read x = .nan (sg x) (rg x - 9218868437227405312) := by
    conv => lhs; rw [split_word hx]
    exact read_nan _ (by unfold Num at h; simp only [rg]; omega) (by simp only [rg]; omega)
  unfold Format.order
  rw [h2]
  rfl
theorem order_nan_r (x : Nat) {y : Nat} (hy : y < 18446744073709551616) (h : ¬ Num y) : double.order x y = none := by
  have h2 : double.read y = .nan (sg y) (rg y - 9218868437227405312) := by
    conv => lhs; rw [split_word hy]
    exact read_nan _ (by unfold Num at h; simp only [rg]; omega) (by simp only [rg]; omega)
  unfold Format.order
  rw [h2]
  cases double.read x <;> rfl
/-- Two words that are no NaN. -/
theorem order_num {x y : Nat} (hx : x < 18446744073709551616) (hy : y < 18446744073709551616) (nx : Num x) (ny : Num y) : double.order x y = some (compare (sv (sg x) (rg x)) (sv (sg y) (rg y))) := by
  conv => lhs; rw [split_word hx, split_word hy]
  exact order_le _ _ nx ny
theorem order_self {x : Nat} (hx : x < 18446744073709551616) (nx : Num x) : double.order x x = some .eq := by
  rw [order_num hx hx nx nx]; simp
/-- a != a -/
theorem ne_self {x : Nat} (hx : x < 18446744073709551616) : (double.order x x != some .eq) = decide (¬ Num x) := by
  by_cases h : Num x
  · rw [order_self hx h]; simp [h]
  · rw [order_nan_l x hx h]; simp [h]
theorem rank_lt {x y : Nat} (hx : x < 18446744073709551616) (hy : y < 18446744073709551616) (h : sv (sg x) (rg x) < sv (sg y) (rg y)) :
    (9223372036854775808 ≤ x ∧ 9223372036854775808 ≤ y ∧ y < x) ∨ (9223372036854775808 ≤ x ∧ y < 9223372036854775808) ∨ (x < y ∧ y < 9223372036854775808) := by
  unfold sv at h
  by_cases h1 : 9223372036854775808 ≤ x <;> by_cases h2 : 9223372036854775808 ≤ y
  · simp only [sg, h1, h2, decide_true, if_true] at h
    have : vv (rg y) < vv (rg x) := by omega
    have := vv_lt.1 this
    simp only [rg] at this
    omega
  · omega
  · simp only [sg, h1, h2, decide_true, decide_false, if_true, Bool.false_eq_true, if_false] at h
    omega
  · simp only [sg, h1, h2, decide_false, Bool.false_eq_true, if_false] at h
    have : vv (rg x) < vv (rg y) := by omega
    have := vv_lt.1 this
    simp only [rg] at this
    omega
/-- Equal by size: the same word, or both noughts. -/
theorem rank_eq {x y : Nat} (hx : x < 18446744073709551616) (hy : y < 18446744073709551616) (h : sv (sg x) (rg x) = sv (sg y) (rg y)) : x = y ∨ (rg x = 0 ∧ rg y = 0) := by
  unfold sv at h
  by_cases h1 : 9223372036854775808 ≤ x <;> by_cases h2 : 9223372036854775808 ≤ y
  · simp only [sg, h1, h2, decide_true, if_true] at h
    have : vv (rg x) = vv (rg y) := by omega
    have := vv_inj this
    simp only [rg] at this
    omega
  · simp only [sg, h1, h2, decide_true, decide_false, if_true, Bool.false_eq_true, if_false] at h
    right
    have a1 : vv (rg x) = vv 0 := by rw [vv_zero]; omega
    have a2 : vv (rg y) = vv 0 := by rw [vv_zero]; omega
    exact ⟨vv_inj a1, vv_inj a2⟩
  · simp only [sg, h1, h2, decide_true, decide_false, if_true, Bool.false_eq_true, if_false] at h
    right
    have a1 : vv (rg x) = vv 0 := by rw [vv_zero]; omega
    have a2 : vv (rg y) = vv 0 := by rw [vv_zero]; omega
    exact ⟨vv_inj a1, vv_inj a2⟩
  · simp only [sg, h1, h2, decide_false, Bool.false_eq_true, if_false] at h
    have : vv (rg x) = vv (rg y) := by omega
    have := vv_inj this
    simp only [rg] at this
    omega
/-- The bits with one NaN. -/
def fb (x : Nat) : Nat := if Num x then x else 9221120237041090560
/-- The place of a float among all. -/
def rk (x : Nat) : Nat := if 9223372036854775808 ≤ fb x then 18446744073709551615 - fb x else fb x + 9223372036854775808
def cmpF (x y : Nat) : Int := if rk x < rk y then -1 else if rk y < rk x then 1 else 0
theorem fb_lt {x : Nat} (hx : x < 18446744073709551616) : fb x < 18446744073709551616 := by unfold fb; split <;> omega
theorem rk_num {x : Nat} (h : Num x) : rk x = if 9223372036854775808 ≤ x then 18446744073709551615 - x else x + 9223372036854775808 := by
  unfold rk fb; rw [if_pos h]
theorem rk_nan {x : Nat} (h : ¬ Num x) : rk x = 18444492273895866368 := by
  unfold rk fb; rw [if_neg h]; rfl
theorem rk_num_lt {x : Nat} (hx : x < 18446744073709551616) (h : Num x) : rk x < 18444492273895866368 := by
  rw [rk_num h]
  unfold Num at h
  split <;> omega
theorem rk_inj {x y : Nat} (hx : x < 18446744073709551616) (hy : y < 18446744073709551616) (h : rk x = rk y) : fb x = fb y := by
  have := fb_lt hx
  have := fb_lt hy
  unfold rk at h
  split at h <;> split at h <;> omega
theorem cmp_lt {x y : Nat} (hx : x < 18446744073709551616) (hy : y < 18446744073709551616) (nx : Num x) (ny : Num y) (h : sv (sg x) (rg x) < sv (sg y) (rg y)) : cmpF x y = -1 := by
  unfold cmpF
  rw [if_pos]
  have := rank_lt hx hy h
  rw [rk_num nx, rk_num ny]
  split <;> split <;> omega
theorem cmp_gt {x y : Nat} (hx : x < 18446744073709551616) (hy : y < 18446744073709551616) (nx : Num x) (ny : Num y) (h : sv (sg y) (rg y) < sv (sg x) (rg x)) : cmpF x y = 1 := by
  have h1 := rank_lt hy hx h
  have h2 : rk y < rk x := by
    rw [rk_num nx, rk_num ny]
    split <;> split <;> omega
  unfold cmpF
  rw [if_neg (by omega), if_pos h2]
theorem cmp_eq {x y : Nat} (hx : x < 18446744073709551616) (hy : y < 18446744073709551616) (nx : Num x) (ny : Num y) (h : sv (sg x) (rg x) = sv (sg y) (rg y)) :
    cmpF x y = if sg x = sg y then 0 else if sg x then -1 else 1 := by
  rcases rank_eq hx hy h with h1 | ⟨h1, h2⟩
  · subst h1; simp [cmpF]
  · unfold cmpF
    rw [rk_num nx, rk_num ny]
    simp only [sg, rg] at h1 h2 ⊢
    by_cases a : 9223372036854775808 ≤ x <;> by_cases b : 9223372036854775808 ≤ y <;> simp [a, b] <;> omega
end Go.Proofs.Ytloebnlmeplgbaa.Fl
