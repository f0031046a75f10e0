/- Whole numbers below 2^53 as floats and back; powers of two as bounds; the bits of a word. Plain laws, no program. -/
import Derived.Test.YtloebnlmeplgbaaFlScale
import Derived.Laws.FloatArith
namespace Go.Proofs.Ytloebnlmeplgbaa.Fl
open Ieee
theorem rep_int {m : Nat} (h : m < 9007199254740992) : Rep m 0 := ⟨h, by omega, fun _ => by have := log2_lt (m := m) (k := 52) (by omega); omega⟩
theorem zero_cut_zero (neg : Bool) (n : Nat) : Toward.zero.cut neg n 0 = n := by
  simp [Toward.cut]
/-- A whole number below 2^53 comes back. -/
theorem toInt_F {m : Nat} (h : m < 9007199254740992) : floatToIntVal .f64 (F false m 0) .i64 = some (m : Int) := by
  obtain ⟨r, hr, hw, hv⟩ := rep_word (rep_int h) false
  have hpl := pl_ge r
  rw [hw]
  unfold floatToIntVal
  have hrd : FloatKind.decode .f64 (dW false r) = .number false (mg r) (pl r) := read_word false hr
  rw [hrd]
  have e : mg r * 2 ^ (pl r + 1074).toNat = m * 2 ^ (0 + 1074 : Int).toNat := hv
  have key : Toward.zero.cut false (mg r <<< (pl r).toNat) (-(pl r)).toNat = m := by
    by_cases hp : 0 ≤ pl r
    · rw [show (-(pl r)).toNat = 0 by omega, zero_cut_zero, Nat.shiftLeft_eq]
      rw [show (pl r + 1074).toNat = (pl r).toNat + (0 + 1074 : Int).toNat by omega, Nat.pow_add, ← Nat.mul_assoc] at e
      exact Nat.eq_of_mul_eq_mul_right (Nat.pow_pos (by omega)) e
    · rw [show (pl r).toNat = 0 by omega, Nat.shiftLeft_zero]
      obtain ⟨d, hd⟩ : ∃ d : Nat, (d : Int) = -(pl r) := ⟨(-(pl r)).toNat, by omega⟩
      rw [show (-(pl r)).toNat = d by omega]
      have e2 : mg r = m * 2 ^ d := by
        have e3 : 2 ^ (0 + 1074 : Int).toNat = 2 ^ d * 2 ^ (pl r + 1074).toNat := by
          rw [← Nat.pow_add]; congr 1; omega
        rw [e3, ← Nat.mul_assoc] at e
        exact Nat.eq_of_mul_eq_mul_right (Nat.pow_pos (by omega)) e
      rw [e2]
      by_cases h0 : m = 0
      · subst h0; simp [Toward.cut]
      have hpos : 0 < 2 ^ d := Nat.pow_pos (by omega)
      have hne : m * 2 ^ d ≠ 0 := Nat.mul_ne_zero h0 (by omega)
      have hl : d ≤ (m * 2 ^ d).log2 := (Nat.le_log2 hne).2 (Nat.le_mul_of_pos_left _ (by omega))
      unfold Toward.cut
      rw [Nat.min_eq_left (by omega), Nat.shiftLeft_eq, Nat.one_mul]
      simp only [Nat.mul_div_cancel _ hpos]
      simp
  have hti : Datum.toInt .zero (.number false (mg r) (pl r)) = some (m : Int) := by
    simp only [Datum.toInt, Datum.integral, key, signed]
    simp
  rw [hti]
  have : IntKind.i64.min ≤ (m : Int) ∧ (m : Int) ≤ IntKind.i64.max := by
    constructor
    · have : IntKind.i64.min = -9223372036854775808 := by decide
      omega
    · have : IntKind.i64.max = 9223372036854775807 := by decide
      omega
  simp only [this.1, this.2, and_self, if_true]
theorem floatOfInt_F (n : Nat) : floatOfInt .f64 (n : Int) = F false n 0 := by
  unfold floatOfInt FloatKind.nearest FloatKind.encode
  rw [decide_eq_false (by omega : ¬ (n : Int) < 0), Int.natAbs_natCast]
  rfl
/-- Two numbers not below 0. -/
theorem order_P {m n : Nat} {p q : Int} (h : Rep m p) (k : Rep n q) :
    double.order (F false m p) (F false n q) = some (compare (m * 2 ^ (p + 1074).toNat) (n * 2 ^ (q + 1074).toNat)) := by
  rw [order_F h k false false]
  simp only [Bool.false_eq_true, if_false]
  congr 1
  generalize m * 2 ^ (p + 1074).toNat = x
  generalize n * 2 ^ (q + 1074).toNat = y
  rcases Nat.lt_trichotomy x y with h | h | h
  · rw [Nat.compare_eq_lt.2 h, Int.compare_eq_lt.2 (by omega)]
  · subst h; simp
  · rw [Nat.compare_eq_gt.2 h, Int.compare_eq_gt.2 (by omega)]
theorem rep_pow {q : Int} (h1 : -1074 ≤ q) (h2 : q ≤ 971) : Rep 4503599627370496 q := ⟨by omega, h1, fun _ => by
  rw [show (4503599627370496 : Nat).log2 = 52 by decide]; omega⟩
theorem lt_pow {m : Nat} {p q : Int} (h : Rep m p) (h1 : -1074 ≤ q) (h2 : q ≤ 971) (hlt : p < q) : double.order (F false m p) (F false 4503599627370496 q) = some .lt := by
  have hp := h.2.1
  have hm2 := h.1
  rw [order_P h (rep_pow h1 h2), Nat.compare_eq_lt.2]
  obtain ⟨d, hd⟩ : ∃ d : Nat, (q + 1074).toNat = (p + 1074).toNat + 1 + d := ⟨(q + 1074).toNat - (p + 1074).toNat - 1, by omega⟩
  rw [hd, Nat.pow_add, Nat.pow_add]
  have h3 : 0 < 2 ^ (p + 1074).toNat := Nat.pow_pos (by omega)
  have h4 : 0 < 2 ^ d := Nat.pow_pos (by omega)
  refine Nat.lt_of_lt_of_le (Nat.mul_lt_mul_of_pos_right hm2 h3) ?_
  refine Nat.le_trans (Nat.le_of_eq ?_) (Nat.mul_le_mul_left 4503599627370496 (Nat.le_mul_of_pos_right (2 ^ (p + 1074).toNat * 2 ^ 1) h4))
  rw [Nat.mul_comm (2 ^ (p + 1074).toNat), ← Nat.mul_assoc]
/-- A number of 53 digits is not below 2^52 * 2^q where its place is not below q. -/
theorem below_pow {m : Nat} {p q : Int} (h : Rep m p) (hm : 4503599627370496 ≤ m) (h1 : -1074 ≤ q) (h2 : q ≤ 971) (hle : q ≤ p) :
    double.order (F false m p) (F false 4503599627370496 q) = some .gt ∨ double.order (F false m p) (F false 4503599627370496 q) = some .eq := by
  have hp := h.2.1
  rw [order_P h (rep_pow h1 h2)]
  have h6 : 4503599627370496 * 2 ^ (q + 1074).toNat ≤ m * 2 ^ (p + 1074).toNat := by
    refine Nat.mul_le_mul hm (Nat.pow_le_pow_right (by omega) (by omega))
  rcases Nat.lt_or_eq_of_le h6 with h5 | h5
  · left; rw [Nat.compare_eq_gt.2 h5]
  · right; rw [h5]; simp
theorem small_below {m : Nat} {p : Int} (h : Rep m p) (hm : m < 4503599627370496) (hp : p ≤ 0) : double.order (F false m p) (F false 4503599627370496 0) = some .lt := by
  rw [order_P h (rep_pow (by omega) (by omega)), Nat.compare_eq_lt.2]
  have h3 : 0 < 2 ^ (p + 1074).toNat := Nat.pow_pos (by omega)
  have h1 := h.2.1
  exact Nat.lt_of_lt_of_le (Nat.mul_lt_mul_of_pos_right hm h3) (Nat.mul_le_mul_left _ (Nat.pow_le_pow_right (by omega) (by omega)))
theorem c116 : F false 4503599627370496 64 = 5129599975574994944 := by decide
theorem c53 : F false 4503599627370496 1 = 4845873199050653696 := by decide
theorem c52 : F false 4503599627370496 0 = 4841369599423283200 := by decide
end Go.Proofs.Ytloebnlmeplgbaa.Fl
