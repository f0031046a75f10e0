/- The root of m * 2^54, digit by digit. Plain laws, no program. -/
import Derived.Test.YtgidoceflkdklaaFlMore
namespace Go.Proofs.Ytgidoceflkdklaa.Fl
/-- The first j pairs of digits of m * 2^54, of 54. -/
def pre (m j : Nat) : Nat := if j ≤ 27 then m / 4 ^ (27 - j) else m * 4 ^ (j - 27)
/-- The pair behind them. -/
def two (m j : Nat) : Nat := if j ≤ 26 then m / 4 ^ (26 - j) % 4 else 0
theorem pre_zero {m : Nat} (h : m < 18014398509481984) : pre m 0 = 0 := by
  unfold pre
  rw [if_pos (by omega)]
  exact Nat.div_eq_of_lt (by rw [show (4 ^ (27 - 0) : Nat) = 18014398509481984 by decide]; exact h)
theorem pre_succ (m j : Nat) : pre m (j + 1) = 4 * pre m j + two m j := by
  unfold pre two
  by_cases h1 : j ≤ 26
  · rw [if_pos (by omega), if_pos (by omega), if_pos h1, show 27 - (j + 1) = 26 - j by omega, show 27 - j = (26 - j) + 1 by omega, Nat.pow_succ, ← Nat.div_div_eq_div_mul]
    omega
  · rw [if_neg h1, if_neg (by omega)]
    by_cases h2 : j = 27
    · subst h2; simp; omega
    · rw [if_neg (by omega), show j + 1 - 27 = (j - 27) + 1 by omega, Nat.pow_succ]
      generalize 4 ^ (j - 27) = z
      rw [show m * (z * 4) = 4 * (m * z) by ac_rfl]
      omega
theorem pre_last (m : Nat) : pre m 54 = m * 18014398509481984 := by
  unfold pre
  rw [if_neg (by omega)]
theorem pre_le {m j : Nat} (h : m < 18014398509481984) (hj : j ≤ 54) : pre m j < 18014398509481984 * 18014398509481984 := by
  have h0 : pre m j * 4 ^ (54 - j) ≤ pre m 54 := by
    obtain ⟨d, hd⟩ : ∃ d, 54 - j = d := ⟨_, rfl⟩
    rw [hd]
    have : 54 = j + d := by omega
    rw [this]
    clear hd this hj
    induction d with
    | zero => simp
    | succ d ih =>
      rw [show j + (d + 1) = (j + d) + 1 by omega, pre_succ, Nat.pow_succ]
      rw [show pre m j * (4 ^ d * 4) = 4 * (pre m j * 4 ^ d) by ac_rfl]
      omega
  have h1 : 0 < 4 ^ (54 - j) := Nat.pow_pos (by omega)
  have h2 := Nat.le_mul_of_pos_right (pre m j) h1
  rw [pre_last] at h0
  have h3 : m * 18014398509481984 < 18014398509481984 * 18014398509481984 := Nat.mul_lt_mul_of_pos_right h (by omega)
  omega
theorem two_lt (m j : Nat) : two m j < 4 := by unfold two; split <;> omega
theorem digit_no {r q p t : Nat} (h : r * r + q = p) (_hq : q ≤ 2 * r) (hn : q * 4 + t < r * 4 + 1) : (r * 2) * (r * 2) + (q * 4 + t) = 4 * p + t ∧ q * 4 + t ≤ 2 * (r * 2) := by
  refine ⟨?_, by omega⟩
  rw [← h, show r * 2 * (r * 2) = 4 * (r * r) by rw [show (4 : Nat) = 2 * 2 by decide]; ac_rfl]
  omega
theorem digit_yes {r q p t : Nat} (h : r * r + q = p) (hq : q ≤ 2 * r) (ht : t < 4) (hn : r * 4 + 1 ≤ q * 4 + t) : (r * 2 + 1) * (r * 2 + 1) + (q * 4 + t - (r * 4 + 1)) = 4 * p + t ∧ q * 4 + t - (r * 4 + 1) ≤ 2 * (r * 2 + 1) := by
  refine ⟨?_, by omega⟩
  rw [← h, show (r * 2 + 1) * (r * 2 + 1) = 4 * (r * r) + r * 4 + 1 by
    rw [Nat.add_mul, Nat.mul_add, show r * 2 * (r * 2) = 4 * (r * r) by rw [show (4 : Nat) = 2 * 2 by decide]; ac_rfl]
    omega]
  omega
theorem root_lt {r q p : Nat} (h : r * r + q = p) (hp : p < 18014398509481984 * 18014398509481984) : r < 18014398509481984 := by
  refine sq_lt (Nat.lt_of_le_of_lt ?_ hp)
  omega
theorem root_end {r q p : Nat} (h : r * r + q = p) (hq : q ≤ 2 * r) : r * r ≤ p ∧ p < (r + 1) * (r + 1) := by
  refine ⟨by omega, ?_⟩
  rw [Nat.add_mul, Nat.mul_add]
  omega
end Go.Proofs.Ytgidoceflkdklaa.Fl
