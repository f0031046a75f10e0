/- The root grows with its number; it is above 0. Plain laws, no program. -/
import Derived.Test.YtloebnlmeplgbaaFlMore
namespace Go.Proofs.Ytloebnlmeplgbaa.Fl
open Ieee
/-- How the root of a finite float above 0 comes about. -/
theorem root_form {x : Nat} (h0 : 0 < x) (hr : x < 9218868437227405312) : ∃ (m1 R : Nat) (e1 : Int), 4503599627370496 ≤ m1 ∧ m1 + 2 ≤ 18014398509481984 ∧ -1130 ≤ e1 ∧ e1 ≤ 971 ∧ e1 % 2 = 0 ∧
    R * R ≤ m1 * 18014398509481984 ∧ m1 * 18014398509481984 < (R + 1) * (R + 1) ∧ vv x * 2 ^ 126 = m1 * 2 ^ (e1 + 1200).toNat ∧ double.sqrt x = some (F false ((R + 1) / 2) (e1 / 2 - 26)) := by
  have hm := mg_pos h0
  have hl := mg_lt x
  have hp := pl_ge x
  have hp2 := pl_le hr
  have hlog : (mg x).log2 ≤ 52 := log2_lt (by omega)
  have l1 := Nat.log2_self_le (n := mg x) (by omega)
  have l2 := Nat.lt_log2_self (n := mg x)
  obtain ⟨c, hc⟩ : ∃ c, c + (mg x).log2 = 52 := ⟨52 - (mg x).log2, by omega⟩
  have e1 : 2 ^ c * 2 ^ (mg x).log2 = 4503599627370496 := by rw [← Nat.pow_add, hc]
  have e2 : 2 ^ c * 2 ^ ((mg x).log2 + 1) = 9007199254740992 := by rw [← Nat.pow_add, show c + ((mg x).log2 + 1) = 53 by omega]
  have g1 : 4503599627370496 ≤ mg x * 2 ^ c := by rw [← e1, Nat.mul_comm (mg x)]; exact Nat.mul_le_mul_left _ l1
  have g2 : mg x * 2 ^ c < 9007199254740992 := by rw [← e2, Nat.mul_comm (mg x)]; exact Nat.mul_lt_mul_of_pos_left l2 (Nat.pow_pos (by omega))
  have value : ∀ (d : Nat) (e : Int), d ≤ 53 → e = pl x - d → vv x * 2 ^ 126 = mg x * 2 ^ d * 2 ^ (e + 1200).toNat := by
    intro d e hd he
    unfold vv
    rw [Nat.mul_assoc, Nat.mul_assoc, ← Nat.pow_add, ← Nat.pow_add]
    congr 2
    omega
  by_cases hev : (pl x - c) % 2 = 0
  · obtain ⟨w1, w2⟩ := whole_spec (mg x * 2 ^ c * 18014398509481984)
    refine ⟨mg x * 2 ^ c, _, pl x - c, g1, by omega, by omega, by omega, hev, w1, w2, value c _ (by omega) rfl, ?_⟩
    have := sqrt_word h0 hr rfl rfl g1 (by omega) hev w1 w2
    rw [show dW false x = x by simp [dW, Format.word]] at this
    exact this
  · have g3 : mg x * 2 ^ (c + 1) = 2 * (mg x * 2 ^ c) := by rw [Nat.pow_succ]; ac_rfl
    obtain ⟨w1, w2⟩ := whole_spec (mg x * 2 ^ (c + 1) * 18014398509481984)
    refine ⟨mg x * 2 ^ (c + 1), _, pl x - (c + 1 : Nat), by omega, by omega, by omega, by omega, by omega, w1, w2, value (c + 1) _ (by omega) rfl, ?_⟩
    have := sqrt_word h0 hr rfl rfl (by omega) (by omega) (by omega) w1 w2
    rw [show dW false x = x by simp [dW, Format.word]] at this
    exact this
theorem rep_root {m1 R : Nat} {e1 : Int} (h1 : 4503599627370496 ≤ m1) (h2 : m1 + 2 ≤ 18014398509481984) (h3 : -1130 ≤ e1) (h4 : e1 ≤ 971) (hR : R * R ≤ m1 * 18014398509481984) (hR' : m1 * 18014398509481984 < (R + 1) * (R + 1)) : Rep ((R + 1) / 2) (e1 / 2 - 26) :=
  rep_upto (half_bounds h1 h2 hR hR').2 (by omega) (by omega)
/-- A root is above 0, and finite. -/
theorem root_pos {x v : Nat} (h0 : 0 < x) (hr : x < 9218868437227405312) (hv : double.sqrt x = some v) : 0 < v ∧ v < 9218868437227405312 := by
  obtain ⟨m1, R, e1, a1, a2, a3, a4, a5, a6, a7, a8, a9⟩ := root_form h0 hr
  rw [hv] at a9
  obtain ⟨r, r1, r2, r3⟩ := rep_word (rep_root a1 a2 a3 a4 a6 a7) false
  rw [← Option.some.inj a9] at r2
  have hd : dW false r = r := by simp [dW, Format.word]
  rw [hd] at r2
  rw [r2]
  refine ⟨?_, r1⟩
  rcases Nat.eq_zero_or_pos r with h | h
  · rw [h, vv_small (by omega)] at r3
    have b := (half_bounds a1 a2 a6 a7).1
    have : 0 < (R + 1) / 2 * 2 ^ (e1 / 2 - 26 + 1074).toNat := Nat.mul_pos (by omega) (Nat.pow_pos (by omega))
    omega
  · exact h
/-- It grows with its number. -/
theorem root_mono {x y u v : Nat} (h0 : 0 < x) (hxy : x < y) (hr : y < 9218868437227405312) (hu : double.sqrt x = some u) (hv : double.sqrt y = some v) : double.order v u = some .gt ∨ double.order v u = some .eq := by
  obtain ⟨m1, R, e1, a1, a2, a3, a4, a5, a6, a7, a8, a9⟩ := root_form h0 (by omega : x < 9218868437227405312)
  obtain ⟨m2, S, e2, b1, b2, b3, b4, b5, b6, b7, b8, b9⟩ := root_form (by omega : 0 < y) hr
  rw [hu] at a9
  rw [hv] at b9
  rw [Option.some.inj a9, Option.some.inj b9, order_P (rep_root b1 b2 b3 b4 b6 b7) (rep_root a1 a2 a3 a4 a6 a7)]
  have key : (R + 1) / 2 * 2 ^ (e1 / 2 - 26 + 1074).toNat ≤ (S + 1) / 2 * 2 ^ (e2 / 2 - 26 + 1074).toNat := by
    have hlt : m1 * 2 ^ (e1 + 1200).toNat < m2 * 2 ^ (e2 + 1200).toNat := by
      rw [← a8, ← b8]
      exact Nat.mul_lt_mul_of_pos_right (vv_lt.2 hxy) (Nat.pow_pos (by omega))
    have hA := half_bounds a1 a2 a6 a7
    have hB := half_bounds b1 b2 b6 b7
    have hle : e1 ≤ e2 := by
      rcases Int.lt_or_le e2 e1 with h | h
      · exfalso
        obtain ⟨d, hd⟩ : ∃ d : Nat, (e1 + 1200).toNat = (e2 + 1200).toNat + 2 + d := ⟨(e1 + 1200).toNat - (e2 + 1200).toNat - 2, by omega⟩
        rw [hd, Nat.pow_add, Nat.pow_add] at hlt
        have h3 : 0 < 2 ^ (e2 + 1200).toNat := Nat.pow_pos (by omega)
        have h4 : 0 < 2 ^ d := Nat.pow_pos (by omega)
        have h5 : m2 * 2 ^ (e2 + 1200).toNat ≤ 18014398509481984 * 2 ^ (e2 + 1200).toNat := Nat.mul_le_mul_right _ (by omega)
        have h6 : 4503599627370496 * (2 ^ (e2 + 1200).toNat * 2 ^ 2) ≤ m1 * (2 ^ (e2 + 1200).toNat * 2 ^ 2 * 2 ^ d) := Nat.mul_le_mul a1 (Nat.le_mul_of_pos_right _ h4)
        have h7 : 4503599627370496 * (2 ^ (e2 + 1200).toNat * 2 ^ 2) = 18014398509481984 * 2 ^ (e2 + 1200).toNat := by
          rw [Nat.mul_comm (2 ^ (e2 + 1200).toNat), ← Nat.mul_assoc]
        omega
      · exact h
    rcases Int.lt_or_eq_of_le hle with h | h
    · obtain ⟨d, hd⟩ : ∃ d : Nat, (e2 / 2 - 26 + 1074).toNat = (e1 / 2 - 26 + 1074).toNat + 1 + d := ⟨(e2 / 2 - 26 + 1074).toNat - (e1 / 2 - 26 + 1074).toNat - 1, by omega⟩
      rw [hd, Nat.pow_add, Nat.pow_add]
      have h4 : 0 < 2 ^ d := Nat.pow_pos (by omega)
      have h5 : (R + 1) / 2 * 2 ^ (e1 / 2 - 26 + 1074).toNat ≤ 9007199254740992 * 2 ^ (e1 / 2 - 26 + 1074).toNat := Nat.mul_le_mul_right _ (by omega)
      have h6 : 4503599627370496 * (2 ^ (e1 / 2 - 26 + 1074).toNat * 2 ^ 1) ≤ (S + 1) / 2 * (2 ^ (e1 / 2 - 26 + 1074).toNat * 2 ^ 1 * 2 ^ d) := Nat.mul_le_mul hB.1 (Nat.le_mul_of_pos_right _ h4)
      have h7 : 4503599627370496 * (2 ^ (e1 / 2 - 26 + 1074).toNat * 2 ^ 1) = 9007199254740992 * 2 ^ (e1 / 2 - 26 + 1074).toNat := by
        rw [Nat.mul_comm (2 ^ (e1 / 2 - 26 + 1074).toNat), ← Nat.mul_assoc]
      omega
    · subst h
      have hm : m1 < m2 := Nat.lt_of_mul_lt_mul_right hlt
      have hRS : R < S + 1 := by
        refine sq_lt (Nat.lt_of_le_of_lt a6 (Nat.lt_of_le_of_lt ?_ b7))
        exact Nat.mul_le_mul_right _ (by omega)
      exact Nat.mul_le_mul_right _ (by omega)
  rcases Nat.lt_or_eq_of_le key with h | h
  · left; rw [Nat.compare_eq_gt.2 h]
  · right; rw [h]; simp
end Go.Proofs.Ytloebnlmeplgbaa.Fl
