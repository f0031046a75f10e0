/- Whole numbers: the square of their float, and its root. Plain laws, no program. -/
import Derived.Test.YtloebnlmeplgbaaFlMono
namespace Go.Proofs.Ytloebnlmeplgbaa.Fl
open Ieee
theorem mul_whole {k : Nat} (h : k < 9007199254740992) : double.mul (F false k 0) (F false k 0) = some (F false (k * k) 0) := by
  obtain ⟨r, h1, hw, hv⟩ := rep_word (rep_int h) false
  have hl := pl_ge r
  rw [hw]
  unfold Format.mul
  rw [read_word false h1]
  simp only [Datum.product, Option.map_some, Format.write, Bool.xor_false]
  congr 1
  refine nearest_same double false (a := (pl r + 1074).toNat + (pl r + 1074).toNat) (b := (0 + 1074 : Int).toNat + (0 + 1074 : Int).toNat) (by omega) ?_
  have e : mg r * 2 ^ (pl r + 1074).toNat = k * 2 ^ (0 + 1074 : Int).toNat := hv
  rw [Nat.pow_add, Nat.pow_add, show mg r * mg r * (2 ^ (pl r + 1074).toNat * 2 ^ (pl r + 1074).toNat) = (mg r * 2 ^ (pl r + 1074).toNat) * (mg r * 2 ^ (pl r + 1074).toNat) by ac_rfl, e]
  generalize 2 ^ (0 + 1074 : Int).toNat = z
  ac_rfl
theorem sqrt_square {k : Nat} (hk : 0 < k) (h : k < 30000) : double.sqrt (F false (k * k) 0) = some (F false k 0) := by
  have hkk : k * k < 900000000 := Nat.lt_of_lt_of_le (Nat.mul_lt_mul_of_lt_of_lt h h) (by omega)
  have hpos : 0 < k * k := Nat.mul_pos hk hk
  obtain ⟨x, h1, hw, hv⟩ := rep_word (rep_int (m := k * k) (by omega)) false
  have hd : dW false x = x := by simp [dW, Format.word]
  rw [hd] at hw
  rw [hw]
  have hx0 : 0 < x := by
    rcases Nat.eq_zero_or_pos x with e | e
    · rw [e, vv_small (by omega)] at hv
      have : 0 < k * k * 2 ^ (0 + 1074 : Int).toNat := Nat.mul_pos hpos (Nat.pow_pos (by omega))
      omega
    · exact e
  obtain ⟨m1, R, e1, a1, a2, a3, a4, a5, a6, a7, a8, a9⟩ := root_form hx0 h1
  rw [a9]
  congr 1
  obtain ⟨K, hK⟩ : ∃ K : Nat, K = 1200 := ⟨_, rfl⟩
  rw [hv, Nat.mul_assoc, ← Nat.pow_add, show (0 + 1074 : Int).toNat + 126 = K by omega] at a8
  have hneg : e1 < 0 := by
    rcases Int.lt_or_le e1 0 with c | c
    · exact c
    · exfalso
      have h3 : 2 ^ K ≤ 2 ^ (e1 + 1200).toNat := Nat.pow_le_pow_right (by omega) (by omega)
      have h4 : 4503599627370496 * 2 ^ K ≤ m1 * 2 ^ (e1 + 1200).toNat := Nat.mul_le_mul a1 h3
      have h5 : k * k * 2 ^ K < 4503599627370496 * 2 ^ K := Nat.mul_lt_mul_of_pos_right (by omega) (Nat.pow_pos (by omega))
      omega
  obtain ⟨d, hd2⟩ : ∃ d : Nat, e1 = -(2 * (d : Int)) := ⟨(-(e1 / 2)).toNat, by omega⟩
  have hm : m1 = k * k * 2 ^ (d + d) := by
    have h3 : K = (d + d) + (e1 + 1200).toNat := by omega
    rw [h3, Nat.pow_add, ← Nat.mul_assoc] at a8
    have h5 := a8
    exact (Nat.eq_of_mul_eq_mul_right (Nat.pow_pos (by omega)) h5).symm
  have hR : R = k * 2 ^ (d + 27) := by
    have hn : m1 * 18014398509481984 = (k * 2 ^ (d + 27)) * (k * 2 ^ (d + 27)) := by
      rw [hm, Nat.pow_add, Nat.pow_add]
      generalize 2 ^ d = z
      rw [show (18014398509481984 : Nat) = 2 ^ 27 * 2 ^ 27 by decide]
      ac_rfl
    rw [hn] at a6 a7
    refine root_uniq a6 a7 (Nat.le_refl _) ?_
    exact Nat.mul_lt_mul_of_lt_of_lt (Nat.lt_succ_self _) (Nat.lt_succ_self _)
  have hhalf : (R + 1) / 2 = k * 2 ^ (d + 26) := by
    rw [hR, show d + 27 = (d + 26) + 1 by omega, Nat.pow_succ, ← Nat.mul_assoc]
    omega
  rw [hhalf, show e1 / 2 - 26 = 0 - ((d + 26 : Nat) : Int) by omega]
  exact nearest_up double false k 0 (d + 26)
theorem square_root {k : Nat} (h : k < 30000) : ∃ s, double.mul (F false k 0) (F false k 0) = some s ∧ double.sqrt s = some (F false k 0) := by
  refine ⟨_, mul_whole (by omega), ?_⟩
  rcases Nat.eq_zero_or_pos k with e | e
  · subst e; decide
  · exact sqrt_square e h
end Go.Proofs.Ytloebnlmeplgbaa.Fl
