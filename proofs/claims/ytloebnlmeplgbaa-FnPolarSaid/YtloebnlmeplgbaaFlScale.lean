/- Numbers m * 2 ^ p of at most 53 digits: their words, twice and half of them, their order, whole numbers. Plain laws, no program. -/
import Derived.Test.YtloebnlmeplgbaaFlMath
namespace Go.Proofs.Ytloebnlmeplgbaa.Fl
open Ieee
/-- The word nearest to m * 2 ^ p. -/
abbrev F (neg : Bool) (m : Nat) (p : Int) : Nat := double.nearest neg m p
/-- m * 2 ^ p is a number of the format. -/
def Rep (m : Nat) (p : Int) : Prop := m < 9007199254740992 ∧ -1074 ≤ p ∧ (m ≠ 0 → p + (m.log2 : Int) ≤ 1023)
theorem rep_rung {m : Nat} {p : Int} (h : Rep m p) : ∃ r, r < 9218868437227405312 ∧ vv r = m * 2 ^ (p + 1074).toNat := by
  obtain ⟨h1, h2, h3⟩ := h
  by_cases h0 : m = 0
  · subst h0
    exact ⟨0, by omega, by rw [vv_small (by omega)]; simp⟩
  have hl : m.log2 ≤ 52 := log2_lt (by omega)
  have hp := h3 h0
  have l1 := Nat.log2_self_le h0
  have l2 := Nat.lt_log2_self (n := m)
  by_cases hn : -1022 ≤ p + (m.log2 : Int)
  · -- a normal number
    obtain ⟨d, hd⟩ : ∃ d, d + m.log2 = 52 := ⟨52 - m.log2, by omega⟩
    have e1 : 2 ^ d * 2 ^ m.log2 = 4503599627370496 := by rw [← Nat.pow_add, hd]
    have e2 : 2 ^ d * 2 ^ (m.log2 + 1) = 9007199254740992 := by rw [← Nat.pow_add, show d + (m.log2 + 1) = 53 by omega]
    have g1 : 4503599627370496 ≤ 2 ^ d * m := by rw [← e1]; exact Nat.mul_le_mul_left _ l1
    have g2 : 2 ^ d * m < 9007199254740992 := by rw [← e2]; exact Nat.mul_lt_mul_of_pos_left l2 (Nat.pow_pos (by omega))
    obtain ⟨q, hq⟩ : ∃ q : Nat, (q : Int) = p - d + 1074 := ⟨(p - d + 1074).toNat, by omega⟩
    refine ⟨(q + 1) * 4503599627370496 + (2 ^ d * m - 4503599627370496), by omega, ?_⟩
    have k1 : ((q + 1) * 4503599627370496 + (2 ^ d * m - 4503599627370496)) % 4503599627370496 = 2 ^ d * m - 4503599627370496 := by
      rw [Nat.mul_comm, Nat.mul_add_mod]
      exact Nat.mod_eq_of_lt (by omega)
    have k2 : ((q + 1) * 4503599627370496 + (2 ^ d * m - 4503599627370496)) / 4503599627370496 = q + 1 := by
      rw [Nat.mul_comm, Nat.mul_add_div (by omega), Nat.div_eq_of_lt (by omega)]
    rw [vv_great (by omega), k1, k2, show 4503599627370496 + (2 ^ d * m - 4503599627370496) = 2 ^ d * m by omega, show (p + 1074).toNat = d + q by omega, Nat.pow_add, Nat.add_sub_cancel]
    ac_rfl
  · -- a small one
    refine ⟨m * 2 ^ (p + 1074).toNat, ?_, ?_⟩
    · have : m * 2 ^ (p + 1074).toNat < 2 ^ (m.log2 + 1) * 2 ^ (p + 1074).toNat := Nat.mul_lt_mul_of_pos_right l2 (Nat.pow_pos (by omega))
      rw [← Nat.pow_add] at this
      have h5 : 2 ^ (m.log2 + 1 + (p + 1074).toNat) ≤ 2 ^ 52 := Nat.pow_le_pow_right (by omega) (by omega)
      omega
    · rw [vv_small]
      have : m * 2 ^ (p + 1074).toNat < 2 ^ (m.log2 + 1) * 2 ^ (p + 1074).toNat := Nat.mul_lt_mul_of_pos_right l2 (Nat.pow_pos (by omega))
      rw [← Nat.pow_add] at this
      have h5 : 2 ^ (m.log2 + 1 + (p + 1074).toNat) ≤ 2 ^ 52 := Nat.pow_le_pow_right (by omega) (by omega)
      omega
theorem write_vv (neg : Bool) {r m : Nat} {p : Int} (hr : r < 9218868437227405312) (hp : -1074 ≤ p) (h : vv r = m * 2 ^ (p + 1074).toNat) : F neg m p = dW neg r := by
  have := pl_ge r
  refine write_same neg (a := (p + 1074).toNat) (b := (pl r + 1074).toNat) hr (by omega) ?_
  rw [← h]
  rfl
/-- The word of a number of the format, and what it stands for. -/
theorem rep_word {m : Nat} {p : Int} (h : Rep m p) (neg : Bool) : ∃ r, r < 9218868437227405312 ∧ F neg m p = dW neg r ∧ vv r = m * 2 ^ (p + 1074).toNat := by
  obtain ⟨r, h1, h2⟩ := rep_rung h
  exact ⟨r, h1, write_vv neg h1 h.2.1 h2, h2⟩
/-- Times a power of two: the exact number, rounded once. -/
theorem mul_F {m : Nat} {p : Int} (h : Rep m p) (neg : Bool) {w2 : Nat} {j : Int} (h2 : double.read w2 = .number false 4503599627370496 j) : double.mul (F neg m p) w2 = some (F neg m (p + 52 + j)) := by
  obtain ⟨r, h1, hw, hv⟩ := rep_word h neg
  have hp := h.2.1
  have hl := pl_ge r
  rw [hw]
  unfold Format.mul
  rw [read_word neg h1, h2]
  simp only [Datum.product, Option.map_some, Format.write, Bool.xor_false]
  congr 1
  refine nearest_same double neg (a := (pl r + 1074).toNat) (b := 52 + (p + 1074).toNat) (by omega) ?_
  have e : mg r * 2 ^ (pl r + 1074).toNat = m * 2 ^ (p + 1074).toNat := hv
  rw [Nat.pow_add, show (2 ^ 52 : Nat) = 4503599627370496 by decide, show m * (4503599627370496 * 2 ^ (p + 1074).toNat) = 4503599627370496 * (m * 2 ^ (p + 1074).toNat) by ac_rfl, ← e]
  ac_rfl
/-- Over a power of two. -/
theorem div_F {m : Nat} {p : Int} (h : Rep m p) (neg : Bool) {w2 : Nat} {j : Int} (h2 : double.read w2 = .number false 4503599627370496 j) : double.div (F neg m p) w2 = some (F neg m (p - 52 - j)) := by
  obtain ⟨r, h1, hw, hv⟩ := rep_word h neg
  have hp := h.2.1
  have hl := pl_ge r
  have hlog : (mg r).log2 ≤ 52 := log2_lt (by
    unfold mg
    split
    · omega
    · have := Nat.mod_lt r (show 4503599627370496 > 0 by omega)
      omega)
  rw [hw]
  unfold Format.div
  rw [read_word neg h1, h2]
  simp only [Datum.quotient, frac_eq]
  rw [if_neg (by omega), show (4503599627370496 : Nat).log2 = 52 by decide]
  simp only [Option.map_some, Format.write, Bool.xor_false]
  obtain ⟨e, he⟩ : ∃ e, 52 + 2 + 52 - (mg r).log2 = 52 + e := ⟨54 - (mg r).log2, by omega⟩
  rw [he, Nat.shiftLeft_eq, Nat.pow_add, show (2 ^ 52 : Nat) = 4503599627370496 by decide, ← Nat.mul_assoc, Nat.mul_comm (mg r) 4503599627370496, Nat.mul_assoc, Nat.mul_div_cancel_left _ (by omega), Nat.mul_mod_right]
  simp only [bne_self_eq_false, Bool.toNat_false, Nat.add_zero]
  congr 1
  refine nearest_same double neg (a := (pl r + 1074).toNat) (b := (p + 1074).toNat + (e + 1)) (by omega) ?_
  have e' : mg r * 2 ^ (pl r + 1074).toNat = m * 2 ^ (p + 1074).toNat := hv
  rw [Nat.pow_add, ← Nat.mul_assoc m, ← e', Nat.pow_succ]
  ac_rfl
theorem read_two : double.read 4611686018427387904 = .number false 4503599627370496 (-51) := by decide
theorem read_2_64 : double.read 4895412794951729152 = .number false 4503599627370496 12 := by decide
theorem twice_F {m : Nat} {p : Int} (h : Rep m p) (neg : Bool) : double.mul (F neg m p) 4611686018427387904 = some (F neg m (p + 1)) := by
  rw [mul_F h neg read_two]; congr 2; omega
theorem half_F {m : Nat} {p : Int} (h : Rep m p) (neg : Bool) : double.div (F neg m p) 4611686018427387904 = some (F neg m (p - 1)) := by
  rw [div_F h neg read_two]; congr 2; omega
theorem times64_F {m : Nat} {p : Int} (h : Rep m p) (neg : Bool) : double.mul (F neg m p) 4895412794951729152 = some (F neg m (p + 64)) := by
  rw [mul_F h neg read_2_64]; congr 2; omega
theorem over64_F {m : Nat} {p : Int} (h : Rep m p) (neg : Bool) : double.div (F neg m p) 4895412794951729152 = some (F neg m (p - 64)) := by
  rw [div_F h neg read_2_64]; congr 2; omega
/-- Two such numbers are held against each other as they are. -/
theorem order_F {m n : Nat} {p q : Int} (h : Rep m p) (k : Rep n q) (s t : Bool) :
    double.order (F s m p) (F t n q) = some (compare (if s then -((m * 2 ^ (p + 1074).toNat : Nat) : Int) else (m * 2 ^ (p + 1074).toNat : Nat)) (if t then -((n * 2 ^ (q + 1074).toNat : Nat) : Int) else (n * 2 ^ (q + 1074).toNat : Nat))) := by
  obtain ⟨r, h1, hw, hv⟩ := rep_word h s
  obtain ⟨r', k1, kw, kv⟩ := rep_word k t
  rw [hw, kw, order_word s t h1 k1, sv, sv, hv, kv]
end Go.Proofs.Ytloebnlmeplgbaa.Fl
