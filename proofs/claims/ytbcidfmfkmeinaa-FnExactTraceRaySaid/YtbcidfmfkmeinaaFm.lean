/- The root grows with its number; it is above 0. Plain laws, no program. Whole numbers: the square of their float, and its root. Plain laws, no program. Floats from 0 on within a bound: products, quotients, sums, roots; what is rounded down and then made a whole number. Plain laws, no program. Films, plainly: bounds of floats, what is left of an index, the phase of a film. No program. -/
import Derived.Test.YtbcidfmfkmeinaaFlTurn
namespace Go.Proofs.Ytbcidfmfkmeinaa.Fl
open Ieee
/-- How the root of a finite float above 0 comes about. -/
theorem root_form {x : Nat} (h0 : 0 < x) (hr : x < 9218868437227405312) : ∃ (m1 R : Nat) (e1 : Int), 4503599627370496 ≤ m1 ∧ m1 + 2 ≤ 18014398509481984 ∧ -1130 ≤ e1 ∧ e1 ≤ 971 ∧ e1 % 2 = 0 ∧
    R * R ≤ m1 * 18014398509481984 ∧ m1 * 18014398509481984 < (R + 1) * (R + 1) ∧ vv x * 2 ^ 126 = m1 * 2 ^ (e1 + 1200).toNat ∧ double.sqrt x = some (F false ((R + 1) / 2) (e1 / 2 - 26)) := by
  have hm := mg_pos h0
  have hl := mg_lt x
  have hp := pl_ge x
  have hp2 := pl_le hr
  have hlog : (mg x).log2 ≤ 52 := log2_lt (by omega)
  have l1 := Nat.log2_self_le (n := mg x) (by omega)
  have l2 := Nat.lt_log2_self (n := mg x)
  obtain ⟨c, hc⟩ : ∃ c, c + (mg x).log2 = 52 := ⟨52 - (mg x).log2, by omega⟩
  have e1 : 2 ^ c * 2 ^ (mg x).log2 = 4503599627370496 := by rw [← Nat.pow_add, hc]
  have e2 : 2 ^ c * 2 ^ ((mg x).log2 + 1) = 9007199254740992 := by rw [← Nat.pow_add, show c + ((mg x).log2 + 1) = 53 by omega]
  have g1 : 4503599627370496 ≤ mg x * 2 ^ c := by rw [← e1, Nat.mul_comm (mg x)]; exact Nat.mul_le_mul_left _ l1
  have g2 : mg x * 2 ^ c < 9007199254740992 := by rw [← e2, Nat.mul_comm (mg x)]; exact Nat.mul_lt_mul_of_pos_left l2 (Nat.pow_pos (by omega))
  have value : ∀ (d : Nat) (e : Int), d ≤ 53 → e = pl x - d → vv x * 2 ^ 126 = mg x * 2 ^ d * 2 ^ (e + 1200).toNat := by
    intro d e hd he
    unfold vv
    rw [Nat.mul_assoc, Nat.mul_assoc, ← Nat.pow_add, ← Nat.pow_add]
    congr 2
    omega
  by_cases hev : (pl x - c) % 2 = 0
  · obtain ⟨w1, w2⟩ := whole_spec (mg x * 2 ^ c * 18014398509481984)
    refine ⟨mg x * 2 ^ c, _, pl x - c, g1, by omega, by omega, by omega, hev, w1, w2, value c _ (by omega) rfl, ?_⟩
    have := sqrt_word h0 hr rfl rfl g1 (by omega) hev w1 w2
    rw [show dW false x = x by simp [dW, Format.word]] at this
    exact this
  · have g3 : mg x * 2 ^ (c + 1) = 2 * (mg x * 2 ^ c) := by rw [Nat.pow_succ]; ac_rfl
    obtain ⟨w1, w2⟩ := whole_spec (mg x * 2 ^ (c + 1) * 18014398509481984)
    refine ⟨mg x * 2 ^ (c + 1), _, pl x - (c + 1 : Nat), by omega, by omega, by omega, by omega, by omega, w1, w2, value (c + 1) _ (by omega) rfl, ?_⟩
    have := sqrt_word h0 hr rfl rfl (by omega) (by omega) (by omega) w1 w2
    rw [show dW false x = x by simp [dW, Format.word]] at this
    exact this
theorem rep_root {m1 R : Nat} {e1 : Int} (h1 : 4503599627370496 ≤ m1) (h2 : m1 + 2 ≤ 18014398509481984) (h3 : -1130 ≤ e1) (h4 : e1 ≤ 971) (hR : R * R ≤ m1 * 18014398509481984) (hR' : m1 * 18014398509481984 < (R + 1) * (R + 1)) : Rep ((R + 1) / 2) (e1 / 2 - 26) :=
  rep_upto (half_bounds h1 h2 hR hR').2 (by omega) (by omega)
/-- A root is above 0, and finite. -/
theorem root_pos {x v : Nat} (h0 : 0 < x) (hr : x < 9218868437227405312) (hv : double.sqrt x = some v) : 0 < v ∧ v < 9218868437227405312 := by
  obtain ⟨m1, R, e1, a1, a2, a3, a4, a5, a6, a7, a8, a9⟩ := root_form h0 hr
  rw [hv] at a9
  obtain ⟨r, r1, r2, r3⟩ := rep_word (rep_root a1 a2 a3 a4 a6 a7) false
  rw [← Option.some.inj a9] at r2
  have hd : dW false r = r := by simp [dW, Format.word]
  rw [hd] at r2
  rw [r2]
  refine ⟨?_, r1⟩
  rcases Nat.eq_zero_or_pos r with h | h
  · rw [h, vv_small (by omega)] at r3
    have b := (half_bounds a1 a2 a6 a7).1
    have : 0 < (R + 1) / 2 * 2 ^ (e1 / 2 - 26 + 1074).toNat := Nat.mul_pos (by omega) (Nat.pow_pos (by omega))
    omega
  · exact h
/-- It grows with its number. -/
theorem root_mono {x y u v : Nat} (h0 : 0 < x) (hxy : x < y) (hr : y < 9218868437227405312) (hu : double.sqrt x = some u) (hv : double.sqrt y = some v) : double.order v u = some .gt ∨ double.order v u = some .eq := by
  obtain ⟨m1, R, e1, a1, a2, a3, a4, a5, a6, a7, a8, a9⟩ := root_form h0 (by omega : x < 9218868437227405312)
  obtain ⟨m2, S, e2, b1, b2, b3, b4, b5, b6, b7, b8, b9⟩ := root_form (by omega : 0 < y) hr
  rw [hu] at a9
  rw [hv] at b9
  rw [Option.some.inj a9, Option.some.inj b9, order_P (rep_root b1 b2 b3 b4 b6 b7) (rep_root a1 a2 a3 a4 a6 a7)]
  have key : (R + 1) / 2 * 2 ^ (e1 / 2 - 26 + 1074).toNat ≤ (S + 1) / 2 * 2 ^ (e2 / 2 - 26 + 1074).toNat := by
    have hlt : m1 * 2 ^ (e1 + 1200).toNat < m2 * 2 ^ (e2 + 1200).toNat := by
      rw [← a8, ← b8]
      exact Nat.mul_lt_mul_of_pos_right (vv_lt.2 hxy) (Nat.pow_pos (by omega))
    have hA := half_bounds a1 a2 a6 a7
    have hB := half_bounds b1 b2 b6 b7
    have hle : e1 ≤ e2 := by
      rcases Int.lt_or_le e2 e1 with h | h
      · exfalso
        obtain ⟨d, hd⟩ : ∃ d : Nat, (e1 + 1200).toNat = (e2 + 1200).toNat + 2 + d := ⟨(e1 + 1200).toNat - (e2 + 1200).toNat - 2, by omega⟩
        rw [hd, Nat.pow_add, Nat.pow_add] at hlt
        have h3 : 0 < 2 ^ (e2 + 1200).toNat := Nat.pow_pos (by omega)
        have h4 : 0 < 2 ^ d := Nat.pow_pos (by omega)
        have h5 : m2 * 2 ^ (e2 + 1200).toNat ≤ 18014398509481984 * 2 ^ (e2 + 1200).toNat := Nat.mul_le_mul_right _ (by omega)
        have h6 : 4503599627370496 * (2 ^ (e2 + 1200).toNat * 2 ^ 2) ≤ m1 * (2 ^ (e2 + 1200).toNat * 2 ^ 2 * 2 ^ d) := Nat.mul_le_mul a1 (Nat.le_mul_of_pos_right _ h4)
        have h7 : 4503599627370496 * (2 ^ (e2 + 1200).toNat * 2 ^ 2) = 18014398509481984 * 2 ^ (e2 + 1200).toNat := by
          rw [Nat.mul_comm (2 ^ (e2 + 1200).toNat), ← Nat.mul_assoc]
        omega
      · exact h
    rcases Int.lt_or_eq_of_le hle with h | h
    · obtain ⟨d, hd⟩ : ∃ d : Nat, (e2 / 2 - 26 + 1074).toNat = (e1 / 2 - 26 + 1074).toNat + 1 + d := ⟨(e2 / 2 - 26 + 1074).toNat - (e1 / 2 - 26 + 1074).toNat - 1, by omega⟩
      rw [hd, Nat.pow_add, Nat.pow_add]
      have h4 : 0 < 2 ^ d := Nat.pow_pos (by omega)
      have h5 : (R + 1) / 2 * 2 ^ (e1 / 2 - 26 + 1074).toNat ≤ 9007199254740992 * 2 ^ (e1 / 2 - 26 + 1074).toNat := Nat.mul_le_mul_right _ (by omega)
      have h6 : 4503599627370496 * (2 ^ (e1 / 2 - 26 + 1074).toNat * 2 ^ 1) ≤ (S + 1) / 2 * (2 ^ (e1 / 2 - 26 + 1074).toNat * 2 ^ 1 * 2 ^ d) := Nat.mul_le_mul hB.1 (Nat.le_mul_of_pos_right _ h4)
      have h7 : 4503599627370496 * (2 ^ (e1 / 2 - 26 + 1074).toNat * 2 ^ 1) = 9007199254740992 * 2 ^ (e1 / 2 - 26 + 1074).toNat := by
        rw [Nat.mul_comm (2 ^ (e1 / 2 - 26 + 1074).toNat), ← Nat.mul_assoc]
      omega
    · subst h
      have hm : m1 < m2 := Nat.lt_of_mul_lt_mul_right hlt
      have hRS : R < S + 1 := by
        refine sq_lt (Nat.lt_of_le_of_lt a6 (Nat.lt_of_le_of_lt ?_ b7))
        exact Nat.mul_le_mul_right _ (by omega)
      exact Nat.mul_le_mul_right _ (by omega)
  rcases Nat.lt_or_eq_of_le key with h | h
  · left; rw [Nat.compare_eq_gt.2 h]
  · right; rw [h]; simp
end Go.Proofs.Ytbcidfmfkmeinaa.Fl
namespace Go.Proofs.Ytbcidfmfkmeinaa.Fl
open Ieee
theorem mul_whole {k : Nat} (h : k < 9007199254740992) : double.mul (F false k 0) (F false k 0) = some (F false (k * k) 0) := by
  obtain ⟨r, h1, hw, hv⟩ := rep_word (rep_int h) false
  have hl := pl_ge r
  rw [hw]
  unfold Format.mul
  rw [read_word false h1]
  simp only [Datum.product, Option.map_some, Format.write, Bool.xor_false]
  congr 1
  refine nearest_same double false (a := (pl r + 1074).toNat + (pl r + 1074).toNat) (b := (0 + 1074 : Int).toNat + (0 + 1074 : Int).toNat) (by omega) ?_
  have e : mg r * 2 ^ (pl r + 1074).toNat = k * 2 ^ (0 + 1074 : Int).toNat := hv
  rw [Nat.pow_add, Nat.pow_add, show mg r * mg r * (2 ^ (pl r + 1074).toNat * 2 ^ (pl r + 1074).toNat) = (mg r * 2 ^ (pl r + 1074).toNat) * (mg r * 2 ^ (pl r + 1074).toNat) by ac_rfl, e]
  generalize 2 ^ (0 + 1074 : Int).toNat = z
  ac_rfl
theorem sqrt_square {k : Nat} (hk : 0 < k) (h : k < 30000) : double.sqrt (F false (k * k) 0) = some (F false k 0) := by
  have hkk : k * k < 900000000 := Nat.lt_of_lt_of_le (Nat.mul_lt_mul_of_lt_of_lt h h) (by omega)
  have hpos : 0 < k * k := Nat.mul_pos hk hk
  obtain ⟨x, h1, hw, hv⟩ := rep_word (rep_int (m := k * k) (by omega)) false
  have hd : dW false x = x := by simp [dW, Format.word]
  rw [hd] at hw
  rw [hw]
  have hx0 : 0 < x := by
    rcases Nat.eq_zero_or_pos x with e | e
    · rw [e, vv_small (by omega)] at hv
      have : 0 < k * k * 2 ^ (0 + 1074 : Int).toNat := Nat.mul_pos hpos (Nat.pow_pos (by omega))
      omega
    · exact e
  obtain ⟨m1, R, e1, a1, a2, a3, a4, a5, a6, a7, a8, a9⟩ := root_form hx0 h1
  rw [a9]
  congr 1
  obtain ⟨K, hK⟩ : ∃ K : Nat, K = 1200 := ⟨_, rfl⟩
  rw [hv, Nat.mul_assoc, ← Nat.pow_add, show (0 + 1074 : Int).toNat + 126 = K by omega] at a8
  have hneg : e1 < 0 := by
    rcases Int.lt_or_le e1 0 with c | c
    · exact c
    · exfalso
      have h3 : 2 ^ K ≤ 2 ^ (e1 + 1200).toNat := Nat.pow_le_pow_right (by omega) (by omega)
      have h4 : 4503599627370496 * 2 ^ K ≤ m1 * 2 ^ (e1 + 1200).toNat := Nat.mul_le_mul a1 h3
      have h5 : k * k * 2 ^ K < 4503599627370496 * 2 ^ K := Nat.mul_lt_mul_of_pos_right (by omega) (Nat.pow_pos (by omega))
      omega
  obtain ⟨d, hd2⟩ : ∃ d : Nat, e1 = -(2 * (d : Int)) := ⟨(-(e1 / 2)).toNat, by omega⟩
  have hm : m1 = k * k * 2 ^ (d + d) := by
    have h3 : K = (d + d) + (e1 + 1200).toNat := by omega
    rw [h3, Nat.pow_add, ← Nat.mul_assoc] at a8
    have h5 := a8
    exact (Nat.eq_of_mul_eq_mul_right (Nat.pow_pos (by omega)) h5).symm
  have hR : R = k * 2 ^ (d + 27) := by
    have hn : m1 * 18014398509481984 = (k * 2 ^ (d + 27)) * (k * 2 ^ (d + 27)) := by
      rw [hm, Nat.pow_add, Nat.pow_add]
      generalize 2 ^ d = z
      rw [show (18014398509481984 : Nat) = 2 ^ 27 * 2 ^ 27 by decide]
      ac_rfl
    rw [hn] at a6 a7
    refine root_uniq a6 a7 (Nat.le_refl _) ?_
    exact Nat.mul_lt_mul_of_lt_of_lt (Nat.lt_succ_self _) (Nat.lt_succ_self _)
  have hhalf : (R + 1) / 2 = k * 2 ^ (d + 26) := by
    rw [hR, show d + 27 = (d + 26) + 1 by omega, Nat.pow_succ, ← Nat.mul_assoc]
    omega
  rw [hhalf, show e1 / 2 - 26 = 0 - ((d + 26 : Nat) : Int) by omega]
  exact nearest_up double false k 0 (d + 26)
theorem square_root {k : Nat} (h : k < 30000) : ∃ s, double.mul (F false k 0) (F false k 0) = some s ∧ double.sqrt s = some (F false k 0) := by
  refine ⟨_, mul_whole (by omega), ?_⟩
  rcases Nat.eq_zero_or_pos k with e | e
  · subst e; decide
  · exact sqrt_square e h
end Go.Proofs.Ytbcidfmfkmeinaa.Fl
namespace Go.Proofs.Ytbcidfmfkmeinaa.Fl
open Ieee
set_option linter.unusedSimpArgs false
/-- A finite float from 0 on, below 2 to the k. -/
structure Pos (x k : Nat) : Prop where
  bd : Bd x k
  sn : sg x = false
theorem Pos.num {x k : Nat} (h : Pos x k) (hk : k ≤ 1000) : Num x := h.bd.num hk
theorem Pos.lt {x k : Nat} (h : Pos x k) : x < 18446744073709551616 := h.bd.1
theorem Pos.mono {x k l : Nat} (h : Pos x k) (hk : k ≤ l) : Pos x l := ⟨h.bd.mono hk, h.sn⟩
theorem cl_of_num {x : Nat} (h : Num x) : cl x = some x := by unfold cl; rw [if_pos h]
theorem Pos.cl {x k : Nat} (h : Pos x k) (hk : k ≤ 1000) : Fl.cl x = some x := cl_of_num (h.num hk)
theorem Pos.mul {x y i j : Nat} (hx : Pos x i) (hy : Pos y j) (hi : i + j ≤ 900) (h1 : 1 ≤ i + j) : ∃ z, floatBits .mul .f64 x y = some z ∧ Pos z (i + j + 1) := by
  obtain ⟨z, e, b⟩ := mul_bd hx.bd hy.bd hi h1
  refine ⟨z, e, b, ?_⟩
  rw [mul_fin hx.bd.1 hy.bd.1 (hx.bd.fin (by omega)) (hy.bd.fin (by omega)), hx.sn, hy.sn] at e
  rw [← Option.some.inj e]
  exact dW_sg (by have := rungOf_le (mg (rg x) * mg (rg y)) (pl (rg x) + pl (rg y)); omega)
theorem Pos.add {x y k : Nat} (hx : Pos x k) (hy : Pos y k) (hk : k ≤ 900) : ∃ z, floatBits .add .f64 x y = some z ∧ Pos z (k + 2) := by
  obtain ⟨z, e, b⟩ := add_bd hx.bd hy.bd hk
  refine ⟨z, e, b, ?_⟩
  rw [add_fin hx.bd.1 hy.bd.1 (hx.bd.fin (by omega)) (hy.bd.fin (by omega)), hx.sn, hy.sn] at e
  rw [← Option.some.inj e]
  unfold sumW
  have h0 : ¬ tot false (rg x) false (rg y) < 0 := by
    unfold tot signed
    rw [if_neg (by simp), if_neg (by simp)]
    exact Int.not_lt.2 (Int.add_nonneg (Int.natCast_nonneg _) (Int.natCast_nonneg _))
  rw [dW_sg (by have := rungOf_le (tot false (rg x) false (rg y)).natAbs (min (pl (rg x)) (pl (rg y))); omega)]
  simp [h0]
/-- The quotient of a finite float by one that is not below 1. -/
theorem div_fin {x y : Nat} (hx : x < 18446744073709551616) (hy : y < 18446744073709551616) (fx : rg x < 9218868437227405312) (fy : rg y < 9218868437227405312) (h0 : mg (rg y) ≠ 0) :
    floatBits .quo .f64 x y = some (dW (sg x ^^ sg y) (rungOf (2 * ((mg (rg x) <<< (54 + (mg (rg y)).log2 - (mg (rg x)).log2)) / mg (rg y)) + ((mg (rg x) <<< (54 + (mg (rg y)).log2 - (mg (rg x)).log2)) % mg (rg y) != 0).toNat) (pl (rg x) - pl (rg y) - (54 + (mg (rg y)).log2 - (mg (rg x)).log2 : Nat) - 1))) := by
  show double.div x y = _
  unfold Format.div
  rw [read_fin hx fx, read_fin hy fy]
  simp only [Datum.quotient, h0, if_false, Option.map_some, Format.write, frac_eq]
  rw [← nearest_rung]
theorem one_le {y : Nat} (h : 4607182418800017408 ≤ rg y) : mg (rg y) ≠ 0 ∧ 0 ≤ pl (rg y) + ((mg (rg y)).log2 : Int) := by
  have e1 : ¬ rg y < 4503599627370496 := by omega
  have e2 : 4503599627370496 ≤ mg (rg y) := by unfold mg; rw [if_neg e1]; omega
  have e3 : 52 ≤ (mg (rg y)).log2 := (Nat.le_log2 (by omega)).2 e2
  refine ⟨by omega, ?_⟩
  unfold pl
  rw [if_neg e1]
  have : 1023 ≤ rg y / 4503599627370496 := by rw [Nat.le_div_iff_mul_le (by omega)]; omega
  omega
theorem quo_bound {m n i : Nat} (hn : n ≠ 0) (hm : m ≠ 0) (hi : n.log2 ≤ m.log2 + i) : (2 * ((m <<< i) / n) + ((m <<< i) % n != 0).toNat) = 0 ∨ (2 * ((m <<< i) / n) + ((m <<< i) % n != 0).toNat).log2 + n.log2 ≤ m.log2 + i + 1 := by
  by_cases h : (2 * ((m <<< i) / n) + ((m <<< i) % n != 0).toNat) = 0
  · exact Or.inl h
  right
  have a1 : m <<< i < 2 ^ (m.log2 + i + 1) := by
    rw [Nat.shiftLeft_eq, show m.log2 + i + 1 = (m.log2 + 1) + i by omega, Nat.pow_add]
    exact Nat.mul_lt_mul_of_pos_right Nat.lt_log2_self (Nat.pow_pos (by omega))
  have a2 : (m <<< i) / n < 2 ^ (m.log2 + i + 1 - n.log2) := by
    rw [Nat.div_lt_iff_lt_mul (by omega)]
    refine Nat.lt_of_lt_of_le a1 ?_
    have : 2 ^ (m.log2 + i + 1) = 2 ^ (m.log2 + i + 1 - n.log2) * 2 ^ n.log2 := by rw [← Nat.pow_add]; congr 1; omega
    rw [this]
    exact Nat.mul_le_mul_left _ (Nat.log2_self_le hn)
  have a3 : ((m <<< i) % n != 0).toNat ≤ 1 := Bool.toNat_le _
  have a4 : 2 * ((m <<< i) / n) + ((m <<< i) % n != 0).toNat < 2 ^ (m.log2 + i + 1 - n.log2 + 1) := by
    rw [Nat.pow_succ]; omega
  have a5 := Nat.log2_lt h |>.2 a4
  omega
theorem Pos.quo {x y i j : Nat} (hx : Pos x i) (hy : Pos y j) (h1 : 4607182418800017408 ≤ rg y) (hi : i ≤ 900) (hi1 : 1 ≤ i) (hj : j ≤ 900) : ∃ z, floatBits .quo .f64 x y = some z ∧ Pos z (i + 1) := by
  obtain ⟨n0, np⟩ := one_le h1
  refine ⟨_, div_fin hx.bd.1 hy.bd.1 (hx.bd.fin (by omega)) (hy.bd.fin (by omega)) n0, ?_, ?_⟩
  · refine (bd_word (K := i - 1) ?_ (by omega)).mono (by omega)
    by_cases hm : mg (rg x) = 0
    · left; rw [hm]; simp
    · rcases quo_bound (i := 54 + (mg (rg y)).log2 - (mg (rg x)).log2) n0 hm (by omega) with h | h
      · exact Or.inl h
      · right
        rcases hx.bd.place with a | a
        · omega
        · exact absurd a hm
  · rw [hx.sn, hy.sn]
    exact dW_sg (by have := rungOf_le (2 * ((mg (rg x) <<< (54 + (mg (rg y)).log2 - (mg (rg x)).log2)) / mg (rg y)) + ((mg (rg x) <<< (54 + (mg (rg y)).log2 - (mg (rg x)).log2)) % mg (rg y) != 0).toNat) (pl (rg x) - pl (rg y) - (54 + (mg (rg y)).log2 - (mg (rg x)).log2 : Nat) - 1); omega)
/-- A whole number as a float. -/
theorem pos_int {n K : Nat} (h : n < 2 ^ (K + 1)) (hK : K ≤ 900) : Pos (F false n 0) (K + 2) := by
  rw [nearest_rung]
  refine ⟨bd_word ?_ hK, dW_sg (by have := rungOf_le n 0; omega)⟩
  by_cases h0 : n = 0
  · exact Or.inl h0
  · right
    have := Nat.log2_lt h0 |>.2 h
    omega
theorem vv_one {e : Nat} (he : e = 1022) : vv 4607182418800017408 = 4503599627370496 * 2 ^ e := by
  refine (vv_great (by omega)).trans ?_
  have h1 : 4607182418800017408 / 4503599627370496 - 1 = e := by omega
  have h2 : 4607182418800017408 % 4503599627370496 = 0 := by omega
  rw [h1, h2]
theorem int_one_le {n : Nat} (h0 : 0 < n) (h : n < 9007199254740992) : 4607182418800017408 ≤ rg (F false n 0) := by
  obtain ⟨r, hr, hw, hv⟩ := rep_word (rep_int h) false
  rw [hw, dW_rg (by omega)]
  rcases Nat.lt_or_ge r 4607182418800017408 with hlt | hge
  · exfalso
    have h1 := vv_lt.2 hlt
    obtain ⟨e, he⟩ : ∃ e, e = 1022 := ⟨_, rfl⟩
    rw [hv, vv_one he, show (0 + 1074 : Int).toNat = 52 + e by omega, Nat.pow_add] at h1
    generalize 2 ^ e = A at h1
    have h2 : 2 ^ 52 * A ≤ n * (2 ^ 52 * A) := Nat.le_mul_of_pos_left _ h0
    have h3 : (2 : Nat) ^ 52 = 4503599627370496 := by decide
    rw [h3] at h1 h2
    omega
  · exact hge
/-- The root of a float above 0 that is below 2 to the 13. -/
theorem Pos.root {x : Nat} (hx : Pos x 13) (h0 : rg x ≠ 0) : ∃ v, double.sqrt x = some v ∧ Pos v 8 ∧ rg v ≠ 0 := by
  have hrx : rg x = x := by
    have := hx.sn; have h1 := hx.bd.1
    simp only [sg, decide_eq_false_iff_not] at this
    simp only [rg]; omega
  have hb := hx.bd.2
  rw [hrx] at hb h0
  have hf : x < 9218868437227405312 := by omega
  obtain ⟨m1, R, e1, a1, a2, a3, a4, a5, a6, a7, a8, a9⟩ := root_form (by omega : 0 < x) hf
  refine ⟨_, a9, ?_⟩
  have p := root_pos (by omega : 0 < x) hf a9
  have sq : double.sqrt 4670232813583204352 = some 4638707616191610880 := by
    have h1 : F false (128 * 128) 0 = 4670232813583204352 := by decide
    have h2 : F false 128 0 = 4638707616191610880 := by decide
    rw [← h1, ← h2]
    exact sqrt_square (by omega) (by omega)
  have m := root_mono (by omega : 0 < x) (by omega : x < 4670232813583204352) (by omega) a9 sq
  generalize F false ((R + 1) / 2) (e1 / 2 - 26) = v at p m a9 ⊢
  have sv0 : sg v = false := by simp only [sg, decide_eq_false_iff_not]; omega
  have rv : rg v = v := by simp only [rg]; omega
  refine ⟨⟨⟨by omega, ?_⟩, sv0⟩, by omega⟩
  rw [order_num (by omega) (by omega) (by decide) (by unfold Num; omega), sv0, rv, show sg 4638707616191610880 = false by decide, show rg 4638707616191610880 = 4638707616191610880 by decide] at m
  rw [rv]
  have : ¬ 4638707616191610880 < v := by
    intro h
    have h1 := vv_lt.2 h
    have h2 : compare (sv false 4638707616191610880) (sv false v) = .lt := Int.compare_eq_lt.2 (by simp only [sv]; simp; omega)
    rw [h2] at m
    simp at m
  omega
theorem down_zero {m d : Nat} : Toward.down.cut false m d = Toward.zero.cut false m d := by
  unfold Toward.cut; simp
/-- Rounded down, and then made a whole number, is made a whole number. -/
theorem floor_int {x : Nat} (h : Pos x 60) : ∃ (z : Nat) (n : Int), FloatKind.f64.encode ((FloatKind.f64.decode x).integral .down) = z ∧ floatToIntVal .f64 z .i64 = some n ∧ floatToIntVal .f64 x .i64 = some n := by
  have hf : rg x < 9218868437227405312 := h.bd.fin (by omega)
  have hd : FloatKind.decode .f64 x = .number false (mg (rg x)) (pl (rg x)) := by
    have := read_fin h.bd.1 hf
    rw [h.sn] at this
    exact this
  have hp := pl_ge (rg x)
  have hm := mg_lt (rg x)
  have sgn : ∀ M, M < 2 ^ 60 → FloatKind.decode .f64 x = .number false (mg (rg x)) (pl (rg x)) → Toward.zero.cut false (mg (rg x) <<< (pl (rg x)).toNat) (-(pl (rg x))).toNat = M → floatToIntVal .f64 x .i64 = some (M : Int) := by
    intro M hM hd hc
    unfold floatToIntVal
    rw [hd]
    simp only [Datum.toInt, Datum.integral, hc]
    have e : signed false M 0 = (M : Int) := by simp [signed]
    rw [e]
    have h1 : (M : Int) < 1152921504606846976 := by
      have : (2 : Nat) ^ 60 = 1152921504606846976 := by decide
      omega
    have l1 : IntKind.i64.min = -9223372036854775808 := by decide
    have l2 : IntKind.i64.max = 9223372036854775807 := by decide
    rw [l1, l2]
    have hb : (-9223372036854775808 : Int) ≤ (M : Int) ∧ (M : Int) ≤ 9223372036854775807 := by omega
    simp only [hb, if_true]
    simp
  by_cases hpl : 0 ≤ pl (rg x)
  · have hc : Toward.zero.cut false (mg (rg x) <<< (pl (rg x)).toNat) (-(pl (rg x))).toNat = mg (rg x) * 2 ^ (pl (rg x)).toNat := by
      rw [show (-(pl (rg x))).toNat = 0 by omega, zero_cut_zero, Nat.shiftLeft_eq]
    have hM : mg (rg x) * 2 ^ (pl (rg x)).toNat < 2 ^ 60 := by
      have := h.bd.size (b := 0) hpl (by omega)
      simpa using this
    have hz : FloatKind.f64.encode ((FloatKind.f64.decode x).integral .down) = x := by
      rw [hd]
      simp only [Datum.integral, down_zero, hc]
      show double.nearest false (mg (rg x) * 2 ^ (pl (rg x)).toNat) 0 = x
      have e1 := nearest_up double false (mg (rg x)) (pl (rg x)) (pl (rg x)).toNat
      rw [show pl (rg x) - (pl (rg x)).toNat = 0 by omega] at e1
      rw [e1, write_word false hf, dW_false]
      have := split_word h.bd.1
      rw [h.sn, dW_false] at this
      exact this.symm
    exact ⟨x, _, hz, sgn _ hM hd hc, sgn _ hM hd hc⟩
  · obtain ⟨M, hc⟩ : ∃ M, Toward.zero.cut false (mg (rg x) <<< (pl (rg x)).toNat) (-(pl (rg x))).toNat = M := ⟨_, rfl⟩
    have hM : M < 9007199254740992 := by
      rw [← hc, show (pl (rg x)).toNat = 0 by omega, Nat.shiftLeft_zero]
      unfold Toward.cut
      simp
      exact Nat.lt_of_le_of_lt (Nat.div_le_self _ _) hm
    have hz : FloatKind.f64.encode ((FloatKind.f64.decode x).integral .down) = F false M 0 := by
      rw [hd]
      simp only [Datum.integral, down_zero, hc]
      rfl
    exact ⟨_, _, hz, toInt_F hM, sgn _ (by have : (2 : Nat) ^ 60 = 1152921504606846976 := by decide
                                           omega) hd hc⟩
/-- In classes. -/
def PC (o : Option Nat) (k : Nat) : Prop := ∃ x, o = some x ∧ Pos x k
theorem PC.mono {o : Option Nat} {k l : Nat} (h : PC o k) (hk : k ≤ l) : PC o l := by obtain ⟨x, e, p⟩ := h; exact ⟨x, e, p.mono hk⟩
theorem PC.of {x k : Nat} (h : Pos x k) (hk : k ≤ 1000) : PC (Fl.cl x) k := ⟨x, h.cl hk, h⟩
theorem PC.mul {a b : Option Nat} {i j : Nat} (ha : PC a i) (hb : PC b j) (hi : i + j ≤ 900) (h1 : 1 ≤ i + j) : PC (opC .mul a b) (i + j + 1) := by
  obtain ⟨x, rfl, px⟩ := ha
  obtain ⟨y, rfl, py⟩ := hb
  obtain ⟨z, e, pz⟩ := px.mul py hi h1
  exact ⟨z, by simp only [opC, Option.bind_some, e]; exact pz.cl (by omega), pz⟩
theorem PC.add {a b : Option Nat} {k : Nat} (ha : PC a k) (hb : PC b k) (hk : k ≤ 900) : PC (opC .add a b) (k + 2) := by
  obtain ⟨x, rfl, px⟩ := ha
  obtain ⟨y, rfl, py⟩ := hb
  obtain ⟨z, e, pz⟩ := px.add py hk
  exact ⟨z, by simp only [opC, Option.bind_some, e]; exact pz.cl (by omega), pz⟩
theorem PC.quo {a b : Option Nat} {i j : Nat} (ha : PC a i) (hb : ∃ y, b = some y ∧ Pos y j ∧ 4607182418800017408 ≤ rg y) (hi : i ≤ 900) (hi1 : 1 ≤ i) (hj : j ≤ 900) : PC (opC .quo a b) (i + 1) := by
  obtain ⟨x, rfl, px⟩ := ha
  obtain ⟨y, rfl, py, hy⟩ := hb
  obtain ⟨z, e, pz⟩ := px.quo py hy hi hi1 hj
  exact ⟨z, by simp only [opC, Option.bind_some, e]; exact pz.cl (by omega), pz⟩
end Go.Proofs.Ytbcidfmfkmeinaa.Fl
namespace Go.Proofs.Ytbcidfmfkmeinaa.Fl
open Ieee
set_option linter.unusedSimpArgs false
def geB (x y : Nat) : Bool := FloatKind.f64.format.order x y == some .gt || FloatKind.f64.format.order x y == some .eq
def leB (x y : Nat) : Bool := FloatKind.f64.format.order x y == some .lt || FloatKind.f64.format.order x y == some .eq
def gtB (x y : Nat) : Bool := FloatKind.f64.format.order x y == some .gt
def ltB (x y : Nat) : Bool := FloatKind.f64.format.order x y == some .lt
theorem order_some {x y : Nat} (hx : x < 18446744073709551616) (hy : y < 18446744073709551616) {c : Ordering} (h : FloatKind.f64.format.order x y = some c) : Num x ∧ Num y ∧ compare (sv (sg x) (rg x)) (sv (sg y) (rg y)) = c := by
  have h' : double.order x y = some c := h
  by_cases nx : Num x
  · by_cases ny : Num y
    · rw [order_num hx hy nx ny] at h'
      exact ⟨nx, ny, Option.some.inj h'⟩
    · rw [order_nan_r x hy ny] at h'; simp at h'
  · rw [order_nan_l y hx nx] at h'; simp at h'
theorem geB_of {x y : Nat} (hx : x < 18446744073709551616) (hy : y < 18446744073709551616) (h : geB x y = true) : Num x ∧ sv (sg y) (rg y) ≤ sv (sg x) (rg x) := by
  simp only [geB, Bool.or_eq_true, beq_iff_eq] at h
  rcases h with h | h
  · obtain ⟨a, _, c⟩ := order_some hx hy h
    exact ⟨a, by have := Int.compare_eq_gt.1 c; omega⟩
  · obtain ⟨a, _, c⟩ := order_some hx hy h
    exact ⟨a, by have := Int.compare_eq_eq.1 c; omega⟩
theorem leB_of {x y : Nat} (hx : x < 18446744073709551616) (hy : y < 18446744073709551616) (h : leB x y = true) : Num x ∧ sv (sg x) (rg x) ≤ sv (sg y) (rg y) := by
  simp only [leB, Bool.or_eq_true, beq_iff_eq] at h
  rcases h with h | h
  · obtain ⟨a, _, c⟩ := order_some hx hy h
    exact ⟨a, by have := Int.compare_eq_lt.1 c; omega⟩
  · obtain ⟨a, _, c⟩ := order_some hx hy h
    exact ⟨a, by have := Int.compare_eq_eq.1 c; omega⟩
theorem gtB_of {x y : Nat} (hx : x < 18446744073709551616) (hy : y < 18446744073709551616) (h : gtB x y = true) : Num x ∧ sv (sg y) (rg y) < sv (sg x) (rg x) := by
  simp only [gtB, beq_iff_eq] at h
  obtain ⟨a, _, c⟩ := order_some hx hy h
  exact ⟨a, Int.compare_eq_gt.1 c⟩
theorem ltB_of {x y : Nat} (hx : x < 18446744073709551616) (hy : y < 18446744073709551616) (h : ltB x y = true) : Num x ∧ sv (sg x) (rg x) < sv (sg y) (rg y) := by
  simp only [ltB, beq_iff_eq] at h
  obtain ⟨a, _, c⟩ := order_some hx hy h
  exact ⟨a, Int.compare_eq_lt.1 c⟩
/-- From 1 to 10. -/
def medB (x : Nat) : Bool := geB x 4607182418800017408 && leB x 4621819117588971520
def keepB (x : Nat) : Bool := gtB x 0 && leB x 4607182418800017408
def sideB (x : Nat) : Bool := geB x 0 && ltB x 4607182418800017408
theorem sv_pos {s : Bool} {r : Nat} (h : 0 < sv s r) : s = false ∧ 0 < vv r := by
  cases s
  · exact ⟨rfl, by simp only [sv] at h; simp at h; exact h⟩
  · simp only [sv, if_true] at h; omega
theorem med_pos {x : Nat} (hx : x < 18446744073709551616) (h : medB x = true) : Pos x 4 := by
  simp only [medB, Bool.and_eq_true] at h
  obtain ⟨_, h1⟩ := geB_of hx (by omega) h.1
  obtain ⟨_, h2⟩ := leB_of hx (by omega) h.2
  rw [show sg 4607182418800017408 = false by decide, show rg 4607182418800017408 = 4607182418800017408 by decide] at h1
  rw [show sg 4621819117588971520 = false by decide, show rg 4621819117588971520 = 4621819117588971520 by decide] at h2
  have h3 : 0 < vv 4607182418800017408 := vv_pos (by omega)
  have e1 : sv false 4607182418800017408 = (vv 4607182418800017408 : Int) := by simp [sv]
  have e2 : sv false 4621819117588971520 = (vv 4621819117588971520 : Int) := by simp [sv]
  rw [e1] at h1
  rw [e2] at h2
  obtain ⟨s0, _⟩ := sv_pos (s := sg x) (r := rg x) (by omega)
  rw [s0] at h2
  have e3 : sv false (rg x) = (vv (rg x) : Int) := by simp [sv]
  rw [e3] at h2
  refine ⟨⟨hx, ?_⟩, s0⟩
  have : ¬ 4621819117588971520 < rg x := fun h => by have := vv_lt.2 h; omega
  omega
theorem side_bd {x : Nat} (hx : x < 18446744073709551616) (h : sideB x = true) : Bd x 0 := by
  simp only [sideB, Bool.and_eq_true] at h
  obtain ⟨_, h1⟩ := geB_of hx (by omega) h.1
  obtain ⟨_, h2⟩ := ltB_of hx (by omega) h.2
  rw [show sg 0 = false by decide, show rg 0 = 0 by decide, show sv false 0 = 0 by simp [sv, vv_zero]] at h1
  rw [show sg 4607182418800017408 = false by decide, show rg 4607182418800017408 = 4607182418800017408 by decide] at h2
  have e1 : sv false 4607182418800017408 = (vv 4607182418800017408 : Int) := by simp [sv]
  rw [e1] at h2
  refine ⟨hx, ?_⟩
  have h3 : vv (rg x) < vv 4607182418800017408 := by
    cases hs : sg x
    · rw [hs] at h2
      have e3 : sv false (rg x) = (vv (rg x) : Int) := by simp [sv]
      rw [e3] at h2
      omega
    · rw [hs] at h1 h2
      have e3 : sv true (rg x) = -(vv (rg x) : Int) := by simp [sv]
      rw [e3] at h1 h2
      have : 0 < vv 4607182418800017408 := vv_pos (by omega)
      omega
  have := vv_lt.1 h3
  omega
theorem opC_bd {op : BinOp} {x y : Nat} {z k : Nat} (nx : Num x) (ny : Num y) (e : floatBits op .f64 x y = some z) (hz : Bd z k) (hk : k ≤ 1000) : opC op (cl x) (cl y) = some z := by
  simp only [opC, cl_of_num nx, cl_of_num ny, Option.bind_some, e]
  exact cl_of_num (hz.num hk)
/-- What is left of an index's square. -/
def leftC (i s n : Option Nat) : Option Nat := opC .sub (opC .mul n n) (opC .mul (opC .mul i s) (opC .mul i s))
theorem left_bd {i s n : Nat} (hi : Pos i 4) (hs : Bd s 0) (hn : Pos n 4) : ∃ l, leftC (cl i) (cl s) (cl n) = some l ∧ Bd l 13 := by
  obtain ⟨a, ea, ba⟩ := mul_bd hi.bd hs (by omega) (by omega)
  obtain ⟨b, eb, bb⟩ := mul_bd ba ba (by omega) (by omega)
  obtain ⟨c, ec, bc⟩ := mul_bd hn.bd hn.bd (by omega) (by omega)
  obtain ⟨l, el, bl⟩ := sub_bd (bc.mono (show 4 + 4 + 1 ≤ 11 by omega)) (bb.mono (show 4 + 0 + 1 + (4 + 0 + 1) + 1 ≤ 11 by omega)) (by omega)
  refine ⟨l, ?_, bl⟩
  unfold leftC
  rw [opC_bd (hi.num (by omega)) (hs.num (by omega)) ea ba (by omega), ← cl_of_num (ba.num (by omega)), opC_bd (ba.num (by omega)) (ba.num (by omega)) eb bb (by omega), opC_bd (hn.num (by omega)) (hn.num (by omega)) ec bc (by omega),
    ← cl_of_num (bb.num (by omega)), ← cl_of_num (bc.num (by omega)), opC_bd (bc.num (by omega)) (bb.num (by omega)) el bl (by omega)]
def gt0 (o : Option Nat) : Bool := match o with
  | some x => gtB x 0
  | none => false
theorem gt0_pos {x k : Nat} (h : Bd x k) (g : gtB x 0 = true) : Pos x k ∧ rg x ≠ 0 := by
  obtain ⟨_, h1⟩ := gtB_of h.1 (by omega) g
  rw [show sg 0 = false by decide, show rg 0 = 0 by decide, show sv false 0 = 0 by simp [sv, vv_zero]] at h1
  obtain ⟨s0, h2⟩ := sv_pos h1
  refine ⟨⟨h, s0⟩, fun e => ?_⟩
  rw [e, vv_zero] at h2
  omega
theorem pos_gt0 {x k : Nat} (h : Pos x k) (h0 : rg x ≠ 0) (hk : k ≤ 1000) : gtB x 0 = true := by
  simp only [gtB, beq_iff_eq]
  rw [order_zero h.bd.1 (h.num hk), if_neg h0, h.sn]
  rfl
def rootC (o : Option Nat) : Option Nat := o.bind fun x => (double.sqrt x).bind cl
/-- A root is above 0 just if what it was taken of is. -/
theorem gt0_root {x : Nat} (h : Bd x 13) : gt0 (rootC (some x)) = gt0 (some x) := by
  simp only [rootC, Option.bind_some]
  by_cases g : gtB x 0 = true
  · obtain ⟨p, h0⟩ := gt0_pos h g
    obtain ⟨v, ev, pv, hv⟩ := p.root h0
    rw [ev]
    simp only [Option.bind_some, cl_of_num (pv.num (by omega)), gt0]
    rw [pos_gt0 pv hv (by omega), g]
  · have e : gt0 (some x) = false := by simp only [gt0]; simpa using g
    rw [e]
    have nx := h.num (by omega : 13 ≤ 1000)
    have oz := order_zero h.1 nx
    by_cases h0 : rg x = 0
    · have : double.sqrt x = some x := by
        unfold Format.sqrt
        rw [read_fin h.1 (h.fin (by omega)), h0, show mg 0 = 0 by decide]
        simp only [Datum.root, if_true, Option.map_some, Format.write]
        have := split_word h.1
        rw [h0] at this
        have e2 := write_word (sg x) (r := 0) (by omega)
        rw [show mg 0 = 0 by decide] at e2
        rw [e2, ← this]
      rw [this]
      simp only [Option.bind_some, cl_of_num nx]
      exact e
    · by_cases hs : sg x = true
      · have : double.sqrt x = none := by
          unfold Format.sqrt
          rw [read_fin h.1 (h.fin (by omega)), hs]
          have hm : mg (rg x) ≠ 0 := by have := mg_pos (r := rg x) (by omega); omega
          simp [Datum.root, hm]
        rw [this]
        rfl
      · rw [if_neg h0, if_neg hs] at oz
        exfalso
        apply g
        simp only [gtB, oz]
        rfl
/-- The root of what is left, where that is above 0. -/
theorem root_pc {x : Nat} (h : Bd x 13) (g : gt0 (some x) = true) : ∃ v, rootC (some x) = some v ∧ Pos v 8 ∧ rg v ≠ 0 := by
  obtain ⟨p, h0⟩ := gt0_pos h g
  obtain ⟨v, ev, pv, hv⟩ := p.root h0
  exact ⟨v, by simp only [rootC, Option.bind_some, ev, cl_of_num (pv.num (by omega))], pv, hv⟩
/-- The phase, ahead of its rounding. -/
def phaseC (q t m : Option Nat) : Option Nat := opC .add (opC .mul (opC .quo (opC .mul q t) m) (cl 4697254411347427328)) (cl 4602678819172646912)
theorem phase_pc {v t m : Nat} (hv : Pos v 8) (ht : t ≤ 1000000) (h1 : 1 ≤ m) (hm : m ≤ 100000) : ∃ x, phaseC (some v) (cl (F false t 0)) (cl (F false m 0)) = some x ∧ Pos x 60 := by
  have pt : PC (cl (F false t 0)) 21 := PC.of (pos_int (K := 19) (by omega) (by omega)) (by omega)
  have pm : ∃ y, cl (F false m 0) = some y ∧ Pos y 19 ∧ 4607182418800017408 ≤ rg y := ⟨_, (pos_int (K := 17) (by omega) (by omega)).cl (by omega), pos_int (K := 17) (by omega) (by omega), int_one_le (by omega) (by omega)⟩
  have pT : PC (cl 4697254411347427328) 21 := PC.of ⟨⟨by omega, by decide⟩, by decide⟩ (by omega)
  have ph : PC (cl 4602678819172646912) 53 := PC.of ⟨⟨by omega, by decide⟩, by decide⟩ (by omega)
  have a1 := PC.mul (⟨v, rfl, hv⟩ : PC (some v) 8) pt (by omega) (by omega)
  have a2 := PC.quo a1 pm (by omega) (by omega) (by omega)
  have a3 := PC.mul a2 pT (by omega) (by omega)
  have a4 := PC.add (a3.mono (show 8 + 21 + 1 + 1 + 21 + 1 ≤ 53 by omega)) ph (by omega)
  obtain ⟨x, e, p⟩ := a4
  exact ⟨x, e, p.mono (by omega)⟩
end Go.Proofs.Ytbcidfmfkmeinaa.Fl
