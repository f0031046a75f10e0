/- The root of a word by its whole root, digit by digit or as the norm has it; it grows with its number; of a square it is its root. Plain laws, no program. -/
import Derived.Test.YtloebnlmeplgbaaFlConv
namespace Go.Proofs.Ytloebnlmeplgbaa.Fl
open Ieee
theorem sq_lt {a b : Nat} (h : a * a < b * b) : a < b := by
  rcases Nat.lt_or_ge a b with h1 | h1
  · exact h1
  · exact absurd (Nat.mul_le_mul h1 h1) (by omega)
theorem root_uniq {n a b : Nat} (h1 : a * a ≤ n) (h2 : n < (a + 1) * (a + 1)) (h3 : b * b ≤ n) (h4 : n < (b + 1) * (b + 1)) : a = b := by
  have h5 : a < b + 1 := sq_lt (Nat.lt_of_le_of_lt h1 h4)
  have h6 : b < a + 1 := sq_lt (Nat.lt_of_le_of_lt h3 h2)
  omega
theorem rootFrom_spec (n : Nat) : ∀ todo root, root * root ≤ n → n < (root + 2 ^ todo) * (root + 2 ^ todo) → Datum.rootFrom n todo root * Datum.rootFrom n todo root ≤ n ∧ n < (Datum.rootFrom n todo root + 1) * (Datum.rootFrom n todo root + 1)
  | 0, root, h1, h2 => by
    simp only [Datum.rootFrom]
    exact ⟨h1, by simpa using h2⟩
  | todo + 1, root, h1, h2 => by
    simp only [Datum.rootFrom]
    rw [Nat.shiftLeft_eq, Nat.one_mul]
    by_cases h : (root + 2 ^ todo) * (root + 2 ^ todo) ≤ n
    · rw [if_pos h]
      refine rootFrom_spec n todo _ h ?_
      rw [Nat.pow_succ] at h2
      rw [show root + 2 ^ todo + 2 ^ todo = root + 2 ^ todo * 2 by omega]
      exact h2
    · rw [if_neg h]
      exact rootFrom_spec n todo _ h1 (by omega)
theorem whole_spec (n : Nat) : Datum.rootFrom n (n.log2 / 2 + 1) 0 * Datum.rootFrom n (n.log2 / 2 + 1) 0 ≤ n ∧ n < (Datum.rootFrom n (n.log2 / 2 + 1) 0 + 1) * (Datum.rootFrom n (n.log2 / 2 + 1) 0 + 1) := by
  refine rootFrom_spec n _ 0 (by omega) ?_
  rw [Nat.zero_add, ← Nat.pow_add]
  refine Nat.lt_of_lt_of_le (Nat.lt_log2_self (n := n)) (Nat.pow_le_pow_right (by omega) (by omega))
theorem mg_lt (r : Nat) : mg r < 9007199254740992 := by
  unfold mg
  split
  · omega
  · have := Nat.mod_lt r (show 4503599627370496 > 0 by omega)
    omega
theorem mg_pos {r : Nat} (h : 0 < r) : 0 < mg r := by
  unfold mg
  split <;> omega
theorem log2_mul_pow {m : Nat} (h : m ≠ 0) : ∀ c, (m * 2 ^ c).log2 = m.log2 + c
  | 0 => by simp
  | c + 1 => by
    rw [Nat.pow_succ, ← Nat.mul_assoc, Nat.mul_comm, log2_two_mul (Nat.mul_ne_zero h (Nat.ne_of_gt (Nat.pow_pos (by omega)))), log2_mul_pow h c]
    omega
/-- The whole root of m1 * 2^54, m1 from 2^52 to below 2^54. -/
theorem root_bounds {m1 R : Nat} (h1 : 4503599627370496 ≤ m1) (h2 : m1 + 2 ≤ 18014398509481984) (hR : R * R ≤ m1 * 18014398509481984) (hR' : m1 * 18014398509481984 < (R + 1) * (R + 1)) :
    9007199254740992 ≤ R ∧ R + 1 < 18014398509481984 := by
  constructor
  · have e : 9007199254740992 * 9007199254740992 = 4503599627370496 * 18014398509481984 := by decide
    have h3 : 9007199254740992 * 9007199254740992 < (R + 1) * (R + 1) := by
      rw [e]; exact Nat.lt_of_le_of_lt (Nat.mul_le_mul_right _ h1) hR'
    have h4 := sq_lt h3
    clear hR hR' h3 e
    omega
  · rcases Nat.lt_or_ge (R + 1) 18014398509481984 with h | h
    · exact h
    · have h4 : 18014398509481983 ≤ R := by omega
      have h3 : 18014398509481983 * 18014398509481983 ≤ R * R := Nat.mul_le_mul h4 h4
      have h5 : m1 * 18014398509481984 ≤ 18014398509481982 * 18014398509481984 := Nat.mul_le_mul_right _ (by omega)
      have h6 : 18014398509481982 * 18014398509481984 < 18014398509481983 * 18014398509481983 := by decide
      exact absurd (Nat.le_trans h3 (Nat.le_trans hR h5)) (Nat.not_le_of_lt h6)
theorem half_bounds {m1 R : Nat} (h1 : 4503599627370496 ≤ m1) (h2 : m1 + 2 ≤ 18014398509481984) (hR : R * R ≤ m1 * 18014398509481984) (hR' : m1 * 18014398509481984 < (R + 1) * (R + 1)) :
    4503599627370496 ≤ (R + 1) / 2 ∧ (R + 1) / 2 < 9007199254740992 := by
  have := root_bounds h1 h2 hR hR'
  clear hR hR'
  omega
theorem odd_sq {R : Nat} (h : R % 2 = 1) : R * R % 2 = 1 := by
  rw [Nat.mul_mod, h]
/-- The root of a finite word above 0, by the whole root R of m1 * 2^54. -/
theorem sqrt_word {r m1 c R : Nat} {e1 : Int} (hr0 : 0 < r) (hr : r < 9218868437227405312) (hm : m1 = mg r * 2 ^ c) (he : e1 = pl r - c) (h1 : 4503599627370496 ≤ m1) (h2 : m1 + 2 ≤ 18014398509481984) (hev : e1 % 2 = 0)
    (hR : R * R ≤ m1 * 18014398509481984) (hR' : m1 * 18014398509481984 < (R + 1) * (R + 1)) : double.sqrt (dW false r) = some (F false ((R + 1) / 2) (e1 / 2 - 26)) := by
  have hm0 := mg_pos hr0
  have hm0' := mg_lt r
  have hpl := pl_ge r
  have hlm : (mg r).log2 ≤ 52 := log2_lt (by omega)
  have hl1 : m1.log2 = (mg r).log2 + c := by rw [hm, log2_mul_pow (by omega)]
  have hl2 : 52 ≤ m1.log2 := (Nat.le_log2 (by omega)).2 (by omega)
  have hl3 : m1.log2 ≤ 53 := log2_lt (by omega)
  unfold Format.sqrt
  rw [read_word false hr]
  simp only [Datum.root, frac_eq]
  rw [if_neg (by omega)]
  simp only [Bool.false_eq_true, if_false, Option.map_some, Format.write]
  have hmore : 2 * (52 + 2) - (mg r).log2 + ((pl r - ((2 * (52 + 2) - (mg r).log2 : Nat) : Int)) % 2).toNat = c + 56 := by
    omega
  rw [hmore]
  have hn : mg r <<< (c + 56) = 4 * (m1 * 18014398509481984) := by
    rw [Nat.shiftLeft_eq, Nat.pow_add, hm]
    generalize 2 ^ c = x
    rw [show (2 ^ 56 : Nat) = 4 * 18014398509481984 by decide]
    ac_rfl
  rw [hn]
  obtain ⟨w1, w2⟩ := whole_spec (4 * (m1 * 18014398509481984))
  generalize Datum.rootFrom (4 * (m1 * 18014398509481984)) ((4 * (m1 * 18014398509481984)).log2 / 2 + 1) 0 = W at w1 w2 ⊢
  -- R is the half of W
  have hWR : W / 2 = R := by
    refine root_uniq (n := m1 * 18014398509481984) ?_ ?_ hR hR'
    · have : 2 * (W / 2) ≤ W := by omega
      have := Nat.mul_le_mul this this
      have e : 2 * (W / 2) * (2 * (W / 2)) = 4 * (W / 2 * (W / 2)) := by
        generalize W / 2 = x
        rw [show (4 : Nat) = 2 * 2 by decide]; ac_rfl
      omega
    · have : W + 1 ≤ 2 * (W / 2 + 1) := by omega
      have := Nat.mul_le_mul this this
      have e : 2 * (W / 2 + 1) * (2 * (W / 2 + 1)) = 4 * ((W / 2 + 1) * (W / 2 + 1)) := by
        generalize W / 2 + 1 = x
        rw [show (4 : Nat) = 2 * 2 by decide]; ac_rfl
      omega
  obtain ⟨b1, b2⟩ := root_bounds h1 h2 hR hR'
  obtain ⟨hb1, hb2⟩ := half_bounds h1 h2 hR hR'
  generalize hs : (W * W != 4 * (m1 * 18014398509481984)).toNat = s
  have hs1 : s ≤ 1 := by rw [← hs]; cases (W * W != 4 * (m1 * 18014398509481984)) <;> simp
  -- a tie is not there
  have htie : ¬ (s = 0 ∧ W % 4 = 2) := by
    rintro ⟨t1, t2⟩
    have t3 : W * W = 4 * (m1 * 18014398509481984) := by
      by_cases h : W * W = 4 * (m1 * 18014398509481984)
      · exact h
      · rw [bne_iff_ne.2 h] at hs
        simp at hs
        omega
    have t4 : R % 2 = 1 := by omega
    have t5 := odd_sq t4
    have t6 : W = 2 * R := by omega
    have t7 : W * W = 4 * (R * R) := by
      rw [t6, show (4 : Nat) = 2 * 2 by decide]; ac_rfl
    omega
  have hlog : (2 * W + s).log2 = 55 := by
    rw [Nat.log2_eq_iff (by omega)]
    omega
  have hlogm : ((R + 1) / 2).log2 = 52 := by
    rw [Nat.log2_eq_iff (by omega)]
    omega
  congr 1
  unfold F Format.nearest
  rw [if_neg (by omega), if_neg (by omega), hlog, hlogm, frac_eq, least_eq, binade_eq, inf_eq]
  have hpl2 : (pl r - ((c + 56 : Nat) : Int)) / 2 - 1 = e1 / 2 - 29 := by omega
  have hc : c ≤ 53 := by omega
  rw [hpl2]
  have hx1 : max (e1 / 2 - 29 + ((55 : Nat) : Int) - ((52 : Nat) : Int)) (-1074) = e1 / 2 - 26 := by omega
  have hx2 : max (e1 / 2 - 26 + ((52 : Nat) : Int) - ((52 : Nat) : Int)) (-1074) = e1 / 2 - 26 := by omega
  simp only [hx1, hx2]
  rw [show (e1 / 2 - 29 - (e1 / 2 - 26)).toNat = 0 by omega, show (e1 / 2 - 26 - (e1 / 2 - 29)).toNat = 3 by omega, Int.sub_self, Int.toNat_zero, Nat.shiftLeft_zero, Nat.shiftLeft_zero, cut_zero]
  have hcut : Toward.even.cut false (2 * W + s) 3 = (R + 1) / 2 := by
    unfold Toward.cut
    rw [hlog]
    simp only [show (1 <<< min 3 (55 + 2) : Nat) = 8 by decide]
    by_cases ho : R % 2 = 1
    · have : 8 < 2 * ((2 * W + s) % 8) := by omega
      simp only [this, decide_true, Bool.true_or, Bool.toNat_true]
      omega
    · have t1 : ¬ 8 < 2 * ((2 * W + s) % 8) := by omega
      have t2 : ¬ 8 = 2 * ((2 * W + s) % 8) := by omega
      have t3 : (8 == 2 * ((2 * W + s) % 8)) = false := by simpa using t2
      simp only [t1, t3, decide_false, Bool.false_or, Bool.false_and, Bool.toNat_false]
      omega
  rw [hcut]
end Go.Proofs.Ytloebnlmeplgbaa.Fl
