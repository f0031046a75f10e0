/- A plane is the conic of no curve, to the bit: plainly. -/
import Derived.Test.YtbcidfmfkmeinaaSp
import Derived.Test.YtbcidfmfkmeinaaFm
namespace Go.Proofs.Ytbcidfmfkmeinaa
open Go.RowKit Fl Ieee
set_option linter.unusedVariables false
theorem cut_near {n d q : Nat} (hd : d ≤ n.log2 + 2) (h : n < q * 2 ^ d ∨ ∃ r, n = q * 2 ^ d + r ∧ 2 * r < 2 ^ d) : Toward.even.cut false n d ≤ q := by
  unfold Toward.cut
  simp only
  rw [Nat.min_eq_left hd, Nat.shiftLeft_eq, Nat.one_mul]
  have hg : 0 < 2 ^ d := Nat.pow_pos (by omega)
  generalize 2 ^ d = g at *
  have hb : ∀ b : Bool, b.toNat ≤ 1 := by decide
  rcases h with h | ⟨r, h, hr⟩
  · have h3 : n / g < q := (Nat.div_lt_iff_lt_mul hg).2 h
    have := hb (decide (g < 2 * (n % g)) || (g == 2 * (n % g) && n / g % 2 == 1))
    omega
  · have e1 : n % g = r := by rw [h, Nat.add_comm, Nat.add_mul_mod_self_right]; exact Nat.mod_eq_of_lt (by omega)
    have e2 : n / g = q := by rw [h, Nat.add_comm, Nat.add_mul_div_right _ _ hg, Nat.div_eq_of_lt (by omega)]; omega
    rw [e1, e2]
    have e3 : decide (g < 2 * r) = false := by simp; omega
    have e4 : (g == 2 * r) = false := by simp; omega
    rw [e3, e4]
    simp
theorem log2_ge {n k : Nat} (h : 2 ^ k ≤ n) : k ≤ n.log2 := by
  have h0 : n ≠ 0 := by have := Nat.pow_pos (n := k) (show 0 < 2 by omega); omega
  exact (Nat.le_log2 h0).2 h
theorem big_sum {M e T : Nat} (hM : 4503599627370496 ≤ M) (hM2 : M < 9007199254740992) (he : 900 ≤ e) (he2 : e ≤ 1023) (h : T + 4503599627370496 = M * 2 ^ e ∨ T = M * 2 ^ e + 4503599627370496) : rungOf T (-52) ≤ (e + 1022) * 4503599627370496 + M := by
  have hP : 1152921504606846976 ≤ 2 ^ e := by
    have : 2 ^ 60 ≤ 2 ^ e := Nat.pow_le_pow_right (by omega) (by omega)
    rw [show (2 : Nat) ^ 60 = 1152921504606846976 by decide] at this
    exact this
  have hlo : 2 ^ (51 + e) ≤ T := by
    rw [Nat.pow_add, show (2 : Nat) ^ 51 = 2251799813685248 by decide]
    have := Nat.mul_le_mul_right (2 ^ e) hM
    omega
  have hhi : T < 2 ^ (53 + e) := by
    rw [Nat.pow_add, show (2 : Nat) ^ 53 = 9007199254740992 by decide]
    have := Nat.mul_le_mul_right (2 ^ e) (show M + 1 ≤ 9007199254740992 by omega)
    rw [Nat.add_mul] at this
    omega
  have hT : T ≠ 0 := by have := Nat.pow_pos (n := 51 + e) (show 0 < 2 by omega); omega
  have l1 := log2_ge hlo
  have l2 : T.log2 ≤ 52 + e := by
    have := (Nat.log2_lt hT).2 hhi
    omega
  clear hlo hhi
  unfold rungOf
  rw [if_neg hT]
  refine Nat.le_trans (Nat.min_le_left _ _) ?_
  rcases (show T.log2 = 52 + e ∨ T.log2 = 51 + e by omega) with l | l
  · rw [show max ((-52 : Int) + T.log2 - 52) (-1074) = (e : Int) - 52 by rw [l]; omega]
    rw [show ((-52 : Int) - ((e : Int) - 52)).toNat = 0 by omega, show ((e : Int) - 52 - -52).toNat = e by omega, show ((e : Int) - 52 - -1074).toNat = e + 1022 by omega, Nat.shiftLeft_zero]
    have := cut_near (n := T) (d := e) (q := M) (by omega) (by
      rcases h with h | h
      · left; omega
      · right; exact ⟨4503599627370496, h, by omega⟩)
    omega
  · rw [show max ((-52 : Int) + T.log2 - 52) (-1074) = (e : Int) - 53 by rw [l]; omega]
    rw [show ((-52 : Int) - ((e : Int) - 53)).toNat = 0 by omega, show ((e : Int) - 53 - -52).toNat = e - 1 by omega, show ((e : Int) - 53 - -1074).toNat = e + 1021 by omega, Nat.shiftLeft_zero]
    have := cut_le hT (d := e - 1) (by omega)
    omega
theorem one_parts : rg 4607182418800017408 = 4607182418800017408 ∧ sg 4607182418800017408 = false ∧ mg 4607182418800017408 = 4503599627370496 ∧ pl 4607182418800017408 = -52 := by decide
/-- One and a finite number are a finite number. -/
theorem one_plus {y : Nat} (hy : W64 y) (fy : rg y < 9218868437227405312) : ∃ z, floatBits .add .f64 4607182418800017408 y = some z ∧ W64 z ∧ rg z < 9218868437227405312 := by
  by_cases hb : rg y < 1923 * 4503599627370496
  · obtain ⟨z, h1, h2⟩ := add_bd (x := 4607182418800017408) (y := y) (k := 900) ⟨by decide, by decide⟩ ⟨hy, by omega⟩ (by omega)
    exact ⟨z, h1, h2.1, h2.fin (by omega)⟩
  · have h := add_fin (x := 4607182418800017408) (y := y) (by decide) hy (by decide) fy
    refine ⟨_, h, ?_⟩
    rw [one_parts.1, one_parts.2.1]
    unfold sumW
    generalize (if tot false 4607182418800017408 (sg y) (rg y) = 0 then false && sg y else decide (tot false 4607182418800017408 (sg y) (rg y) < 0)) = s
    have hM := mg_lt (rg y)
    have hd : mg (rg y) = 4503599627370496 + rg y % 4503599627370496 ∧ pl (rg y) = -1074 + (rg y / 4503599627370496 - 1 : Nat) := by
      unfold mg pl
      rw [if_neg (by omega), if_neg (by omega)]
      exact ⟨rfl, rfl⟩
    obtain ⟨d1, d2⟩ := hd
    obtain ⟨e, he⟩ : ∃ e : Nat, e = rg y / 4503599627370496 - 1023 := ⟨_, rfl⟩
    have hpe : pl (rg y) = (e : Int) - 52 := by rw [d2]; omega
    have hmin : min (pl 4607182418800017408) (pl (rg y)) = -52 := by rw [one_parts.2.2.2, hpe]; omega
    have ht : (tot false 4607182418800017408 (sg y) (rg y)).natAbs + 4503599627370496 = mg (rg y) * 2 ^ e ∨ (tot false 4607182418800017408 (sg y) (rg y)).natAbs = mg (rg y) * 2 ^ e + 4503599627370496 := by
      unfold tot
      rw [hmin, one_parts.2.2.1, one_parts.2.2.2, hpe, show ((-52 : Int) - -52).toNat = 0 by omega, show ((e : Int) - 52 - -52).toNat = e by omega]
      have hq : 4503599627370496 ≤ mg (rg y) * 2 ^ e := by
        have := Nat.mul_le_mul (show 4503599627370496 ≤ mg (rg y) by omega) (Nat.one_le_two_pow (n := e))
        omega
      simp only [signed]
      generalize hA : mg (rg y) * 2 ^ e = A at *
      cases sg y
      · right
        simp [Int.shiftLeft_eq]
        have : ((mg (rg y) : Int) * 2 ^ e) = (A : Int) := by rw [← hA]; simp
        rw [this]
        omega
      · left
        simp [Int.shiftLeft_eq]
        have : ((mg (rg y) : Int) * 2 ^ e) = (A : Int) := by rw [← hA]; simp
        rw [this]
        omega
    have hr := big_sum (M := mg (rg y)) (e := e) (by omega) (by omega) (by omega) (by omega) ht
    rw [hmin]
    generalize rungOf (tot false 4607182418800017408 (sg y) (rg y)).natAbs (-52) = r at *
    have hr2 : r < 9218868437227405312 := by omega
    refine ⟨?_, ?_⟩
    · cases s
      · rw [dW_false]; unfold W64; omega
      · rw [dW_true]; unfold W64; omega
    · rw [dW_rg (by omega)]; exact hr2
theorem mul_inf {z r : Nat} (hz : Nought z) (hr : W64 r) (h : rg r = 9218868437227405312) : floatBits .mul .f64 z r = none := by
  have hr' : r = 9218868437227405312 ∨ r = 18442240474082181120 := by simp only [rg] at h; unfold W64 at hr; omega
  rcases hz with rfl | rfl <;> rcases hr' with rfl | rfl <;> decide
theorem mul_fin_zero {z r : Nat} (hz : Nought z) (hr : W64 r) (fr : rg r < 9218868437227405312) : ∃ q, floatBits .mul .f64 r z = some q ∧ Nought q := by
  have hz' : W64 z := by rcases hz with rfl | rfl <;> decide
  have h0 : rg z = 0 := by rcases hz with rfl | rfl <;> decide
  have h := mul_fin hr hz' fr (by rw [h0]; decide)
  rw [h0, mg_zero, Nat.mul_zero, rungOf_zero] at h
  refine ⟨_, h, ?_⟩
  cases sg r ^^ sg z
  · left; decide
  · right; decide
theorem opC_some {op : BinOp} {x y z : Nat} (h : floatBits op .f64 x y = some z) (n : Num z) : opC op (some x) (some y) = some z := by
  simp [opC, h, cl, n]
theorem opC_none {op : BinOp} {x y : Nat} (h : floatBits op .f64 x y = none) : opC op (some x) (some y) = none := by simp [opC, h]
theorem nought_num {z : Nat} (hz : Nought z) : Num z := by rcases hz with rfl | rfl <;> decide
theorem opC_fin {op : BinOp} {x y z : Nat} (h : opC op (some x) (some y) = some z) : floatBits op .f64 x y = some z := by
  unfold opC at h
  simp only [Option.bind_some] at h
  cases e : floatBits op .f64 x y with
  | none => rw [e] at h; simp at h
  | some r =>
    rw [e] at h
    simp only [Option.bind_some, cl] at h
    split at h
    · rw [Option.some.inj h]
    · cases h
/-- A square's sign is plus. -/
theorem sq_pos {x z : Nat} (hx : W64 x) (nx : Num x) (h : floatBits .mul .f64 x x = some z) : sg z = false := by
  by_cases f : rg x < 9218868437227405312
  · have e := mul_fin hx hx f f
    rw [h] at e
    obtain rfl := Option.some.inj e
    rw [dW_sg (Nat.lt_of_le_of_lt (rungOf_le _ _) (by decide))]
    simp
  · have hx' : x = 9218868437227405312 ∨ x = 18442240474082181120 := by unfold Num at nx; simp only [rg] at f; unfold W64 at hx; omega
    rcases hx' with rfl | rfl
    · rw [show floatBits .mul .f64 9218868437227405312 9218868437227405312 = some 9218868437227405312 by decide] at h
      obtain rfl := Option.some.inj h; decide
    · rw [show floatBits .mul .f64 18442240474082181120 18442240474082181120 = some 9218868437227405312 by decide] at h
      obtain rfl := Option.some.inj h; decide
theorem inf_add {b : Nat} (hb : W64 b) (fb : rg b < 9218868437227405312) : floatBits .add .f64 9218868437227405312 b = some 9218868437227405312 ∧ floatBits .add .f64 b 9218868437227405312 = some 9218868437227405312 := by
  have h1 : double.read 9218868437227405312 = .infinity false := by decide
  have h2 := read_fin hb fb
  have h3 : double.write (.infinity false) = 9218868437227405312 := by decide
  constructor
  · show double.add 9218868437227405312 b = _
    unfold Format.add
    rw [h1, h2]
    exact congrArg some h3
  · show double.add b 9218868437227405312 = _
    unfold Format.add
    rw [h1, h2]
    exact congrArg some h3
theorem add_pos {a b z : Nat} (ha : W64 a) (hb : W64 b) (na : Num a) (nb : Num b) (sa : sg a = false) (sb : sg b = false) (h : floatBits .add .f64 a b = some z) : sg z = false := by
  by_cases fa : rg a < 9218868437227405312
  · by_cases fb : rg b < 9218868437227405312
    · have e := add_fin ha hb fa fb
      rw [h] at e
      obtain rfl := Option.some.inj e
      unfold sumW
      rw [dW_sg (Nat.lt_of_le_of_lt (rungOf_le _ _) (by decide)), sa, sb]
      have ht : 0 ≤ tot false (rg a) false (rg b) := by
        unfold tot signed
        simp only [Bool.false_eq_true, if_false]
        have := Int.shiftLeft_eq (mg (rg a)) (pl (rg a) - min (pl (rg a)) (pl (rg b))).toNat
        have := Int.shiftLeft_eq (mg (rg b)) (pl (rg b) - min (pl (rg a)) (pl (rg b))).toNat
        first | omega | exact Int.add_nonneg (by simp [*]; exact Int.mul_nonneg (by omega) (Int.pow_nonneg (by omega))) (by simp [*]; exact Int.mul_nonneg (by omega) (Int.pow_nonneg (by omega)))
      split
      · rfl
      · simp; omega
    · obtain rfl : b = 9218868437227405312 := by unfold Num at nb; simp only [rg] at fb; simp only [sg, decide_eq_false_iff_not] at sb; omega
      rw [(inf_add ha fa).2] at h
      obtain rfl := Option.some.inj h; decide
  · obtain rfl : a = 9218868437227405312 := by unfold Num at na; simp only [rg] at fa; simp only [sg, decide_eq_false_iff_not] at sa; omega
    by_cases fb : rg b < 9218868437227405312
    · rw [(inf_add hb fb).1] at h
      obtain rfl := Option.some.inj h; decide
    · obtain rfl : b = 9218868437227405312 := by unfold Num at nb; simp only [rg] at fb; simp only [sg, decide_eq_false_iff_not] at sb; omega
      rw [show floatBits .add .f64 9218868437227405312 9218868437227405312 = some 9218868437227405312 by decide] at h
      obtain rfl := Option.some.inj h; decide
theorem opC_parts {op : BinOp} {a b : Option Nat} {z : Nat} (h : opC op a b = some z) : ∃ x y, a = some x ∧ b = some y ∧ floatBits op .f64 x y = some z := by
  cases a with
  | none => simp [opC] at h
  | some x =>
    cases b with
    | none => simp [opC] at h
    | some y => exact ⟨x, y, rfl, rfl, opC_fin h⟩
theorem sqr_pos {x y : Option Nat} (hx : Wc x) (hy : Wc y) {z : Nat} (h : sqr x y = some z) : sg z = false := by
  unfold sqr at h
  obtain ⟨a, b, ea, eb, e⟩ := opC_parts h
  obtain ⟨x1, _, rfl, ex, e1⟩ := opC_parts ea
  obtain rfl := Option.some.inj ex
  obtain ⟨y1, _, rfl, ey, e2⟩ := opC_parts eb
  obtain rfl := Option.some.inj ey
  have wa := wc_op _ _ _ a ea
  have wb := wc_op _ _ _ b eb
  exact add_pos wa.1 wb.1 wa.2 wb.2 (sq_pos (hx _ rfl).1 (hx _ rfl).2 e1) (sq_pos (hy _ rfl).1 (hy _ rfl).2 e2) e
theorem sqrt_one : sqO oneO = oneO := by
  have h := sqrt_square (k := 1) (by omega) (by omega)
  rw [show (1 : Nat) * 1 = 1 from rfl, show F false 1 0 = 4607182418800017408 by decide] at h
  unfold sqO sqC
  simp only [Option.bind_some]
  rw [h]; rfl
/-- A plane's sag is the conic's of no curve. -/
theorem plane_is {c k x y : Option Nat} (hc : Wc c) (hk : Wc k) (hx : Wc x) (hy : Wc y) (h : isPl c k = true) : sagC c k (sqr x y) = planeC c (sqr x y) := by
  simp only [isPl, Bool.and_eq_true] at h
  obtain ⟨z, rfl, hz⟩ := (eq_zero_iff hc).1 h.1
  obtain ⟨kk, rfl⟩ : ∃ kk, k = some kk := by
    cases k with
    | none => simp [finO] at h
    | some kk => exact ⟨kk, rfl⟩
  have fk : rg kk < 9218868437227405312 := by simpa [finO] using h.2
  obtain ⟨m, e1, wm, fm⟩ := one_plus (hk _ rfl).1 fk
  obtain ⟨q1, e2, n1⟩ := mul_fin_zero hz wm fm
  have w1 : W64 q1 ∧ rg q1 < 9218868437227405312 := by rcases n1 with rfl | rfl <;> decide
  obtain ⟨q2, e3, n2⟩ := mul_fin_zero hz w1.1 w1.2
  have hk3 : opC .mul (opC .mul (opC .add oneO (some kk)) (some z)) (some z) = some q2 := by
    rw [opC_some e1 (Nat.le_of_lt fm), opC_some e2 (nought_num n1), opC_some e3 (nought_num n2)]
  have hw := wc_op .add (opC .mul x x) (opC .mul y y)
  have hs : ∀ z, sqr x y = some z → sg z = false := fun z e => sqr_pos hx hy e
  unfold sqr at hs ⊢
  generalize opC .add (opC .mul x x) (opC .mul y y) = r at *
  unfold sagC planeC sagU
  rw [hk3]
  cases r with
  | none => rfl
  | some r =>
    obtain ⟨wr, nr⟩ := hw r rfl
    by_cases fr : rg r < 9218868437227405312
    · have hf : finO (some r) = true := by simpa [finO] using fr
      rw [if_pos hf]
      have e4 := mul_zero_fin n2 wr fr
      have e5 := mul_zero_fin hz wr fr
      rw [hs r rfl] at e4 e5
      have hu : opC .sub oneO (opC .mul (some q2) (some r)) = oneO := by
        rcases n2 with rfl | rfl
        · rw [show dW (sg 0 != false) 0 = 0 by decide] at e4
          rw [opC_some e4 (by decide), opC_some (show floatBits .sub .f64 4607182418800017408 0 = some 4607182418800017408 by decide +kernel) (by decide)]
        · rw [show dW (sg 9223372036854775808 != false) 0 = 9223372036854775808 by decide] at e4
          rw [opC_some e4 (by decide), opC_some (show floatBits .sub .f64 4607182418800017408 9223372036854775808 = some 4607182418800017408 by decide +kernel) (by decide)]
      have h2 : opC .add oneO oneO = some 4611686018427387904 := opC_some (by decide) (by decide)
      rw [hu, sqrt_one, if_pos (by decide), h2]
      rcases hz with rfl | rfl
      · rw [show dW (sg 0 != false) 0 = 0 by decide] at e5
        rw [opC_some e5 (by decide), opC_some (show floatBits .quo .f64 0 4611686018427387904 = some 0 by decide +kernel) (by decide)]
      · rw [show dW (sg 9223372036854775808 != false) 0 = 9223372036854775808 by decide] at e5
        rw [opC_some e5 (by decide), opC_some (show floatBits .quo .f64 9223372036854775808 4611686018427387904 = some 9223372036854775808 by decide +kernel) (by decide)]
    · have hi : rg r = 9218868437227405312 := by unfold Num at nr; simp only [rg] at fr ⊢; omega
      have hf : ¬ (finO (some r) = true) := by simp [finO]; exact Nat.le_of_not_lt fr
      rw [if_neg hf, opC_none (mul_inf n2 wr hi)]
      rfl
end Go.Proofs.Ytbcidfmfkmeinaa
