/- Words of 64 bits and what they stand for: a number that a word stands for is written as that word, by whatever magnitude and place it is told. Plain laws, no program. -/
import Ieee.Arith
namespace Go.Proofs.Ytloebnlmeplgbaa.Fl
open Ieee

theorem log2_two_mul {m : Nat} (h : m ≠ 0) : (2 * m).log2 = m.log2 + 1 := by
  rw [Nat.log2_eq_iff (by omega)]
  have h1 := Nat.log2_self_le h
  have h2 := Nat.lt_log2_self (n := m)
  rw [Nat.pow_succ]
  rw [show m.log2 + 1 + 1 = (m.log2 + 1) + 1 from rfl, Nat.pow_succ (n := 2) (m := m.log2 + 1)]
  omega
theorem cut_zero (neg : Bool) (n : Nat) : Toward.even.cut neg n 0 = n := by
  simp [Toward.cut, Nat.mod_one]
theorem cut_double (neg : Bool) {m : Nat} (hm : m ≠ 0) (d : Nat) : Toward.even.cut neg (2 * m) (d + 1) = Toward.even.cut neg m d := by
  have hg : 1 <<< min (d + 1) ((2 * m).log2 + 2) = 2 * (1 <<< min d (m.log2 + 2)) := by
    rw [log2_two_mul hm, show min (d + 1) (m.log2 + 1 + 2) = min d (m.log2 + 2) + 1 by omega, Nat.shiftLeft_succ]
  unfold Toward.cut
  simp only [hg]
  generalize 1 <<< min d (m.log2 + 2) = g
  rw [Nat.mul_div_mul_left _ _ (by omega : 0 < 2), Nat.mul_mod_mul_left]
  congr 2
  have e1 : decide (2 * g < 2 * (2 * (m % g))) = decide (g < 2 * (m % g)) := by
    by_cases h : g < 2 * (m % g)
    · rw [decide_eq_true h, decide_eq_true (by omega)]
    · rw [decide_eq_false h, decide_eq_false (by omega)]
  have e2 : (2 * g == 2 * (2 * (m % g))) = (g == 2 * (m % g)) := by
    by_cases h : g = 2 * (m % g)
    · rw [beq_iff_eq.2 h, beq_iff_eq.2 (by omega)]
    · rw [beq_eq_false_iff_ne.2 h, beq_eq_false_iff_ne.2 (by omega)]
  rw [e1, e2]
/-- A number told with one digit more is the same. -/
theorem nearest_double (f : Format) (neg : Bool) (m : Nat) (p : Int) : f.nearest neg (2 * m) (p - 1) = f.nearest neg m p := by
  by_cases hm : m = 0
  · subst hm; simp [Format.nearest]
  unfold Format.nearest
  rw [if_neg (by omega), if_neg hm, log2_two_mul hm]
  have hl : max (p - 1 + ((m.log2 + 1 : Nat) : Int) - f.fractionBits) f.leastPlace = max (p + (m.log2 : Int) - f.fractionBits) f.leastPlace := by
    congr 1
    omega
  simp only [hl]
  generalize max (p + (m.log2 : Int) - f.fractionBits) f.leastPlace = last
  congr 3
  by_cases h1 : p < last
  · rw [show (p - 1 - last).toNat = 0 by omega, show (p - last).toNat = 0 by omega, show (last - (p - 1)).toNat = (last - p).toNat + 1 by omega, Nat.shiftLeft_zero, Nat.shiftLeft_zero]
    exact cut_double neg hm _
  · by_cases h2 : p = last
    · subst h2
      rw [show (p - 1 - p).toNat = 0 by omega, show (p - p).toNat = 0 by omega, show (p - (p - 1)).toNat = 0 + 1 by omega, Nat.shiftLeft_zero, Nat.shiftLeft_zero]
      exact cut_double neg hm _
    · rw [show (p - last).toNat = (p - 1 - last).toNat + 1 by omega, show (last - (p - 1)).toNat = 0 by omega, show (last - p).toNat = 0 by omega]
      rw [Nat.shiftLeft_succ, Nat.shiftLeft_eq, Nat.shiftLeft_eq, Nat.mul_assoc]
theorem nearest_up (f : Format) (neg : Bool) (m : Nat) (p : Int) : ∀ k : Nat, f.nearest neg (m * 2 ^ k) (p - k) = f.nearest neg m p
  | 0 => by simp
  | k + 1 => by
    rw [show m * 2 ^ (k + 1) = 2 * (m * 2 ^ k) by rw [Nat.pow_succ, ← Nat.mul_assoc, Nat.mul_comm], show p - ((k + 1 : Nat) : Int) = p - (k : Int) - 1 by omega, nearest_double, nearest_up f neg m p k]
/-- Two tellings of one number. -/
theorem nearest_same (f : Format) (neg : Bool) {m n : Nat} {p q : Int} {a b : Nat} (hp : p - a = q - b) (h : m * 2 ^ a = n * 2 ^ b) : f.nearest neg m p = f.nearest neg n q := by
  rw [← nearest_up f neg m p a, ← nearest_up f neg n q b, hp, h]

/-! ### Words of 64 bits -/
abbrev dW (neg : Bool) (r : Nat) : Nat := double.word neg r
theorem binade_eq : double.binade = 4503599627370496 := by decide
theorem inf_eq : double.infRung = 9218868437227405312 := by decide
theorem sign_eq : double.signWeight = 9223372036854775808 := by decide
theorem least_eq : double.leastPlace = -1074 := by decide
theorem frac_eq : double.fractionBits = 52 := rfl
/-- What the rung r stands for. -/
def mg (r : Nat) : Nat := if r < 4503599627370496 then r else 4503599627370496 + r % 4503599627370496
def pl (r : Nat) : Int := if r < 4503599627370496 then -1074 else -1074 + (r / 4503599627370496 - 1 : Nat)
theorem read_word (neg : Bool) {r : Nat} (h : r < 9218868437227405312) : double.read (dW neg r) = .number neg (mg r) (pl r) := by
  have hw1 : (dW neg r / 9223372036854775808 % 2 == 1) = neg := by
    cases neg
    · simp only [dW, Format.word, sign_eq]
      rw [if_neg (by simp), Nat.div_eq_of_lt (by omega)]
      rfl
    · simp only [dW, Format.word, sign_eq]
      rw [if_pos trivial, Nat.add_div_left _ (by omega), Nat.div_eq_of_lt (by omega)]
      rfl
  have hw2 : dW neg r % 9223372036854775808 = r := by
    cases neg
    · simp only [dW, Format.word]
      rw [if_neg (by simp)]
      omega
    · simp only [dW, Format.word, sign_eq]
      rw [if_pos trivial]
      omega
  unfold Format.read mg pl
  simp only [sign_eq, binade_eq, inf_eq, least_eq, hw1, hw2]
  by_cases h1 : r < 4503599627370496
  · rw [if_pos h1, if_pos h1, if_pos h1]
  · rw [if_neg h1, if_neg h1, if_neg h1, if_pos h]
theorem log2_lt {m k : Nat} (h : m < 2 ^ (k + 1)) : m.log2 ≤ k := by
  by_cases h0 : m = 0
  · subst h0; simp
  · exact Nat.le_of_lt_succ ((Nat.log2_lt h0).2 h)
/-- A number that a word stands for is written as that word. -/
theorem write_word (neg : Bool) {r : Nat} (h : r < 9218868437227405312) : double.nearest neg (mg r) (pl r) = dW neg r := by
  by_cases h0 : r = 0
  · subst h0; simp [Format.nearest, mg]
  unfold Format.nearest mg pl
  rw [frac_eq, least_eq, binade_eq, inf_eq]
  by_cases h1 : r < 4503599627370496
  · simp only [if_pos h1]
    rw [if_neg h0]
    have hl := log2_lt (m := r) (k := 51) (by omega)
    have hmax : max (-1074 + (r.log2 : Int) - (52 : Nat)) (-1074) = -1074 := by omega
    rw [hmax]
    simp only [Int.sub_self, Int.toNat_zero, Nat.shiftLeft_zero, cut_zero]
    rw [Nat.zero_mul, Nat.zero_add, Nat.min_eq_left (by omega)]
  · simp only [if_neg h1]
    have hl : (4503599627370496 + r % 4503599627370496).log2 = 52 := by
      rw [Nat.log2_eq_iff (by omega)]
      have := Nat.mod_lt r (show 4503599627370496 > 0 by omega)
      omega
    rw [if_neg (by omega), hl]
    have hmax : max (-1074 + ((r / 4503599627370496 - 1 : Nat) : Int) + ((52 : Nat) : Int) - (52 : Nat)) (-1074) = -1074 + ((r / 4503599627370496 - 1 : Nat) : Int) := by omega
    rw [hmax]
    simp only [Int.sub_self, Int.toNat_zero, Nat.shiftLeft_zero, cut_zero]
    rw [show (-1074 + ((r / 4503599627370496 - 1 : Nat) : Int) - -1074).toNat = r / 4503599627370496 - 1 by omega]
    have : (r / 4503599627370496 - 1) * 4503599627370496 + (4503599627370496 + r % 4503599627370496) = r := by omega
    rw [this, Nat.min_eq_left (by omega)]
/-- .. by whatever magnitude and place the number is told. -/
theorem write_same (neg : Bool) {r m : Nat} {p : Int} {a b : Nat} (h : r < 9218868437227405312) (hp : p - a = pl r - b) (hm : m * 2 ^ a = mg r * 2 ^ b) : double.nearest neg m p = dW neg r := by
  rw [nearest_same double neg hp hm, write_word neg h]

/-! ### The order of words is that of their rungs -/
/-- The number of the rung r, in units of the least number of all. -/
def vv (r : Nat) : Nat := mg r * 2 ^ (pl r + 1074).toNat
theorem vv_small {r : Nat} (h : r < 4503599627370496) : vv r = r := by
  unfold vv mg pl
  rw [if_pos h, if_pos h]
  simp
theorem vv_great {r : Nat} (h : 4503599627370496 ≤ r) : vv r = (4503599627370496 + r % 4503599627370496) * 2 ^ (r / 4503599627370496 - 1) := by
  unfold vv mg pl
  rw [if_neg (by omega), if_neg (by omega), show (-1074 + ((r / 4503599627370496 - 1 : Nat) : Int) + 1074).toNat = r / 4503599627370496 - 1 by omega]
theorem vv_step (r : Nat) : vv r < vv (r + 1) := by
  by_cases h1 : r + 1 < 4503599627370496
  · rw [vv_small (by omega), vv_small h1]; omega
  · by_cases h2 : r + 1 = 4503599627370496
    · rw [vv_small (by omega), vv_great (by omega), h2]
      omega
    · rw [vv_great (by omega), vv_great (r := r + 1) (by omega)]
      by_cases h3 : (r + 1) % 4503599627370496 = 0
      · rw [show r % 4503599627370496 = 4503599627370495 by omega, h3, show (r + 1) / 4503599627370496 - 1 = (r / 4503599627370496 - 1) + 1 by omega, Nat.pow_succ, ← Nat.mul_assoc, Nat.mul_comm _ 2, ← Nat.mul_assoc]
        exact Nat.mul_lt_mul_of_pos_right (by omega) (Nat.pow_pos (by omega))
      · rw [show (r + 1) % 4503599627370496 = r % 4503599627370496 + 1 by omega, show (r + 1) / 4503599627370496 = r / 4503599627370496 by omega]
        exact Nat.mul_lt_mul_of_pos_right (by omega) (Nat.pow_pos (by omega))
theorem vv_add (r : Nat) : ∀ k, vv r < vv (r + k + 1)
  | 0 => vv_step r
  | k + 1 => Nat.lt_trans (vv_add r k) (vv_step (r + k + 1))
theorem vv_lt {r q : Nat} : vv r < vv q ↔ r < q := by
  constructor
  · intro h
    rcases Nat.lt_trichotomy r q with h1 | h1 | h1
    · exact h1
    · subst h1; omega
    · have := vv_add q (r - q - 1)
      rw [show q + (r - q - 1) + 1 = r by omega] at this
      omega
  · intro h
    have := vv_add r (q - r - 1)
    rwa [show r + (q - r - 1) + 1 = q by omega] at this
theorem vv_inj {r q : Nat} (h : vv r = vv q) : r = q := by
  rcases Nat.lt_trichotomy r q with h1 | h1 | h1
  · have := vv_lt.2 h1; omega
  · exact h1
  · have := vv_lt.2 h1; omega
def sv (neg : Bool) (r : Nat) : Int := if neg then -(vv r : Int) else vv r
theorem pl_ge (r : Nat) : -1074 ≤ pl r := by
  unfold pl
  split <;> omega
theorem signed_sv (neg : Bool) (r : Nat) (base : Int) (h0 : -1074 ≤ base) (h : base ≤ pl r) : signed neg (mg r) (pl r - base).toNat * ((2 ^ (base + 1074).toNat : Nat) : Int) = sv neg r := by
  have e : mg r <<< (pl r - base).toNat * 2 ^ (base + 1074).toNat = vv r := by
    unfold vv
    rw [Nat.shiftLeft_eq, Nat.mul_assoc, ← Nat.pow_add]
    congr 2
    omega
  unfold signed sv
  cases neg
  · simp only [Bool.false_eq_true, if_false]
    rw [← e, Int.natCast_mul]
  · simp only [if_true]
    rw [← e, Int.natCast_mul, Int.neg_mul]
theorem compare_scale (x y : Int) (c : Nat) (hc : 0 < c) : compare x y = compare (x * c) (y * c) := by
  have hc' : (0 : Int) < c := by omega
  rcases Int.lt_trichotomy x y with h | h | h
  · rw [Int.compare_eq_lt.2 h, Int.compare_eq_lt.2 (Int.mul_lt_mul_of_pos_right h hc')]
  · subst h; simp
  · rw [Int.compare_eq_gt.2 h, Int.compare_eq_gt.2 (Int.mul_lt_mul_of_pos_right h hc')]
/-- Two finite words are held against each other as their numbers. -/
theorem order_word (s t : Bool) {r q : Nat} (hr : r < 9218868437227405312) (hq : q < 9218868437227405312) : double.order (dW s r) (dW t q) = some (compare (sv s r) (sv t q)) := by
  unfold Format.order
  rw [read_word s hr, read_word t hq]
  simp only [Datum.order]
  have h1 := pl_ge r
  have h2 := pl_ge q
  rw [compare_scale _ _ (2 ^ (min (pl r) (pl q) + 1074).toNat) (Nat.pow_pos (by omega)), signed_sv s r _ (by omega) (by omega), signed_sv t q _ (by omega) (by omega)]

/-! ### Twice and half -/
/-- A product with a power of two, where the result is a word's. -/
theorem mul_pow (neg : Bool) {r r' : Nat} {w2 : Nat} {j : Int} (hr : r < 9218868437227405312) (hr' : r' < 9218868437227405312) (h2 : double.read w2 = .number false 4503599627370496 j) {a b : Nat}
    (hp : pl r + j - a = pl r' - b) (hm : mg r * 4503599627370496 * 2 ^ a = mg r' * 2 ^ b) : double.mul (dW neg r) w2 = some (dW neg r') := by
  unfold Format.mul
  rw [read_word neg hr, h2]
  simp only [Datum.product, Option.map_some, Format.write, Bool.xor_false]
  rw [write_same neg hr' hp hm]
/-- A quotient by a power of two, where the result is a word's. -/
theorem div_pow (neg : Bool) {r r' : Nat} {w2 : Nat} {j : Int} (hr : r < 9218868437227405312) (hr' : r' < 9218868437227405312) (h2 : double.read w2 = .number false 4503599627370496 j) {a b : Nat}
    (hp : pl r - j - 52 - a = pl r' - b) (hm : mg r * 2 ^ a = mg r' * 2 ^ b) : double.div (dW neg r) w2 = some (dW neg r') := by
  have hlog : (mg r).log2 ≤ 52 := log2_lt (by
    unfold mg
    split
    · omega
    · have := Nat.mod_lt r (show 4503599627370496 > 0 by omega)
      omega)
  unfold Format.div
  rw [read_word neg hr, h2]
  simp only [Datum.quotient, frac_eq]
  rw [if_neg (by omega), show (4503599627370496 : Nat).log2 = 52 by decide]
  simp only [Option.map_some, Format.write, Bool.xor_false]
  obtain ⟨e, he⟩ : ∃ e, 52 + 2 + 52 - (mg r).log2 = 52 + e := ⟨54 - (mg r).log2, by omega⟩
  rw [he, Nat.shiftLeft_eq, Nat.pow_add, show (2 ^ 52 : Nat) = 4503599627370496 by decide, ← Nat.mul_assoc, Nat.mul_comm (mg r) 4503599627370496, Nat.mul_assoc, Nat.mul_div_cancel_left _ (by omega), Nat.mul_mod_right]
  simp only [bne_self_eq_false, Bool.toNat_false, Nat.add_zero]
  congr 1
  refine write_same neg (a := a) (b := b + (e + 1)) hr' (by omega) ?_
  rw [Nat.pow_add, ← Nat.mul_assoc (mg r'), ← hm, Nat.pow_succ]
  generalize 2 ^ e = x
  generalize 2 ^ a = y
  generalize mg r = z
  ac_rfl
end Go.Proofs.Ytloebnlmeplgbaa.Fl
