/- Words of 64 bits and what they stand for: a number that a word stands for is written as that word, by whatever magnitude and place it is told. Plain laws, no program. Numbers m * 2 ^ p of at most 53 digits: their words, twice and half of them, their order, whole numbers. Plain laws, no program. Whole numbers below 2^53 as floats and back; powers of two as bounds; the bits of a word. Plain laws, no program. The root of a word by its whole root, digit by digit or as the norm has it; it grows with its number; of a square it is its root. Plain laws, no program. Words of 64 bits: which are NaN, how two stand to each other, the order of all of them by ranks, noughts, signs. Plain laws, no program. A float's operation that has no answer gives some NaN: which one the run's choices say. More plain laws on floats: bounds by powers of two, what a finite word's digits and place are. -/
import Ieee.Arith
import Derived.Laws.FloatArith
import Derived.Laws.NewFold
import Derived.Deep.Draws
namespace Go.Proofs.Ytbcidfmfkmeinaa.Fl
open Ieee

theorem log2_two_mul {m : Nat} (h : m ≠ 0) : (2 * m).log2 = m.log2 + 1 := by
  rw [Nat.log2_eq_iff (by omega)]
  have h1 := Nat.log2_self_le h
  have h2 := Nat.lt_log2_self (n := m)
  rw [Nat.pow_succ]
  rw [show m.log2 + 1 + 1 = (m.log2 + 1) + 1 from rfl, Nat.pow_succ (n := 2) (m := m.log2 + 1)]
  omega
theorem cut_zero (neg : Bool) (n : Nat) : Toward.even.cut neg n 0 = n := by
  simp [Toward.cut, Nat.mod_one]
theorem cut_double (neg : Bool) {m : Nat} (hm : m ≠ 0) (d : Nat) : Toward.even.cut neg (2 * m) (d + 1) = Toward.even.cut neg m d := by
  have hg : 1 <<< min (d + 1) ((2 * m).log2 + 2) = 2 * (1 <<< min d (m.log2 + 2)) := by
    rw [log2_two_mul hm, show min (d + 1) (m.log2 + 1 + 2) = min d (m.log2 + 2) + 1 by omega, Nat.shiftLeft_succ]
  unfold Toward.cut
  simp only [hg]
  generalize 1 <<< min d (m.log2 + 2) = g
  rw [Nat.mul_div_mul_left _ _ (by omega : 0 < 2), Nat.mul_mod_mul_left]
  congr 2
  have e1 : decide (2 * g < 2 * (2 * (m % g))) = decide (g < 2 * (m % g)) := by
    by_cases h : g < 2 * (m % g)
    · rw [decide_eq_true h, decide_eq_true (by omega)]
    · rw [decide_eq_false h, decide_eq_false (by omega)]
  have e2 : (2 * g == 2 * (2 * (m % g))) = (g == 2 * (m % g)) := by
    by_cases h : g = 2 * (m % g)
    · rw [beq_iff_eq.2 h, beq_iff_eq.2 (by omega)]
    · rw [beq_eq_false_iff_ne.2 h, beq_eq_false_iff_ne.2 (by omega)]
  rw [e1, e2]
/-- A number told with one digit more is the same. -/
theorem nearest_double (f : Format) (neg : Bool) (m : Nat) (p : Int) : f.nearest neg (2 * m) (p - 1) = f.nearest neg m p := by
  by_cases hm : m = 0
  · subst hm; simp [Format.nearest]
  unfold Format.nearest
  rw [if_neg (by omega), if_neg hm, log2_two_mul hm]
  have hl : max (p - 1 + ((m.log2 + 1 : Nat) : Int) - f.fractionBits) f.leastPlace = max (p + (m.log2 : Int) - f.fractionBits) f.leastPlace := by
    congr 1
    omega
  simp only [hl]
  generalize max (p + (m.log2 : Int) - f.fractionBits) f.leastPlace = last
  congr 3
  by_cases h1 : p < last
  · rw [show (p - 1 - last).toNat = 0 by omega, show (p - last).toNat = 0 by omega, show (last - (p - 1)).toNat = (last - p).toNat + 1 by omega, Nat.shiftLeft_zero, Nat.shiftLeft_zero]
    exact cut_double neg hm _
  · by_cases h2 : p = last
    · subst h2
      rw [show (p - 1 - p).toNat = 0 by omega, show (p - p).toNat = 0 by omega, show (p - (p - 1)).toNat = 0 + 1 by omega, Nat.shiftLeft_zero, Nat.shiftLeft_zero]
      exact cut_double neg hm _
    · rw [show (p - last).toNat = (p - 1 - last).toNat + 1 by omega, show (last - (p - 1)).toNat = 0 by omega, show (last - p).toNat = 0 by omega]
      rw [Nat.shiftLeft_succ, Nat.shiftLeft_eq, Nat.shiftLeft_eq, Nat.mul_assoc]
theorem nearest_up (f : Format) (neg : Bool) (m : Nat) (p : Int) : ∀ k : Nat, f.nearest neg (m * 2 ^ k) (p - k) = f.nearest neg m p
  | 0 => by simp
  | k + 1 => by
    rw [show m * 2 ^ (k + 1) = 2 * (m * 2 ^ k) by rw [Nat.pow_succ, ← Nat.mul_assoc, Nat.mul_comm], show p - ((k + 1 : Nat) : Int) = p - (k : Int) - 1 by omega, nearest_double, nearest_up f neg m p k]
/-- Two tellings of one number. -/
theorem nearest_same (f : Format) (neg : Bool) {m n : Nat} {p q : Int} {a b : Nat} (hp : p - a = q - b) (h : m * 2 ^ a = n * 2 ^ b) : f.nearest neg m p = f.nearest neg n q := by
  rw [← nearest_up f neg m p a, ← nearest_up f neg n q b, hp, h]

/-! ### Words of 64 bits -/
abbrev dW (neg : Bool) (r : Nat) : Nat := double.word neg r
theorem binade_eq : double.binade = 4503599627370496 := by decide
theorem inf_eq : double.infRung = 9218868437227405312 := by decide
theorem sign_eq : double.signWeight = 9223372036854775808 := by decide
theorem least_eq : double.leastPlace = -1074 := by decide
theorem frac_eq : double.fractionBits = 52 := rfl
/-- What the rung r stands for. -/
def mg (r : Nat) : Nat := if r < 4503599627370496 then r else 4503599627370496 + r % 4503599627370496
def pl (r : Nat) : Int := if r < 4503599627370496 then -1074 else -1074 + (r / 4503599627370496 - 1 : Nat)
theorem read_word (neg : Bool) {r : Nat} (h : r < 9218868437227405312) : double.read (dW neg r) = .number neg (mg r) (pl r) := by
  have hw1 : (dW neg r / 9223372036854775808 % 2 == 1) = neg := by
    cases neg
    · simp only [dW, Format.word, sign_eq]
      rw [if_neg (by simp), Nat.div_eq_of_lt (by omega)]
      rfl
    · simp only [dW, Format.word, sign_eq]
      rw [if_pos trivial, Nat.add_div_left _ (by omega), Nat.div_eq_of_lt (by omega)]
      rfl
  have hw2 : dW neg r % 9223372036854775808 = r := by
    cases neg
    · simp only [dW, Format.word]
      rw [if_neg (by simp)]
      omega
    · simp only [dW, Format.word, sign_eq]
      rw [if_pos trivial]
      omega
  unfold Format.read mg pl
  simp only [sign_eq, binade_eq, inf_eq, least_eq, hw1, hw2]
  by_cases h1 : r < 4503599627370496
  · rw [if_pos h1, if_pos h1, if_pos h1]
  · rw [if_neg h1, if_neg h1, if_neg h1, if_pos h]
theorem log2_lt {m k : Nat} (h : m < 2 ^ (k + 1)) : m.log2 ≤ k := by
  by_cases h0 : m = 0
  · subst h0; simp
  · exact Nat.le_of_lt_succ ((Nat.log2_lt h0).2 h)
/-- A number that a word stands for is written as that word. -/
theorem write_word (neg : Bool) {r : Nat} (h : r < 9218868437227405312) : double.nearest neg (mg r) (pl r) = dW neg r := by
  by_cases h0 : r = 0
  · subst h0; simp [Format.nearest, mg]
  unfold Format.nearest mg pl
  rw [frac_eq, least_eq, binade_eq, inf_eq]
  by_cases h1 : r < 4503599627370496
  · simp only [if_pos h1]
    rw [if_neg h0]
    have hl := log2_lt (m := r) (k := 51) (by omega)
    have hmax : max (-1074 + (r.log2 : Int) - (52 : Nat)) (-1074) = -1074 := by omega
    rw [hmax]
    simp only [Int.sub_self, Int.toNat_zero, Nat.shiftLeft_zero, cut_zero]
    rw [Nat.zero_mul, Nat.zero_add, Nat.min_eq_left (by omega)]
  · simp only [if_neg h1]
    have hl : (4503599627370496 + r % 4503599627370496).log2 = 52 := by
      rw [Nat.log2_eq_iff (by omega)]
      have := Nat.mod_lt r (show 4503599627370496 > 0 by omega)
      omega
    rw [if_neg (by omega), hl]
    have hmax : max (-1074 + ((r / 4503599627370496 - 1 : Nat) : Int) + ((52 : Nat) : Int) - (52 : Nat)) (-1074) = -1074 + ((r / 4503599627370496 - 1 : Nat) : Int) := by omega
    rw [hmax]
    simp only [Int.sub_self, Int.toNat_zero, Nat.shiftLeft_zero, cut_zero]
    rw [show (-1074 + ((r / 4503599627370496 - 1 : Nat) : Int) - -1074).toNat = r / 4503599627370496 - 1 by omega]
    have : (r / 4503599627370496 - 1) * 4503599627370496 + (4503599627370496 + r % 4503599627370496) = r := by omega
    rw [this, Nat.min_eq_left (by omega)]
/-- .. by whatever magnitude and place the number is told. -/
theorem write_same (neg : Bool) {r m : Nat} {p : Int} {a b : Nat} (h : r < 9218868437227405312) (hp : p - a = pl r - b) (hm : m * 2 ^ a = mg r * 2 ^ b) : double.nearest neg m p = dW neg r := by
  rw [nearest_same double neg hp hm, write_word neg h]

/-! ### The order of words is that of their rungs -/
/-- The number of the rung r, in units of the least number of all. -/
def vv (r : Nat) : Nat := mg r * 2 ^ (pl r + 1074).toNat
theorem vv_small {r : Nat} (h : r < 4503599627370496) : vv r = r := by
  unfold vv mg pl
  rw [if_pos h, if_pos h]
  simp
theorem vv_great {r : Nat} (h : 4503599627370496 ≤ r) : vv r = (4503599627370496 + r % 4503599627370496) * 2 ^ (r / 4503599627370496 - 1) := by
  unfold vv mg pl
  rw [if_neg (by omega), if_neg (by omega), show (-1074 + ((r / 4503599627370496 - 1 : Nat) : Int) + 1074).toNat = r / 4503599627370496 - 1 by omega]
theorem vv_step (r : Nat) : vv r < vv (r + 1) := by
  by_cases h1 : r + 1 < 4503599627370496
  · rw [vv_small (by omega), vv_small h1]; omega
  · by_cases h2 : r + 1 = 4503599627370496
    · rw [vv_small (by omega), vv_great (by omega), h2]
      omega
    · rw [vv_great (by omega), vv_great (r := r + 1) (by omega)]
      by_cases h3 : (r + 1) % 4503599627370496 = 0
      · rw [show r % 4503599627370496 = 4503599627370495 by omega, h3, show (r + 1) / 4503599627370496 - 1 = (r / 4503599627370496 - 1) + 1 by omega, Nat.pow_succ, ← Nat.mul_assoc, Nat.mul_comm _ 2, ← Nat.mul_assoc]
        exact Nat.mul_lt_mul_of_pos_right (by omega) (Nat.pow_pos (by omega))
      · rw [show (r + 1) % 4503599627370496 = r % 4503599627370496 + 1 by omega, show (r + 1) / 4503599627370496 = r / 4503599627370496 by omega]
        exact Nat.mul_lt_mul_of_pos_right (by omega) (Nat.pow_pos (by omega))
theorem vv_add (r : Nat) : ∀ k, vv r < vv (r + k + 1)
  | 0 => vv_step r
  | k + 1 => Nat.lt_trans (vv_add r k) (vv_step (r + k + 1))
theorem vv_lt {r q : Nat} : vv r < vv q ↔ r < q := by
  constructor
  · intro h
    rcases Nat.lt_trichotomy r q with h1 | h1 | h1
    · exact h1
    · subst h1; omega
    · have := vv_add q (r - q - 1)
      rw [show q + (r - q - 1) + 1 = r by omega] at this
      omega
  · intro h
    have := vv_add r (q - r - 1)
    rwa [show r + (q - r - 1) + 1 = q by omega] at this
theorem vv_inj {r q : Nat} (h : vv r = vv q) : r = q := by
  rcases Nat.lt_trichotomy r q with h1 | h1 | h1
  · have := vv_lt.2 h1; omega
  · exact h1
  · have := vv_lt.2 h1; omega
def sv (neg : Bool) (r : Nat) : Int := if neg then -(vv r : Int) else vv r
theorem pl_ge (r : Nat) : -1074 ≤ pl r := by
  unfold pl
  split <;> omega
theorem signed_sv (neg : Bool) (r : Nat) (base : Int) (h0 : -1074 ≤ base) (h : base ≤ pl r) : signed neg (mg r) (pl r - base).toNat * ((2 ^ (base + 1074).toNat : Nat) : Int) = sv neg r := by
  have e : mg r <<< (pl r - base).toNat * 2 ^ (base + 1074).toNat = vv r := by
    unfold vv
    rw [Nat.shiftLeft_eq, Nat.mul_assoc, ← Nat.pow_add]
    congr 2
    omega
  unfold signed sv
  cases neg
  · simp only [Bool.false_eq_true, if_false]
    rw [← e, Int.natCast_mul]
  · simp only [if_true]
    rw [← e, Int.natCast_mul, Int.neg_mul]
theorem compare_scale (x y : Int) (c : Nat) (hc : 0 < c) : compare x y = compare (x * c) (y * c) := by
  have hc' : (0 : Int) < c := by omega
  rcases Int.lt_trichotomy x y with h | h | h
  · rw [Int.compare_eq_lt.2 h, Int.compare_eq_lt.2 (Int.mul_lt_mul_of_pos_right h hc')]
  · subst h; simp
  · rw [Int.compare_eq_gt.2 h, Int.compare_eq_gt.2 (Int.mul_lt_mul_of_pos_right h hc')]
/-- Two finite words are held against each other as their numbers. -/
theorem order_word (s t : Bool) {r q : Nat} (hr : r < 9218868437227405312) (hq : q < 9218868437227405312) : double.order (dW s r) (dW t q) = some (compare (sv s r) (sv t q)) := by
  unfold Format.order
  rw [read_word s hr, read_word t hq]
  simp only [Datum.order]
  have h1 := pl_ge r
  have h2 := pl_ge q
  rw [compare_scale _ _ (2 ^ (min (pl r) (pl q) + 1074).toNat) (Nat.pow_pos (by omega)), signed_sv s r _ (by omega) (by omega), signed_sv t q _ (by omega) (by omega)]

/-! ### Twice and half -/
/-- A product with a power of two, where the result is a word's. -/
theorem mul_pow (neg : Bool) {r r' : Nat} {w2 : Nat} {j : Int} (hr : r < 9218868437227405312) (hr' : r' < 9218868437227405312) (h2 : double.read w2 = .number false 4503599627370496 j) {a b : Nat}
    (hp : pl r + j - a = pl r' - b) (hm : mg r * 4503599627370496 * 2 ^ a = mg r' * 2 ^ b) : double.mul (dW neg r) w2 = some (dW neg r') := by
  unfold Format.mul
  rw [read_word neg hr, h2]
  simp only [Datum.product, Option.map_some, Format.write, Bool.xor_false]
  rw [write_same neg hr' hp hm]
/-- A quotient by a power of two, where the result is a word's. -/
theorem div_pow (neg : Bool) {r r' : Nat} {w2 : Nat} {j : Int} (hr : r < 9218868437227405312) (hr' : r' < 9218868437227405312) (h2 : double.read w2 = .number false 4503599627370496 j) {a b : Nat}
    (hp : pl r - j - 52 - a = pl r' - b) (hm : mg r * 2 ^ a = mg r' * 2 ^ b) : double.div (dW neg r) w2 = some (dW neg r') := by
  have hlog : (mg r).log2 ≤ 52 := log2_lt (by
    unfold mg
    split
    · omega
    · have := Nat.mod_lt r (show 4503599627370496 > 0 by omega)
      omega)
  unfold Format.div
  rw [read_word neg hr, h2]
  simp only [Datum.quotient, frac_eq]
  rw [if_neg (by omega), show (4503599627370496 : Nat).log2 = 52 by decide]
  simp only [Option.map_some, Format.write, Bool.xor_false]
  obtain ⟨e, he⟩ : ∃ e, 52 + 2 + 52 - (mg r).log2 = 52 + e := ⟨54 - (mg r).log2, by omega⟩
  rw [he, Nat.shiftLeft_eq, Nat.pow_add, show (2 ^ 52 : Nat) = 4503599627370496 by decide, ← Nat.mul_assoc, Nat.mul_comm (mg r) 4503599627370496, Nat.mul_assoc, Nat.mul_div_cancel_left _ (by omega), Nat.mul_mod_right]
  simp only [bne_self_eq_false, Bool.toNat_false, Nat.add_zero]
  congr 1
  refine write_same neg (a := a) (b := b + (e + 1)) hr' (by omega) ?_
  rw [Nat.pow_add, ← Nat.mul_assoc (mg r'), ← hm, Nat.pow_succ]
  generalize 2 ^ e = x
  generalize 2 ^ a = y
  generalize mg r = z
  ac_rfl
end Go.Proofs.Ytbcidfmfkmeinaa.Fl
namespace Go.Proofs.Ytbcidfmfkmeinaa.Fl
open Ieee
/-- The word nearest to m * 2 ^ p. -/
abbrev F (neg : Bool) (m : Nat) (p : Int) : Nat := double.nearest neg m p
/-- m * 2 ^ p is a number of the format. -/
def Rep (m : Nat) (p : Int) : Prop := m < 9007199254740992 ∧ -1074 ≤ p ∧ (m ≠ 0 → p + (m.log2 : Int) ≤ 1023)
theorem rep_rung {m : Nat} {p : Int} (h : Rep m p) : ∃ r, r < 9218868437227405312 ∧ vv r = m * 2 ^ (p + 1074).toNat := by
  obtain ⟨h1, h2, h3⟩ := h
  by_cases h0 : m = 0
  · subst h0
    exact ⟨0, by omega, by rw [vv_small (by omega)]; simp⟩
  have hl : m.log2 ≤ 52 := log2_lt (by omega)
  have hp := h3 h0
  have l1 := Nat.log2_self_le h0
  have l2 := Nat.lt_log2_self (n := m)
  by_cases hn : -1022 ≤ p + (m.log2 : Int)
  · -- a normal number
    obtain ⟨d, hd⟩ : ∃ d, d + m.log2 = 52 := ⟨52 - m.log2, by omega⟩
    have e1 : 2 ^ d * 2 ^ m.log2 = 4503599627370496 := by rw [← Nat.pow_add, hd]
    have e2 : 2 ^ d * 2 ^ (m.log2 + 1) = 9007199254740992 := by rw [← Nat.pow_add, show d + (m.log2 + 1) = 53 by omega]
    have g1 : 4503599627370496 ≤ 2 ^ d * m := by rw [← e1]; exact Nat.mul_le_mul_left _ l1
    have g2 : 2 ^ d * m < 9007199254740992 := by rw [← e2]; exact Nat.mul_lt_mul_of_pos_left l2 (Nat.pow_pos (by omega))
    obtain ⟨q, hq⟩ : ∃ q : Nat, (q : Int) = p - d + 1074 := ⟨(p - d + 1074).toNat, by omega⟩
    refine ⟨(q + 1) * 4503599627370496 + (2 ^ d * m - 4503599627370496), by omega, ?_⟩
    have k1 : ((q + 1) * 4503599627370496 + (2 ^ d * m - 4503599627370496)) % 4503599627370496 = 2 ^ d * m - 4503599627370496 := by
      rw [Nat.mul_comm, Nat.mul_add_mod]
      exact Nat.mod_eq_of_lt (by omega)
    have k2 : ((q + 1) * 4503599627370496 + (2 ^ d * m - 4503599627370496)) / 4503599627370496 = q + 1 := by
      rw [Nat.mul_comm, Nat.mul_add_div (by omega), Nat.div_eq_of_lt (by omega)]
    rw [vv_great (by omega), k1, k2, show 4503599627370496 + (2 ^ d * m - 4503599627370496) = 2 ^ d * m by omega, show (p + 1074).toNat = d + q by omega, Nat.pow_add, Nat.add_sub_cancel]
    ac_rfl
  · -- a small one
    refine ⟨m * 2 ^ (p + 1074).toNat, ?_, ?_⟩
    · have : m * 2 ^ (p + 1074).toNat < 2 ^ (m.log2 + 1) * 2 ^ (p + 1074).toNat := Nat.mul_lt_mul_of_pos_right l2 (Nat.pow_pos (by omega))
      rw [← Nat.pow_add] at this
      have h5 : 2 ^ (m.log2 + 1 + (p + 1074).toNat) ≤ 2 ^ 52 := Nat.pow_le_pow_right (by omega) (by omega)
      omega
    · rw [vv_small]
      have : m * 2 ^ (p + 1074).toNat < 2 ^ (m.log2 + 1) * 2 ^ (p + 1074).toNat := Nat.mul_lt_mul_of_pos_right l2 (Nat.pow_pos (by omega))
      rw [← Nat.pow_add] at this
      have h5 : 2 ^ (m.log2 + 1 + (p + 1074).toNat) ≤ 2 ^ 52 := Nat.pow_le_pow_right (by omega) (by omega)
      omega
theorem write_vv (neg : Bool) {r m : Nat} {p : Int} (hr : r < 9218868437227405312) (hp : -1074 ≤ p) (h : vv r = m * 2 ^ (p + 1074).toNat) : F neg m p = dW neg r := by
  have := pl_ge r
  refine write_same neg (a := (p + 1074).toNat) (b := (pl r + 1074).toNat) hr (by omega) ?_
  rw [← h]
  rfl
/-- The word of a number of the format, and what it stands for. -/
theorem rep_word {m : Nat} {p : Int} (h : Rep m p) (neg : Bool) : ∃ r, r < 9218868437227405312 ∧ F neg m p = dW neg r ∧ vv r = m * 2 ^ (p + 1074).toNat := by
  obtain ⟨r, h1, h2⟩ := rep_rung h
  exact ⟨r, h1, write_vv neg h1 h.2.1 h2, h2⟩
/-- Times a power of two: the exact number, rounded once. -/
theorem mul_F {m : Nat} {p : Int} (h : Rep m p) (neg : Bool) {w2 : Nat} {j : Int} (h2 : double.read w2 = .number false 4503599627370496 j) : double.mul (F neg m p) w2 = some (F neg m (p + 52 + j)) := by
  obtain ⟨r, h1, hw, hv⟩ := rep_word h neg
  have hp := h.2.1
  have hl := pl_ge r
  rw [hw]
  unfold Format.mul
  rw [read_word neg h1, h2]
  simp only [Datum.product, Option.map_some, Format.write, Bool.xor_false]
  congr 1
  refine nearest_same double neg (a := (pl r + 1074).toNat) (b := 52 + (p + 1074).toNat) (by omega) ?_
  have e : mg r * 2 ^ (pl r + 1074).toNat = m * 2 ^ (p + 1074).toNat := hv
  rw [Nat.pow_add, show (2 ^ 52 : Nat) = 4503599627370496 by decide, show m * (4503599627370496 * 2 ^ (p + 1074).toNat) = 4503599627370496 * (m * 2 ^ (p + 1074).toNat) by ac_rfl, ← e]
  ac_rfl
/-- Over a power of two. -/
theorem div_F {m : Nat} {p : Int} (h : Rep m p) (neg : Bool) {w2 : Nat} {j : Int} (h2 : double.read w2 = .number false 4503599627370496 j) : double.div (F neg m p) w2 = some (F neg m (p - 52 - j)) := by
  obtain ⟨r, h1, hw, hv⟩ := rep_word h neg
  have hp := h.2.1
  have hl := pl_ge r
  have hlog : (mg r).log2 ≤ 52 := log2_lt (by
    unfold mg
    split
    · omega
    · have := Nat.mod_lt r (show 4503599627370496 > 0 by omega)
      omega)
  rw [hw]
  unfold Format.div
  rw [read_word neg h1, h2]
  simp only [Datum.quotient, frac_eq]
  rw [if_neg (by omega), show (4503599627370496 : Nat).log2 = 52 by decide]
  simp only [Option.map_some, Format.write, Bool.xor_false]
  obtain ⟨e, he⟩ : ∃ e, 52 + 2 + 52 - (mg r).log2 = 52 + e := ⟨54 - (mg r).log2, by omega⟩
  rw [he, Nat.shiftLeft_eq, Nat.pow_add, show (2 ^ 52 : Nat) = 4503599627370496 by decide, ← Nat.mul_assoc, Nat.mul_comm (mg r) 4503599627370496, Nat.mul_assoc, Nat.mul_div_cancel_left _ (by omega), Nat.mul_mod_right]
  simp only [bne_self_eq_false, Bool.toNat_false, Nat.add_zero]
  congr 1
  refine nearest_same double neg (a := (pl r + 1074).toNat) (b := (p + 1074).toNat + (e + 1)) (by omega) ?_
  have e' : mg r * 2 ^ (pl r + 1074).toNat = m * 2 ^ (p + 1074).toNat := hv
  rw [Nat.pow_add, ← Nat.mul_assoc m, ← e', Nat.pow_succ]
  ac_rfl
theorem read_two : double.read 4611686018427387904 = .number false 4503599627370496 (-51) := by decide
theorem read_2_64 : double.read 4895412794951729152 = .number false 4503599627370496 12 := by decide
theorem twice_F {m : Nat} {p : Int} (h : Rep m p) (neg : Bool) : double.mul (F neg m p) 4611686018427387904 = some (F neg m (p + 1)) := by
  rw [mul_F h neg read_two]; congr 2; omega
theorem half_F {m : Nat} {p : Int} (h : Rep m p) (neg : Bool) : double.div (F neg m p) 4611686018427387904 = some (F neg m (p - 1)) := by
  rw [div_F h neg read_two]; congr 2; omega
theorem times64_F {m : Nat} {p : Int} (h : Rep m p) (neg : Bool) : double.mul (F neg m p) 4895412794951729152 = some (F neg m (p + 64)) := by
  rw [mul_F h neg read_2_64]; congr 2; omega
theorem over64_F {m : Nat} {p : Int} (h : Rep m p) (neg : Bool) : double.div (F neg m p) 4895412794951729152 = some (F neg m (p - 64)) := by
  rw [div_F h neg read_2_64]; congr 2; omega
/-- Two such numbers are held against each other as they are. -/
theorem order_F {m n : Nat} {p q : Int} (h : Rep m p) (k : Rep n q) (s t : Bool) :
    double.order (F s m p) (F t n q) = some (compare (if s then -((m * 2 ^ (p + 1074).toNat : Nat) : Int) else (m * 2 ^ (p + 1074).toNat : Nat)) (if t then -((n * 2 ^ (q + 1074).toNat : Nat) : Int) else (n * 2 ^ (q + 1074).toNat : Nat))) := by
  obtain ⟨r, h1, hw, hv⟩ := rep_word h s
  obtain ⟨r', k1, kw, kv⟩ := rep_word k t
  rw [hw, kw, order_word s t h1 k1, sv, sv, hv, kv]
end Go.Proofs.Ytbcidfmfkmeinaa.Fl
namespace Go.Proofs.Ytbcidfmfkmeinaa.Fl
open Ieee
theorem rep_int {m : Nat} (h : m < 9007199254740992) : Rep m 0 := ⟨h, by omega, fun _ => by have := log2_lt (m := m) (k := 52) (by omega); omega⟩
theorem zero_cut_zero (neg : Bool) (n : Nat) : Toward.zero.cut neg n 0 = n := by
  simp [Toward.cut]
/-- A whole number below 2^53 comes back. -/
theorem toInt_F {m : Nat} (h : m < 9007199254740992) : floatToIntVal .f64 (F false m 0) .i64 = some (m : Int) := by
  obtain ⟨r, hr, hw, hv⟩ := rep_word (rep_int h) false
  have hpl := pl_ge r
  rw [hw]
  unfold floatToIntVal
  have hrd : FloatKind.decode .f64 (dW false r) = .number false (mg r) (pl r) := read_word false hr
  rw [hrd]
  have e : mg r * 2 ^ (pl r + 1074).toNat = m * 2 ^ (0 + 1074 : Int).toNat := hv
  have key : Toward.zero.cut false (mg r <<< (pl r).toNat) (-(pl r)).toNat = m := by
    by_cases hp : 0 ≤ pl r
    · rw [show (-(pl r)).toNat = 0 by omega, zero_cut_zero, Nat.shiftLeft_eq]
      rw [show (pl r + 1074).toNat = (pl r).toNat + (0 + 1074 : Int).toNat by omega, Nat.pow_add, ← Nat.mul_assoc] at e
      exact Nat.eq_of_mul_eq_mul_right (Nat.pow_pos (by omega)) e
    · rw [show (pl r).toNat = 0 by omega, Nat.shiftLeft_zero]
      obtain ⟨d, hd⟩ : ∃ d : Nat, (d : Int) = -(pl r) := ⟨(-(pl r)).toNat, by omega⟩
      rw [show (-(pl r)).toNat = d by omega]
      have e2 : mg r = m * 2 ^ d := by
        have e3 : 2 ^ (0 + 1074 : Int).toNat = 2 ^ d * 2 ^ (pl r + 1074).toNat := by
          rw [← Nat.pow_add]; congr 1; omega
        rw [e3, ← Nat.mul_assoc] at e
        exact Nat.eq_of_mul_eq_mul_right (Nat.pow_pos (by omega)) e
      rw [e2]
      by_cases h0 : m = 0
      · subst h0; simp [Toward.cut]
      have hpos : 0 < 2 ^ d := Nat.pow_pos (by omega)
      have hne : m * 2 ^ d ≠ 0 := Nat.mul_ne_zero h0 (by omega)
      have hl : d ≤ (m * 2 ^ d).log2 := (Nat.le_log2 hne).2 (Nat.le_mul_of_pos_left _ (by omega))
      unfold Toward.cut
      rw [Nat.min_eq_left (by omega), Nat.shiftLeft_eq, Nat.one_mul]
      simp only [Nat.mul_div_cancel _ hpos]
      simp
  have hti : Datum.toInt .zero (.number false (mg r) (pl r)) = some (m : Int) := by
    simp only [Datum.toInt, Datum.integral, key, signed]
    simp
  rw [hti]
  have : IntKind.i64.min ≤ (m : Int) ∧ (m : Int) ≤ IntKind.i64.max := by
    constructor
    · have : IntKind.i64.min = -9223372036854775808 := by decide
      omega
    · have : IntKind.i64.max = 9223372036854775807 := by decide
      omega
  simp only [this.1, this.2, and_self, if_true]
theorem floatOfInt_F (n : Nat) : floatOfInt .f64 (n : Int) = F false n 0 := by
  unfold floatOfInt FloatKind.nearest FloatKind.encode
  rw [decide_eq_false (by omega : ¬ (n : Int) < 0), Int.natAbs_natCast]
  rfl
/-- Two numbers not below 0. -/
theorem order_P {m n : Nat} {p q : Int} (h : Rep m p) (k : Rep n q) :
    double.order (F false m p) (F false n q) = some (compare (m * 2 ^ (p + 1074).toNat) (n * 2 ^ (q + 1074).toNat)) := by
  rw [order_F h k false false]
  simp only [Bool.false_eq_true, if_false]
  congr 1
  generalize m * 2 ^ (p + 1074).toNat = x
  generalize n * 2 ^ (q + 1074).toNat = y
  rcases Nat.lt_trichotomy x y with h | h | h
  · rw [Nat.compare_eq_lt.2 h, Int.compare_eq_lt.2 (by omega)]
  · subst h; simp
  · rw [Nat.compare_eq_gt.2 h, Int.compare_eq_gt.2 (by omega)]
theorem rep_pow {q : Int} (h1 : -1074 ≤ q) (h2 : q ≤ 971) : Rep 4503599627370496 q := ⟨by omega, h1, fun _ => by
  rw [show (4503599627370496 : Nat).log2 = 52 by decide]; omega⟩
theorem lt_pow {m : Nat} {p q : Int} (h : Rep m p) (h1 : -1074 ≤ q) (h2 : q ≤ 971) (hlt : p < q) : double.order (F false m p) (F false 4503599627370496 q) = some .lt := by
  have hp := h.2.1
  have hm2 := h.1
  rw [order_P h (rep_pow h1 h2), Nat.compare_eq_lt.2]
  obtain ⟨d, hd⟩ : ∃ d : Nat, (q + 1074).toNat = (p + 1074).toNat + 1 + d := ⟨(q + 1074).toNat - (p + 1074).toNat - 1, by omega⟩
  rw [hd, Nat.pow_add, Nat.pow_add]
  have h3 : 0 < 2 ^ (p + 1074).toNat := Nat.pow_pos (by omega)
  have h4 : 0 < 2 ^ d := Nat.pow_pos (by omega)
  refine Nat.lt_of_lt_of_le (Nat.mul_lt_mul_of_pos_right hm2 h3) ?_
  refine Nat.le_trans (Nat.le_of_eq ?_) (Nat.mul_le_mul_left 4503599627370496 (Nat.le_mul_of_pos_right (2 ^ (p + 1074).toNat * 2 ^ 1) h4))
  rw [Nat.mul_comm (2 ^ (p + 1074).toNat), ← Nat.mul_assoc]
/-- A number of 53 digits is not below 2^52 * 2^q where its place is not below q. -/
theorem below_pow {m : Nat} {p q : Int} (h : Rep m p) (hm : 4503599627370496 ≤ m) (h1 : -1074 ≤ q) (h2 : q ≤ 971) (hle : q ≤ p) :
    double.order (F false m p) (F false 4503599627370496 q) = some .gt ∨ double.order (F false m p) (F false 4503599627370496 q) = some .eq := by
  have hp := h.2.1
  rw [order_P h (rep_pow h1 h2)]
  have h6 : 4503599627370496 * 2 ^ (q + 1074).toNat ≤ m * 2 ^ (p + 1074).toNat := by
    refine Nat.mul_le_mul hm (Nat.pow_le_pow_right (by omega) (by omega))
  rcases Nat.lt_or_eq_of_le h6 with h5 | h5
  · left; rw [Nat.compare_eq_gt.2 h5]
  · right; rw [h5]; simp
theorem small_below {m : Nat} {p : Int} (h : Rep m p) (hm : m < 4503599627370496) (hp : p ≤ 0) : double.order (F false m p) (F false 4503599627370496 0) = some .lt := by
  rw [order_P h (rep_pow (by omega) (by omega)), Nat.compare_eq_lt.2]
  have h3 : 0 < 2 ^ (p + 1074).toNat := Nat.pow_pos (by omega)
  have h1 := h.2.1
  exact Nat.lt_of_lt_of_le (Nat.mul_lt_mul_of_pos_right hm h3) (Nat.mul_le_mul_left _ (Nat.pow_le_pow_right (by omega) (by omega)))
theorem c116 : F false 4503599627370496 64 = 5129599975574994944 := by decide
theorem c53 : F false 4503599627370496 1 = 4845873199050653696 := by decide
theorem c52 : F false 4503599627370496 0 = 4841369599423283200 := by decide
end Go.Proofs.Ytbcidfmfkmeinaa.Fl
namespace Go.Proofs.Ytbcidfmfkmeinaa.Fl
open Ieee
theorem sq_lt {a b : Nat} (h : a * a < b * b) : a < b := by
  rcases Nat.lt_or_ge a b with h1 | h1
  · exact h1
  · exact absurd (Nat.mul_le_mul h1 h1) (by omega)
theorem root_uniq {n a b : Nat} (h1 : a * a ≤ n) (h2 : n < (a + 1) * (a + 1)) (h3 : b * b ≤ n) (h4 : n < (b + 1) * (b + 1)) : a = b := by
  have h5 : a < b + 1 := sq_lt (Nat.lt_of_le_of_lt h1 h4)
  have h6 : b < a + 1 := sq_lt (Nat.lt_of_le_of_lt h3 h2)
  omega
theorem rootFrom_spec (n : Nat) : ∀ todo root, root * root ≤ n → n < (root + 2 ^ todo) * (root + 2 ^ todo) → Datum.rootFrom n todo root * Datum.rootFrom n todo root ≤ n ∧ n < (Datum.rootFrom n todo root + 1) * (Datum.rootFrom n todo root + 1)
  | 0, root, h1, h2 => by
    simp only [Datum.rootFrom]
    exact ⟨h1, by simpa using h2⟩
  | todo + 1, root, h1, h2 => by
    simp only [Datum.rootFrom]
    rw [Nat.shiftLeft_eq, Nat.one_mul]
    by_cases h : (root + 2 ^ todo) * (root + 2 ^ todo) ≤ n
    · rw [if_pos h]
      refine rootFrom_spec n todo _ h ?_
      rw [Nat.pow_succ] at h2
      rw [show root + 2 ^ todo + 2 ^ todo = root + 2 ^ todo * 2 by omega]
      exact h2
    · rw [if_neg h]
      exact rootFrom_spec n todo _ h1 (by omega)
theorem whole_spec (n : Nat) : Datum.rootFrom n (n.log2 / 2 + 1) 0 * Datum.rootFrom n (n.log2 / 2 + 1) 0 ≤ n ∧ n < (Datum.rootFrom n (n.log2 / 2 + 1) 0 + 1) * (Datum.rootFrom n (n.log2 / 2 + 1) 0 + 1) := by
  refine rootFrom_spec n _ 0 (by omega) ?_
  rw [Nat.zero_add, ← Nat.pow_add]
  refine Nat.lt_of_lt_of_le (Nat.lt_log2_self (n := n)) (Nat.pow_le_pow_right (by omega) (by omega))
theorem mg_lt (r : Nat) : mg r < 9007199254740992 := by
  unfold mg
  split
  · omega
  · have := Nat.mod_lt r (show 4503599627370496 > 0 by omega)
    omega
theorem mg_pos {r : Nat} (h : 0 < r) : 0 < mg r := by
  unfold mg
  split <;> omega
theorem log2_mul_pow {m : Nat} (h : m ≠ 0) : ∀ c, (m * 2 ^ c).log2 = m.log2 + c
  | 0 => by simp
  | c + 1 => by
    rw [Nat.pow_succ, ← Nat.mul_assoc, Nat.mul_comm, log2_two_mul (Nat.mul_ne_zero h (Nat.ne_of_gt (Nat.pow_pos (by omega)))), log2_mul_pow h c]
    omega
/-- The whole root of m1 * 2^54, m1 from 2^52 to below 2^54. -/
theorem root_bounds {m1 R : Nat} (h1 : 4503599627370496 ≤ m1) (h2 : m1 + 2 ≤ 18014398509481984) (hR : R * R ≤ m1 * 18014398509481984) (hR' : m1 * 18014398509481984 < (R + 1) * (R + 1)) :
    9007199254740992 ≤ R ∧ R + 1 < 18014398509481984 := by
  constructor
  · have e : 9007199254740992 * 9007199254740992 = 4503599627370496 * 18014398509481984 := by decide
    have h3 : 9007199254740992 * 9007199254740992 < (R + 1) * (R + 1) := by
      rw [e]; exact Nat.lt_of_le_of_lt (Nat.mul_le_mul_right _ h1) hR'
    have h4 := sq_lt h3
    clear hR hR' h3 e
    omega
  · rcases Nat.lt_or_ge (R + 1) 18014398509481984 with h | h
    · exact h
    · have h4 : 18014398509481983 ≤ R := by omega
      have h3 : 18014398509481983 * 18014398509481983 ≤ R * R := Nat.mul_le_mul h4 h4
      have h5 : m1 * 18014398509481984 ≤ 18014398509481982 * 18014398509481984 := Nat.mul_le_mul_right _ (by omega)
      have h6 : 18014398509481982 * 18014398509481984 < 18014398509481983 * 18014398509481983 := by decide
      exact absurd (Nat.le_trans h3 (Nat.le_trans hR h5)) (Nat.not_le_of_lt h6)
theorem half_bounds {m1 R : Nat} (h1 : 4503599627370496 ≤ m1) (h2 : m1 + 2 ≤ 18014398509481984) (hR : R * R ≤ m1 * 18014398509481984) (hR' : m1 * 18014398509481984 < (R + 1) * (R + 1)) :
    4503599627370496 ≤ (R + 1) / 2 ∧ (R + 1) / 2 < 9007199254740992 := by
  have := root_bounds h1 h2 hR hR'
  clear hR hR'
  omega
theorem odd_sq {R : Nat} (h : R % 2 = 1) : R * R % 2 = 1 := by
  rw [Nat.mul_mod, h]
/-- The root of a finite word above 0, by the whole root R of m1 * 2^54. -/
theorem sqrt_word {r m1 c R : Nat} {e1 : Int} (hr0 : 0 < r) (hr : r < 9218868437227405312) (hm : m1 = mg r * 2 ^ c) (he : e1 = pl r - c) (h1 : 4503599627370496 ≤ m1) (h2 : m1 + 2 ≤ 18014398509481984) (hev : e1 % 2 = 0)
    (hR : R * R ≤ m1 * 18014398509481984) (hR' : m1 * 18014398509481984 < (R + 1) * (R + 1)) : double.sqrt (dW false r) = some (F false ((R + 1) / 2) (e1 / 2 - 26)) := by
  have hm0 := mg_pos hr0
  have hm0' := mg_lt r
  have hpl := pl_ge r
  have hlm : (mg r).log2 ≤ 52 := log2_lt (by omega)
  have hl1 : m1.log2 = (mg r).log2 + c := by rw [hm, log2_mul_pow (by omega)]
  have hl2 : 52 ≤ m1.log2 := (Nat.le_log2 (by omega)).2 (by omega)
  have hl3 : m1.log2 ≤ 53 := log2_lt (by omega)
  unfold Format.sqrt
  rw [read_word false hr]
  simp only [Datum.root, frac_eq]
  rw [if_neg (by omega)]
  simp only [Bool.false_eq_true, if_false, Option.map_some, Format.write]
  have hmore : 2 * (52 + 2) - (mg r).log2 + ((pl r - ((2 * (52 + 2) - (mg r).log2 : Nat) : Int)) % 2).toNat = c + 56 := by
    omega
  rw [hmore]
  have hn : mg r <<< (c + 56) = 4 * (m1 * 18014398509481984) := by
    rw [Nat.shiftLeft_eq, Nat.pow_add, hm]
    generalize 2 ^ c = x
    rw [show (2 ^ 56 : Nat) = 4 * 18014398509481984 by decide]
    ac_rfl
  rw [hn]
  obtain ⟨w1, w2⟩ := whole_spec (4 * (m1 * 18014398509481984))
  generalize Datum.rootFrom (4 * (m1 * 18014398509481984)) ((4 * (m1 * 18014398509481984)).log2 / 2 + 1) 0 = W at w1 w2 ⊢
  -- R is the half of W
  have hWR : W / 2 = R := by
    refine root_uniq (n := m1 * 18014398509481984) ?_ ?_ hR hR'
    · have : 2 * (W / 2) ≤ W := by omega
      have := Nat.mul_le_mul this this
      have e : 2 * (W / 2) * (2 * (W / 2)) = 4 * (W / 2 * (W / 2)) := by
        generalize W / 2 = x
        rw [show (4 : Nat) = 2 * 2 by decide]; ac_rfl
      omega
    · have : W + 1 ≤ 2 * (W / 2 + 1) := by omega
      have := Nat.mul_le_mul this this
      have e : 2 * (W / 2 + 1) * (2 * (W / 2 + 1)) = 4 * ((W / 2 + 1) * (W / 2 + 1)) := by
        generalize W / 2 + 1 = x
        rw [show (4 : Nat) = 2 * 2 by decide]; ac_rfl
      omega
  obtain ⟨b1, b2⟩ := root_bounds h1 h2 hR hR'
  obtain ⟨hb1, hb2⟩ := half_bounds h1 h2 hR hR'
  generalize hs : (W * W != 4 * (m1 * 18014398509481984)).toNat = s
  have hs1 : s ≤ 1 := by rw [← hs]; cases (W * W != 4 * (m1 * 18014398509481984)) <;> simp
  -- a tie is not there
  have htie : ¬ (s = 0 ∧ W % 4 = 2) := by
    rintro ⟨t1, t2⟩
    have t3 : W * W = 4 * (m1 * 18014398509481984) := by
      by_cases h : W * W = 4 * (m1 * 18014398509481984)
      · exact h
      · rw [bne_iff_ne.2 h] at hs
        simp at hs
        omega
    have t4 : R % 2 = 1 := by omega
    have t5 := odd_sq t4
    have t6 : W = 2 * R := by omega
    have t7 : W * W = 4 * (R * R) := by
      rw [t6, show (4 : Nat) = 2 * 2 by decide]; ac_rfl
    omega
  have hlog : (2 * W + s).log2 = 55 := by
    rw [Nat.log2_eq_iff (by omega)]
    omega
  have hlogm : ((R + 1) / 2).log2 = 52 := by
    rw [Nat.log2_eq_iff (by omega)]
    omega
  congr 1
  unfold F Format.nearest
  rw [if_neg (by omega), if_neg (by omega), hlog, hlogm, frac_eq, least_eq, binade_eq, inf_eq]
  have hpl2 : (pl r - ((c + 56 : Nat) : Int)) / 2 - 1 = e1 / 2 - 29 := by omega
  have hc : c ≤ 53 := by omega
  rw [hpl2]
  have hx1 : max (e1 / 2 - 29 + ((55 : Nat) : Int) - ((52 : Nat) : Int)) (-1074) = e1 / 2 - 26 := by omega
  have hx2 : max (e1 / 2 - 26 + ((52 : Nat) : Int) - ((52 : Nat) : Int)) (-1074) = e1 / 2 - 26 := by omega
  simp only [hx1, hx2]
  rw [show (e1 / 2 - 29 - (e1 / 2 - 26)).toNat = 0 by omega, show (e1 / 2 - 26 - (e1 / 2 - 29)).toNat = 3 by omega, Int.sub_self, Int.toNat_zero, Nat.shiftLeft_zero, Nat.shiftLeft_zero, cut_zero]
  have hcut : Toward.even.cut false (2 * W + s) 3 = (R + 1) / 2 := by
    unfold Toward.cut
    rw [hlog]
    simp only [show (1 <<< min 3 (55 + 2) : Nat) = 8 by decide]
    by_cases ho : R % 2 = 1
    · have : 8 < 2 * ((2 * W + s) % 8) := by omega
      simp only [this, decide_true, Bool.true_or, Bool.toNat_true]
      omega
    · have t1 : ¬ 8 < 2 * ((2 * W + s) % 8) := by omega
      have t2 : ¬ 8 = 2 * ((2 * W + s) % 8) := by omega
      have t3 : (8 == 2 * ((2 * W + s) % 8)) = false := by simpa using t2
      simp only [t1, t3, decide_false, Bool.false_or, Bool.false_and, Bool.toNat_false]
      omega
  rw [hcut]
end Go.Proofs.Ytbcidfmfkmeinaa.Fl
namespace Go.Proofs.Ytbcidfmfkmeinaa.Fl
open Ieee
/-- No NaN: the rung is at most that of the infinite one. -/
abbrev Num (x : Nat) : Prop := x % 9223372036854775808 ≤ 9218868437227405312
abbrev sg (x : Nat) : Bool := decide (9223372036854775808 ≤ x)
abbrev rg (x : Nat) : Nat := x % 9223372036854775808
theorem split_word {x : Nat} (h : x < 18446744073709551616) : x = dW (sg x) (rg x) := by
  unfold dW Format.word
  rw [sign_eq]
  by_cases h1 : 9223372036854775808 ≤ x
  · simp only [sg, rg, h1, decide_true, if_true]; omega
  · simp only [sg, rg, h1, decide_false, Bool.false_eq_true, if_false]; omega
theorem dW_true (r : Nat) : dW true r = 9223372036854775808 + r := by simp [dW, Format.word, sign_eq]
theorem dW_false (r : Nat) : dW false r = r := by simp [dW, Format.word]
theorem read_parts (neg : Bool) {r : Nat} (h : r < 9223372036854775808) : (dW neg r / 9223372036854775808 % 2 == 1) = neg ∧ dW neg r % 9223372036854775808 = r := by
  cases neg
  · rw [dW_false]
    refine ⟨?_, by omega⟩
    rw [Nat.div_eq_of_lt h]; rfl
  · rw [dW_true]
    refine ⟨?_, by omega⟩
    rw [Nat.add_div_left _ (by omega), Nat.div_eq_of_lt h]; rfl
theorem read_inf (neg : Bool) : double.read (dW neg 9218868437227405312) = .infinity neg := by
  cases neg <;> decide
theorem read_nan (neg : Bool) {r : Nat} (h1 : 9218868437227405312 < r) (h2 : r < 9223372036854775808) : double.read (dW neg r) = .nan neg (r - 9218868437227405312) := by
  obtain ⟨e1, e2⟩ := read_parts neg h2
  unfold Format.read
  simp only [sign_eq, binade_eq, inf_eq, e1, e2]
  rw [if_neg (by omega), if_neg (by omega), if_neg (by omega)]
theorem vv_pos {r : Nat} (h : 0 < r) : 0 < vv r := by
  have := vv_lt.2 h
  omega
theorem vv_zero : vv 0 = 0 := vv_small (by omega)
theorem order_le (s t : Bool) {r q : Nat} (hr : r ≤ 9218868437227405312) (hq : q ≤ 9218868437227405312) : double.order (dW s r) (dW t q) = some (compare (sv s r) (sv t q)) := by
  rcases Nat.lt_or_eq_of_le hr with h1 | h1
  · rcases Nat.lt_or_eq_of_le hq with h2 | h2
    · exact order_word s t h1 h2
    · subst h2
      unfold Format.order
      rw [read_word s h1, read_inf t]
      simp only [Datum.order]
      have := vv_lt.2 h1
      cases t
      · rw [Int.compare_eq_lt.2]
        · rfl
        · unfold sv; cases s <;> simp <;> omega
      · rw [Int.compare_eq_gt.2]
        · rfl
        · unfold sv; cases s <;> simp <;> omega
  · subst h1
    rcases Nat.lt_or_eq_of_le hq with h2 | h2
    · unfold Format.order
      rw [read_word t h2, read_inf s]
      simp only [Datum.order]
      have := vv_lt.2 h2
      cases s
      · rw [Int.compare_eq_gt.2]
        · rfl
        · unfold sv; cases t <;> simp <;> omega
      · rw [Int.compare_eq_lt.2]
        · rfl
        · unfold sv; cases t <;> simp <;> omega
    · subst h2
      unfold Format.order
      rw [read_inf s, read_inf t]
      simp only [Datum.order]
      have := vv_pos (r := 9218868437227405312) (by omega)
      cases s <;> cases t
      · simp [sv]
      · rw [Int.compare_eq_gt.2 (by unfold sv; simp; omega)]; rfl
      · rw [Int.compare_eq_lt.2 (by unfold sv; simp; omega)]; rfl
      · simp [sv]
theorem order_nan_l {x : Nat} (y : Nat) (hx : x < 18446744073709551616) (h : ¬ Num x) : double.order x y = none := by
  have h2 : double.read x = .nan (sg x) (rg x - 9218868437227405312) := by
    conv => lhs; rw [split_word hx]
    exact read_nan _ (by unfold Num at h; simp only [rg]; omega) (by simp only [rg]; omega)
  unfold Format.order
  rw [h2]
  rfl
theorem order_nan_r (x : Nat) {y : Nat} (hy : y < 18446744073709551616) (h : ¬ Num y) : double.order x y = none := by
  have h2 : double.read y = .nan (sg y) (rg y - 9218868437227405312) := by
    conv => lhs; rw [split_word hy]
    exact read_nan _ (by unfold Num at h; simp only [rg]; omega) (by simp only [rg]; omega)
  unfold Format.order
  rw [h2]
  cases double.read x <;> rfl
/-- Two words that are no NaN. -/
theorem order_num {x y : Nat} (hx : x < 18446744073709551616) (hy : y < 18446744073709551616) (nx : Num x) (ny : Num y) : double.order x y = some (compare (sv (sg x) (rg x)) (sv (sg y) (rg y))) := by
  conv => lhs; rw [split_word hx, split_word hy]
  exact order_le _ _ nx ny
theorem order_self {x : Nat} (hx : x < 18446744073709551616) (nx : Num x) : double.order x x = some .eq := by
  rw [order_num hx hx nx nx]; simp
/-- a != a -/
theorem ne_self {x : Nat} (hx : x < 18446744073709551616) : (double.order x x != some .eq) = decide (¬ Num x) := by
  by_cases h : Num x
  · rw [order_self hx h]; simp [h]
  · rw [order_nan_l x hx h]; simp [h]
theorem rank_lt {x y : Nat} (hx : x < 18446744073709551616) (hy : y < 18446744073709551616) (h : sv (sg x) (rg x) < sv (sg y) (rg y)) :
    (9223372036854775808 ≤ x ∧ 9223372036854775808 ≤ y ∧ y < x) ∨ (9223372036854775808 ≤ x ∧ y < 9223372036854775808) ∨ (x < y ∧ y < 9223372036854775808) := by
  unfold sv at h
  by_cases h1 : 9223372036854775808 ≤ x <;> by_cases h2 : 9223372036854775808 ≤ y
  · simp only [sg, h1, h2, decide_true, if_true] at h
    have : vv (rg y) < vv (rg x) := by omega
    have := vv_lt.1 this
    simp only [rg] at this
    omega
  · omega
  · simp only [sg, h1, h2, decide_true, decide_false, if_true, Bool.false_eq_true, if_false] at h
    omega
  · simp only [sg, h1, h2, decide_false, Bool.false_eq_true, if_false] at h
    have : vv (rg x) < vv (rg y) := by omega
    have := vv_lt.1 this
    simp only [rg] at this
    omega
/-- Equal by size: the same word, or both noughts. -/
theorem rank_eq {x y : Nat} (hx : x < 18446744073709551616) (hy : y < 18446744073709551616) (h : sv (sg x) (rg x) = sv (sg y) (rg y)) : x = y ∨ (rg x = 0 ∧ rg y = 0) := by
  unfold sv at h
  by_cases h1 : 9223372036854775808 ≤ x <;> by_cases h2 : 9223372036854775808 ≤ y
  · simp only [sg, h1, h2, decide_true, if_true] at h
    have : vv (rg x) = vv (rg y) := by omega
    have := vv_inj this
    simp only [rg] at this
    omega
  · simp only [sg, h1, h2, decide_true, decide_false, if_true, Bool.false_eq_true, if_false] at h
    right
    have a1 : vv (rg x) = vv 0 := by rw [vv_zero]; omega
    have a2 : vv (rg y) = vv 0 := by rw [vv_zero]; omega
    exact ⟨vv_inj a1, vv_inj a2⟩
  · simp only [sg, h1, h2, decide_true, decide_false, if_true, Bool.false_eq_true, if_false] at h
    right
    have a1 : vv (rg x) = vv 0 := by rw [vv_zero]; omega
    have a2 : vv (rg y) = vv 0 := by rw [vv_zero]; omega
    exact ⟨vv_inj a1, vv_inj a2⟩
  · simp only [sg, h1, h2, decide_false, Bool.false_eq_true, if_false] at h
    have : vv (rg x) = vv (rg y) := by omega
    have := vv_inj this
    simp only [rg] at this
    omega
/-- The bits with one NaN. -/
def fb (x : Nat) : Nat := if Num x then x else 9221120237041090560
/-- The place of a float among all. -/
def rk (x : Nat) : Nat := if 9223372036854775808 ≤ fb x then 18446744073709551615 - fb x else fb x + 9223372036854775808
def cmpF (x y : Nat) : Int := if rk x < rk y then -1 else if rk y < rk x then 1 else 0
theorem fb_lt {x : Nat} (hx : x < 18446744073709551616) : fb x < 18446744073709551616 := by unfold fb; split <;> omega
theorem rk_num {x : Nat} (h : Num x) : rk x = if 9223372036854775808 ≤ x then 18446744073709551615 - x else x + 9223372036854775808 := by
  unfold rk fb; rw [if_pos h]
theorem rk_nan {x : Nat} (h : ¬ Num x) : rk x = 18444492273895866368 := by
  unfold rk fb; rw [if_neg h]; rfl
theorem rk_num_lt {x : Nat} (hx : x < 18446744073709551616) (h : Num x) : rk x < 18444492273895866368 := by
  rw [rk_num h]
  unfold Num at h
  split <;> omega
theorem rk_inj {x y : Nat} (hx : x < 18446744073709551616) (hy : y < 18446744073709551616) (h : rk x = rk y) : fb x = fb y := by
  have := fb_lt hx
  have := fb_lt hy
  unfold rk at h
  split at h <;> split at h <;> omega
theorem cmp_lt {x y : Nat} (hx : x < 18446744073709551616) (hy : y < 18446744073709551616) (nx : Num x) (ny : Num y) (h : sv (sg x) (rg x) < sv (sg y) (rg y)) : cmpF x y = -1 := by
  unfold cmpF
  rw [if_pos]
  have := rank_lt hx hy h
  rw [rk_num nx, rk_num ny]
  split <;> split <;> omega
theorem cmp_gt {x y : Nat} (hx : x < 18446744073709551616) (hy : y < 18446744073709551616) (nx : Num x) (ny : Num y) (h : sv (sg y) (rg y) < sv (sg x) (rg x)) : cmpF x y = 1 := by
  have h1 := rank_lt hy hx h
  have h2 : rk y < rk x := by
    rw [rk_num nx, rk_num ny]
    split <;> split <;> omega
  unfold cmpF
  rw [if_neg (by omega), if_pos h2]
theorem cmp_eq {x y : Nat} (hx : x < 18446744073709551616) (hy : y < 18446744073709551616) (nx : Num x) (ny : Num y) (h : sv (sg x) (rg x) = sv (sg y) (rg y)) :
    cmpF x y = if sg x = sg y then 0 else if sg x then -1 else 1 := by
  rcases rank_eq hx hy h with h1 | ⟨h1, h2⟩
  · subst h1; simp [cmpF]
  · unfold cmpF
    rw [rk_num nx, rk_num ny]
    simp only [sg, rg] at h1 h2 ⊢
    by_cases a : 9223372036854775808 ≤ x <;> by_cases b : 9223372036854775808 ≤ y <;> simp [a, b] <;> omega
end Go.Proofs.Ytbcidfmfkmeinaa.Fl
namespace Go.Proofs.Ytbcidfmfkmeinaa.Fl
open Ieee
/-- The NaN that is chosen at this place of the run. -/
def nanAt (w : World) (x y : Nat) : Nat := (Question.nanBits .f64 x y).cut (w.tape w.drawn (Question.nanBits .f64 x y))
theorem nanAt_lt (w : World) (x y : Nat) : nanAt w x y < 18446744073709551616 := by
  unfold nanAt
  simp only [Question.cut]
  omega
theorem nanAt_nan (w : World) (x y : Nat) : ¬ Num (nanAt w x y) := by
  unfold nanAt Num
  simp only [Question.cut]
  generalize w.tape w.drawn (Question.nanBits .f64 x y) = t
  have h1 : t % 2 = 0 ∨ t % 2 = 1 := by omega
  have h2 : t / 2 % (2 ^ 52 - 1) < 4503599627370495 := Nat.mod_lt _ (by decide)
  generalize t / 2 % (2 ^ 52 - 1) = c at h2 ⊢
  rcases h1 with h1 | h1 <;> rw [h1] <;> omega
theorem run_float_none {P : Program} (w : World) (op : BinOp) (t : TypeId) (x y : Nat) (hop : op = .add ∨ op = .sub ∨ op = .mul ∨ op = .quo) (h : floatBits op .f64 x y = none) :
    (binOp op t (.float .f64 x) (.float .f64 y)).run P w = .ok (.float .f64 (nanAt w x y)) w.drew := by
  unfold floatBits at h
  rcases hop with rfl | rfl | rfl | rfl <;> simp only at h <;> simp [binOp, Op.floatArith, h, nanAt, Question.forced]
/-- What a float's operation gives. -/
def opV (op : BinOp) (x y : Nat) (w : World) : Nat := (floatBits op .f64 x y).getD (nanAt w x y)
def opW (op : BinOp) (x y : Nat) (w : World) : World := if (floatBits op .f64 x y).isSome then w else w.drew
theorem run_float {P : Program} (w : World) (op : BinOp) (t : TypeId) (x y : Nat) (hop : op = .add ∨ op = .sub ∨ op = .mul ∨ op = .quo) :
    (binOp op t (.float .f64 x) (.float .f64 y)).run P w = .ok (.float .f64 (opV op x y w)) (opW op x y w) := by
  unfold opV opW
  cases h : floatBits op .f64 x y with
  | none => simpa using run_float_none w op t x y hop h
  | some r => simpa using run_float_arith w op t .f64 x y r h
/-- All NaNs are one. -/
def cl (x : Nat) : Option Nat := if Num x then some x else none
def opC (op : BinOp) (a b : Option Nat) : Option Nat := a.bind fun x => b.bind fun y => (floatBits op .f64 x y).bind cl
theorem opV_lt (op : BinOp) (x y : Nat) (w : World) : opV op x y w < 18446744073709551616 := by
  unfold opV
  cases h : floatBits op .f64 x y with
  | none => exact nanAt_lt w x y
  | some r =>
    have := floatBits_wf h
    simpa [Lit.wf] using this
theorem read_not_num {x : Nat} (hx : x < 18446744073709551616) (h : ¬ Num x) : double.read x = .nan (sg x) (rg x - 9218868437227405312) := by
  conv => lhs; rw [split_word hx]
  exact read_nan _ (by unfold Num at h; simp only [rg]; omega) (by simp only [rg]; omega)
theorem floatBits_nan_l {op : BinOp} {x : Nat} (y : Nat) (hx : x < 18446744073709551616) (h : ¬ Num x) : floatBits op .f64 x y = none := by
  have h2 := read_not_num hx h
  unfold floatBits
  cases op <;> simp only [FloatKind.format, Format.add, Format.sub, Format.mul, Format.div, h2] <;> rfl
theorem floatBits_nan_r {op : BinOp} (x : Nat) {y : Nat} (hy : y < 18446744073709551616) (h : ¬ Num y) : floatBits op .f64 x y = none := by
  have h2 := read_not_num hy h
  unfold floatBits
  cases op <;> simp only [FloatKind.format, Format.add, Format.sub, Format.mul, Format.div, h2, Datum.opposite] <;> cases double.read x <;> rfl
theorem opV_cl {op : BinOp} {x y : Nat} (w : World) (hx : x < 18446744073709551616) (hy : y < 18446744073709551616) : cl (opV op x y w) = opC op (cl x) (cl y) := by
  unfold opC
  by_cases nx : Num x
  · by_cases ny : Num y
    · simp only [cl, nx, ny, if_true, Option.bind_some]
      unfold opV
      cases h : floatBits op .f64 x y with
      | none => simp [nanAt_nan w x y]
      | some r => simp [cl]
    · simp only [cl, nx, ny, if_true, if_false, Option.bind_some, Option.bind_none]
      unfold opV
      rw [floatBits_nan_r x hy ny]
      simp [nanAt_nan w x y]
  · simp only [cl, nx, if_false, Option.bind_none]
    unfold opV
    rw [floatBits_nan_l y hx nx]
    simp [nanAt_nan w x y]
theorem opW_below (op : BinOp) (x y : Nat) (w : World) : opW op x y w = w ∨ opW op x y w = w.drew := by
  unfold opW; split <;> simp
theorem opW_drewN (op : BinOp) (x y : Nat) (w : World) : ∃ q, opW op x y w = w.drewN q := by
  rcases opW_below op x y w with h | h
  · exact ⟨0, by rw [h]; rfl⟩
  · exact ⟨1, by rw [h]; rfl⟩
end Go.Proofs.Ytbcidfmfkmeinaa.Fl
namespace Go.Proofs.Ytbcidfmfkmeinaa.Fl
open Ieee
set_option linter.unusedSimpArgs false
theorem rep_rg {r : Nat} (h : r < 9218868437227405312) : Rep (mg r) (pl r) := by
  refine ⟨mg_lt r, pl_ge r, fun _ => ?_⟩
  have h1 : (mg r).log2 ≤ 52 := log2_lt (by have := mg_lt r; omega)
  unfold pl
  split <;> omega
theorem F_rg (neg : Bool) {r : Nat} (h : r < 9218868437227405312) : F neg (mg r) (pl r) = dW neg r := write_word neg h
theorem mg_small {r : Nat} (h : mg r < 4503599627370496) : pl r = -1074 := by
  unfold mg at h
  unfold pl
  split at h
  · rename_i h1; rw [if_pos h1]
  · omega
theorem pl_le {r : Nat} (h : r < 9218868437227405312) : pl r ≤ 971 := by
  unfold pl; split <;> omega
theorem rep_lower {m : Nat} {p q : Int} (h : Rep m p) (h1 : -1074 ≤ q) (h2 : q ≤ p) : Rep m q := ⟨h.1, h1, fun k => by have := h.2.2 k; omega⟩
theorem rep_upto {m : Nat} {q : Int} (h : m < 9007199254740992) (h1 : -1074 ≤ q) (h2 : q ≤ 971) : Rep m q := ⟨h, h1, fun _ => by have := log2_lt (m := m) (k := 52) (by omega); omega⟩
theorem order_of_lt {x y : Nat} (hx : x < 18446744073709551616) (hy : y < 18446744073709551616) (nx : Num x) (ny : Num y) (h : sv (sg x) (rg x) < sv (sg y) (rg y)) : FloatKind.f64.format.order x y = some .lt := by
  show double.order x y = _
  rw [order_num hx hy nx ny, Int.compare_eq_lt.2 h]
theorem order_of_gt {x y : Nat} (hx : x < 18446744073709551616) (hy : y < 18446744073709551616) (nx : Num x) (ny : Num y) (h : sv (sg y) (rg y) < sv (sg x) (rg x)) : FloatKind.f64.format.order x y = some .gt := by
  show double.order x y = _
  rw [order_num hx hy nx ny, Int.compare_eq_gt.2 h]
theorem order_of_eq {x y : Nat} (hx : x < 18446744073709551616) (hy : y < 18446744073709551616) (nx : Num x) (ny : Num y) (h : sv (sg x) (rg x) = sv (sg y) (rg y)) : FloatKind.f64.format.order x y = some .eq := by
  show double.order x y = _
  rw [order_num hx hy nx ny, h]; simp
/-- Against 0. -/
theorem order_zero {x : Nat} (hx : x < 18446744073709551616) (nx : Num x) : FloatKind.f64.format.order x 0 = some (if rg x = 0 then .eq else if sg x then .lt else .gt) := by
  have n0 : Num 0 := by decide
  by_cases h : rg x = 0
  · rw [if_pos h]
    refine order_of_eq hx (by omega) nx n0 ?_
    simp only [sv, h, vv_zero, rg, Nat.zero_mod]
    cases sg x <;> simp
  · have := vv_pos (r := rg x) (by omega)
    rw [if_neg h]
    by_cases hs : sg x = true
    · rw [if_pos hs]
      refine order_of_lt hx (by omega) nx n0 ?_
      simp only [sv, hs, if_true, show rg 0 = 0 from rfl, vv_zero, show sg 0 = false from rfl]
      simp; omega
    · rw [if_neg hs]
      refine order_of_gt hx (by omega) nx n0 ?_
      simp only [sv, hs, if_false, show rg 0 = 0 from rfl, vv_zero, show sg 0 = false from rfl]
      simp; omega
theorem order_large {x : Nat} (hx : x < 18446744073709551616) (nx : Num x) : (FloatKind.f64.format.order x 9218868437227405311 = some .gt) ↔ x = 9218868437227405312 := by
  have n0 : Num 9218868437227405311 := by decide
  have e1 : sg 9218868437227405311 = false := by decide
  have e2 : rg 9218868437227405311 = 9218868437227405311 := by decide
  constructor
  · intro h
    rw [show FloatKind.f64.format.order x 9218868437227405311 = double.order x 9218868437227405311 from rfl, order_num hx (by omega) nx n0, e1, e2] at h
    have h1 := Int.compare_eq_gt.1 (Option.some.inj h)
    unfold sv at h1
    by_cases hs : sg x = true
    · simp only [hs, if_true] at h1
      simp at h1; omega
    · simp only [hs, if_false] at h1
      simp at h1
      have h2 := vv_lt.1 h1
      simp only [sg, decide_eq_true_eq] at hs
      simp only [rg] at h2
      unfold Num at nx
      omega
  · rintro rfl
    refine order_of_gt (by omega) (by omega) nx n0 ?_
    rw [e1, e2, show sg 9218868437227405312 = false by decide, show rg 9218868437227405312 = 9218868437227405312 by decide]
    have := vv_lt.2 (show 9218868437227405311 < 9218868437227405312 by omega)
    simp only [sv]
    simp
    exact this
theorem order_least {x : Nat} (hx : x < 18446744073709551616) (nx : Num x) : (FloatKind.f64.format.order x 18442240474082181119 = some .lt) ↔ x = 18442240474082181120 := by
  have n0 : Num 18442240474082181119 := by decide
  have e1 : sg 18442240474082181119 = true := by decide
  have e2 : rg 18442240474082181119 = 9218868437227405311 := by decide
  constructor
  · intro h
    rw [show FloatKind.f64.format.order x 18442240474082181119 = double.order x 18442240474082181119 from rfl, order_num hx (by omega) nx n0, e1, e2] at h
    have h1 := Int.compare_eq_lt.1 (Option.some.inj h)
    unfold sv at h1
    by_cases hs : sg x = true
    · simp only [hs, if_true] at h1
      have h3 : vv 9218868437227405311 < vv (rg x) := by omega
      have h2 := vv_lt.1 h3
      simp only [sg, decide_eq_true_eq] at hs
      simp only [rg] at h2
      unfold Num at nx
      omega
    · simp only [hs, if_false] at h1
      simp at h1; omega
  · rintro rfl
    refine order_of_lt (by omega) (by omega) nx n0 ?_
    rw [e1, e2, show sg 18442240474082181120 = true by decide, show rg 18442240474082181120 = 9218868437227405312 by decide]
    have := vv_lt.2 (show 9218868437227405311 < 9218868437227405312 by omega)
    simp only [sv, if_true]
    omega
/-- beq of two orders, as the walk has it. -/
theorem beq_order {o : Option Ordering} {c : Option Ordering} : (o == c) = decide (o = c) := by
  cases h : decide (o = c) with
  | true => rw [decide_eq_true_eq] at h; simp [h]
  | false => rw [decide_eq_false_iff_not] at h; simpa using h
end Go.Proofs.Ytbcidfmfkmeinaa.Fl
