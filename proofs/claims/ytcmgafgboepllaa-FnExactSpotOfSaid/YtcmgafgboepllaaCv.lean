/- Floats made whole, and the sign of a quotient: plainly. -/
import Derived.Test.YtcmgafgboepllaaDo
import Derived.Test.YtcmgafgboepllaaIn
namespace Go.Proofs.Ytcmgafgboepllaa
open Go.RowKit Fl Ieee
set_option linter.unusedVariables false
def ux : Nat := 1074
theorem ux_eq : ux = 1074 := rfl
abbrev unit : Nat := 2 ^ ux
theorem cut_zero (s : Bool) (n k : Nat) : Toward.zero.cut s n k = n / 2 ^ k := by
  simp only [Toward.cut, Nat.one_shiftLeft, Bool.toNat_false, Nat.add_zero]
  by_cases h : k ≤ n.log2 + 2
  · rw [Nat.min_eq_left h]
  · rw [Nat.min_eq_right (by omega)]
    have h1 : n < 2 ^ (n.log2 + 1) := Nat.lt_log2_self
    have h2 : 2 ^ (n.log2 + 1) ≤ 2 ^ (n.log2 + 2) := Nat.pow_le_pow_right (by omega) (by omega)
    have h3 : 2 ^ (n.log2 + 1) ≤ 2 ^ k := Nat.pow_le_pow_right (by omega) (by omega)
    rw [Nat.div_eq_of_lt (by omega), Nat.div_eq_of_lt (by omega)]
theorem toInt_vv (s : Bool) {r : Nat} (h : r < 9218868437227405312) : (double.read (dW s r)).toInt .zero = some (if s then -((vv r / unit : Nat) : Int) else ((vv r / unit : Nat) : Int)) := by
  rw [read_word s h]
  simp only [Datum.toInt, Datum.integral, cut_zero, signed, Nat.shiftLeft_eq, Nat.pow_zero, Nat.mul_one]
  have hp := pl_ge r
  have key : mg r * 2 ^ (pl r).toNat / 2 ^ (-pl r).toNat = vv r / unit := by
    unfold vv unit
    by_cases h0 : 0 ≤ pl r
    · have e1 : (-pl r).toNat = 0 := by omega
      have e2 : (pl r + 1074).toNat = (pl r).toNat + ux := by rw [ux_eq]; omega
      rw [e1, e2, Nat.pow_zero, Nat.div_one, Nat.pow_add, ← Nat.mul_assoc, Nat.mul_div_cancel _ (Nat.pow_pos (by omega))]
    · have e1 : (pl r).toNat = 0 := by omega
      obtain ⟨P, hP⟩ : ∃ P : Nat, P = (-pl r).toNat := ⟨_, rfl⟩
      have e2 : (pl r + 1074).toNat = ux - P := by rw [ux_eq]; omega
      rw [e1, e2, ← hP, Nat.pow_zero, Nat.mul_one]
      have e3 : ux = P + (ux - P) := by have := ux_eq; omega
      rw [show (2 : Nat) ^ ux = 2 ^ P * 2 ^ (ux - P) by rw [← Nat.pow_add, ← e3]]
      rw [Nat.mul_div_mul_right _ _ (Nat.pow_pos (by omega))]
  rw [key]
/-- A float that is not below nought. -/
def NN (x : Nat) : Prop := sg x = false ∨ rg x = 0
theorem down_nn {x : Nat} (hx : W64 x) (hf : rg x < 9218868437227405312) (hn : NN x) : (FloatKind.f64.decode x).toInt .zero = some ((vv (rg x) / unit : Nat) : Int) := by
  have e := toInt_vv (sg x) hf
  rw [← split_word hx] at e
  show (double.read x).toInt .zero = _
  rw [e]
  rcases hn with h | h
  · rw [h]; rfl
  · rw [h, vv_zero, Nat.zero_div]; split <;> rfl
theorem down_run {x : Nat} (hx : W64 x) (hf : rg x < 9218868437227405312) (hn : NN x) {T : Nat} (hT : vv (rg x) / unit = T) (ht : T < 9223372036854775808) (w : World) : (convert 24 2 (.float .f64 x)).run Try.prog w = .ok (.int .i64 (T : Int)) w := by
  refine run_convert_float_int w 24 2 .f64 .i64 _ _ (by rw [Try.underlying24]; rfl) Try.underlying2 ?_
  unfold floatToIntVal
  rw [down_nn hx hf hn, hT]
  have h1 : IntKind.i64.min = -9223372036854775808 := by decide
  have h2 : IntKind.i64.max = 9223372036854775807 := by decide
  simp only [h1, h2]
  rw [if_pos (by omega)]
theorem nn_of_ge {x : Nat} (hx : W64 x) (h : (double.order x 0 == some .gt || double.order x 0 == some .eq) = true) : Num x ∧ NN x := by
  by_cases n : Num x
  · refine ⟨n, ?_⟩
    rw [order_num hx (by omega) n (by decide)] at h
    unfold NN
    by_cases s : sg x = false
    · exact Or.inl s
    · right
      have s' : sg x = true := by simpa using s
      rw [s'] at h
      have z0 : sv (sg 0) (rg 0) = 0 := by simp [sv, vv_zero]
      rw [z0] at h
      rcases Nat.eq_zero_or_pos (rg x) with e | e
      · exact e
      · have hv := vv_pos e
        have : compare (sv true (rg x)) 0 = .lt := by
          simp only [compare, compareOfLessAndEq]
          rw [if_pos]
          simp only [sv, if_true]
          omega
        rw [this] at h
        simp at h
  · rw [order_nan_l 0 hx n] at h
    simp at h
end Go.Proofs.Ytcmgafgboepllaa
