/- The whole root of a number, by floats: what comes out is within bounds, and the root itself where the number is a square. -/
import Derived.Test.YtloebnlmeplgbaaFlSquare
import Derived.Test.YtloebnlmeplgbaaBs
import Derived.Laws.BitsAllLaws
namespace Go.Proofs.Ytloebnlmeplgbaa
open Go.RowKit Fl Ieee
set_option linter.unusedVariables false
def ux : Nat := 1074
theorem ux_eq : ux = 1074 := rfl
abbrev unit : Nat := 2 ^ ux
theorem cut_zero (s : Bool) (n k : Nat) : Toward.zero.cut s n k = n / 2 ^ k := by
  simp only [Toward.cut, Nat.one_shiftLeft, Bool.toNat_false, Nat.add_zero]
  by_cases h : k ≤ n.log2 + 2
  · rw [Nat.min_eq_left h]
  · rw [Nat.min_eq_right (by omega)]
    have h1 : n < 2 ^ (n.log2 + 1) := Nat.lt_log2_self
    have h2 : 2 ^ (n.log2 + 1) ≤ 2 ^ (n.log2 + 2) := Nat.pow_le_pow_right (by omega) (by omega)
    have h3 : 2 ^ (n.log2 + 1) ≤ 2 ^ k := Nat.pow_le_pow_right (by omega) (by omega)
    rw [Nat.div_eq_of_lt (by omega), Nat.div_eq_of_lt (by omega)]
theorem toInt_vv (s : Bool) {r : Nat} (h : r < 9218868437227405312) : (double.read (dW s r)).toInt .zero = some (if s then -((vv r / unit : Nat) : Int) else ((vv r / unit : Nat) : Int)) := by
  rw [read_word s h]
  simp only [Datum.toInt, Datum.integral, cut_zero, signed, Nat.shiftLeft_eq, Nat.pow_zero, Nat.mul_one]
  have hp := pl_ge r
  have key : mg r * 2 ^ (pl r).toNat / 2 ^ (-pl r).toNat = vv r / unit := by
    unfold vv unit
    by_cases h0 : 0 ≤ pl r
    · have e1 : (-pl r).toNat = 0 := by omega
      have e2 : (pl r + 1074).toNat = (pl r).toNat + ux := by rw [ux_eq]; omega
      rw [e1, e2, Nat.pow_zero, Nat.div_one, Nat.pow_add, ← Nat.mul_assoc, Nat.mul_div_cancel _ (Nat.pow_pos (by omega))]
    · have e1 : (pl r).toNat = 0 := by omega
      obtain ⟨P, hP⟩ : ∃ P : Nat, P = (-pl r).toNat := ⟨_, rfl⟩
      have e2 : (pl r + 1074).toNat = ux - P := by rw [ux_eq]; omega
      rw [e1, e2, ← hP, Nat.pow_zero, Nat.mul_one]
      have e3 : ux = P + (ux - P) := by have := ux_eq; omega
      rw [show (2 : Nat) ^ ux = 2 ^ P * 2 ^ (ux - P) by rw [← Nat.pow_add, ← e3]]
      rw [Nat.mul_div_mul_right _ _ (Nat.pow_pos (by omega))]
  rw [key]
theorem dW_false (r : Nat) : dW false r = r := by simp [dW, Format.word]
theorem whole_at {v : Nat} (h : v < 9218868437227405312) {T : Nat} (hT : vv v / unit = T) (ht : T < 9223372036854775808) : floatToIntVal .f64 v .i64 = some (T : Int) := by
  have e := toInt_vv false h
  rw [dW_false] at e
  unfold floatToIntVal
  have e' : (FloatKind.f64.decode v).toInt .zero = some ((T : Nat) : Int) := by show (double.read v).toInt .zero = _; rw [e, hT]; rfl
  rw [e']
  have h1 : IntKind.i64.min = -9223372036854775808 := by decide
  have h2 : IntKind.i64.max = 9223372036854775807 := by decide
  simp only [h1, h2]
  rw [if_pos (by omega)]
theorem word_of (n : Nat) (h : n < 9007199254740992) : ∃ r, r < 9218868437227405312 ∧ F false n 0 = r ∧ vv r = n * unit := by
  obtain ⟨r, r1, r2, r3⟩ := rep_word (rep_int (m := n) h) false
  have e : ((0 : Int) + 1074).toNat = ux := by rw [ux_eq]; rfl
  rw [e] at r3
  rw [dW_false] at r2
  exact ⟨r, r1, r2, r3⟩
theorem sqrt_50000 : double.sqrt (F false 2500000000 0) = some (F false 50000 0) := by decide +kernel
theorem sqrt_30000 : double.sqrt (F false 900000000 0) = some (F false 30000 0) := by decide +kernel
theorem whole_root (n : Nat) (h0 : 0 < n) (hn : n ≤ 2000000000) : ∃ v T : Nat, double.sqrt (F false n 0) = some v ∧ floatToIntVal .f64 v .i64 = some (T : Int) ∧ T ≤ 50000 ∧ ∀ r, r ≤ 30000 → r * r = n → T = r := by
  obtain ⟨x, x1, x2, x3⟩ := word_of n (by omega)
  obtain ⟨y, y1, y2, y3⟩ := word_of 2500000000 (by omega)
  obtain ⟨z, z1, z2, z3⟩ := word_of 50000 (by omega)
  have hu : 0 < unit := Nat.pow_pos (by omega)
  have hxy : x < y := by rw [← vv_lt, x3, y3]; exact Nat.mul_lt_mul_of_pos_right (by omega) hu
  have hx0 : 0 < x := by
    rcases Nat.eq_zero_or_pos x with h | h
    · rw [h] at x3
      have : vv 0 = 0 := by decide
      rw [this] at x3
      have := Nat.mul_pos h0 hu
      omega
    · exact h
  obtain ⟨m1, R, e1, _, _, _, _, _, _, _, _, hv⟩ := root_form hx0 x1
  obtain ⟨v, hv'⟩ : ∃ v, double.sqrt x = some v := ⟨_, hv⟩
  clear hv
  have hp := root_pos hx0 x1 hv'
  have hy : double.sqrt y = some z := by rw [← y2, ← z2]; exact sqrt_50000
  have hm := root_mono hx0 hxy y1 hv' hy
  have hle : vv v ≤ 50000 * unit := by
    have hz := root_pos (by omega) y1 hy
    have nz : Num z := by unfold Num; omega
    have nv : Num v := by unfold Num; omega
    rw [order_num (by omega) (by omega) nz nv] at hm
    have sz : sg z = false ∧ rg z = z := ⟨by simp [sg]; omega, by simp [rg]; omega⟩
    have sv' : sg v = false ∧ rg v = v := ⟨by simp [sg]; omega, by simp [rg]; omega⟩
    rw [sz.1, sz.2, sv'.1, sv'.2] at hm
    simp only [sv, Option.some.injEq, Bool.false_eq_true, if_false] at hm
    rw [← z3]
    rcases hm with h | h
    · have := Int.compare_eq_gt.1 h
      omega
    · have := Int.compare_eq_eq.1 h
      omega
  have hT : vv v / unit ≤ 50000 := Nat.div_le_of_le_mul (by rw [Nat.mul_comm]; exact hle)
  refine ⟨v, vv v / unit, by rw [x2]; exact hv', whole_at hp.2 rfl (by omega), hT, fun r hr e => ?_⟩
  have hr0 : 0 < r := by
    rcases Nat.eq_zero_or_pos r with h | h
    · rw [h] at e; omega
    · exact h
  have hs : double.sqrt (F false (r * r) 0) = some (F false r 0) := by
    by_cases h : r < 30000
    · exact sqrt_square hr0 h
    · obtain rfl : r = 30000 := by omega
      exact sqrt_30000
  rw [e, x2, hv'] at hs
  have hvr := Option.some.inj hs
  have ht := toInt_F (m := r) (by omega)
  rw [← hvr, whole_at hp.2 rfl (by omega)] at ht
  have := Option.some.inj ht
  omega
theorem sqrt111 {x v : Nat} (h : Ieee.double.sqrt x = some v) (w : World) : (callFunc 111 #[.float .f64 x]).run Try.prog w = .ok (.value (.float .f64 v)) w := by
  rw [run_callFunc_extern Try.func111 (by kernel_rfl) (by kernel_rfl) (by kernel_rfl) (e := Extern.MathSqrt.sqrt) (by kernel_rfl)]
  have h' : FloatKind.f64.format.sqrt x = some v := h
  show (Sem.run Try.prog (match FloatKind.f64.format.sqrt x with
    | some r => pure (Value.float .f64 r)
    | none => do pure (Value.float .f64 (← choose (.nanBits .f64 x x)))) w).andThen _ = _
  rw [h']
  rfl
theorem mSqrt_some {x v : Nat} (h : Ieee.double.sqrt x = some v) (w : World) : Calls Try.prog 110 #[.float .f64 x] w fun e w' => e = .returned (.float .f64 v) ∧ w = w' := by
  have h1 := sqrt111 h
  clear h
  go_enter Try.func110, Try.ntmps110
  go_wp2
  go_ret
  exact ⟨rfl, rfl⟩
theorem iSqrt_some {x v : Nat} (h : Ieee.double.sqrt x = some v) (w : World) : Calls Try.prog 109 #[.float .f64 x] w fun e w' => e = .returned (.float .f64 v) ∧ w = w' := by
  go_enter Try.func109, Try.ntmps109
  go_wp2_with fail
  refine (mSqrt_some h _).mono ?_
  rintro e w1 ⟨rfl, rfl⟩
  clear h
  go_wp2
  go_ret
  exact ⟨rfl, rfl⟩
theorem sqrt_zero0 : double.sqrt (F false 0 0) = some 0 := by decide +kernel
theorem whole_any (n : Nat) (hn : n ≤ 2000000000) : ∃ v T : Nat, double.sqrt (F false n 0) = some v ∧ floatToIntVal .f64 v .i64 = some (T : Int) ∧ T ≤ 50000 ∧ ∀ r, r ≤ 30000 → r * r = n → T = r := by
  rcases Nat.eq_zero_or_pos n with h | h
  · subst h
    refine ⟨0, 0, sqrt_zero0, by decide +kernel, by omega, fun r _ e => ?_⟩
    rcases Nat.eq_zero_or_pos r with h | h
    · exact h.symm
    · have := Nat.mul_pos h h
      omega
  · exact whole_root n h hn
theorem iroot (n : Nat) (hn : n ≤ 2000000000) (w : World) : Calls Try.prog 98 #[.int .i64 (n : Int)] w fun e w' => ∃ T : Nat, e = .returned (.int .i64 (T : Int)) ∧ T ≤ 50000 ∧ (∀ r, r ≤ 30000 → r * r = n → T = r) ∧ w = w' := by
  obtain ⟨v, T, h1, h2, h3, h4⟩ := whole_any n hn
  have c1 : ∀ w, (convert 2 132 (.int .i64 (n : Int))).run Try.prog w = .ok (.float .f64 (F false n 0)) w := fun w => by
    rw [run_convert_int_float w 2 132 .i64 .f64 _ (by rw [Try.underlying2]; rfl) Try.underlying132, floatOfInt_F]
  have c2 : ∀ w, (convert 132 2 (.float .f64 v)).run Try.prog w = .ok (.int .i64 (T : Int)) w := fun w => run_convert_float_int w 132 2 .f64 .i64 _ _ (by rw [Try.underlying132]; rfl) Try.underlying2 h2
  obtain ⟨x, hx⟩ : ∃ x, x = F false n 0 := ⟨_, rfl⟩
  rw [← hx] at c1 h1
  have H : Hid (T ≤ 50000 ∧ (∀ r, r ≤ 30000 → r * r = n → T = r)) := ⟨h3, h4⟩
  clear h2 h3 h4 hx hn
  go_enter Try.func98, Try.ntmps98
  go_wp2_with fail
  refine (iSqrt_some h1 _).mono ?_
  rintro e w1 ⟨rfl, rfl⟩
  go_wp2
  go_ret
  exact ⟨T, rfl, H.out.1, H.out.2, rfl⟩
end Go.Proofs.Ytloebnlmeplgbaa
