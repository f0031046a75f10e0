/- More plain laws on floats: bounds by powers of two, what a finite word's digits and place are. -/
import Derived.Test.YtbagaicbochmnaaFl
namespace Go.Proofs.Ytbagaicbochmnaa.Fl
open Ieee
set_option linter.unusedSimpArgs false
theorem rep_rg {r : Nat} (h : r < 9218868437227405312) : Rep (mg r) (pl r) := by
  refine ⟨mg_lt r, pl_ge r, fun _ => ?_⟩
  have h1 : (mg r).log2 ≤ 52 := log2_lt (by have := mg_lt r; omega)
  unfold pl
  split <;> omega
theorem F_rg (neg : Bool) {r : Nat} (h : r < 9218868437227405312) : F neg (mg r) (pl r) = dW neg r := write_word neg h
theorem mg_small {r : Nat} (h : mg r < 4503599627370496) : pl r = -1074 := by
  unfold mg at h
  unfold pl
  split at h
  · rename_i h1; rw [if_pos h1]
  · omega
theorem pl_le {r : Nat} (h : r < 9218868437227405312) : pl r ≤ 971 := by
  unfold pl; split <;> omega
theorem rep_lower {m : Nat} {p q : Int} (h : Rep m p) (h1 : -1074 ≤ q) (h2 : q ≤ p) : Rep m q := ⟨h.1, h1, fun k => by have := h.2.2 k; omega⟩
theorem rep_upto {m : Nat} {q : Int} (h : m < 9007199254740992) (h1 : -1074 ≤ q) (h2 : q ≤ 971) : Rep m q := ⟨h, h1, fun _ => by have := log2_lt (m := m) (k := 52) (by omega); omega⟩
theorem order_of_lt {x y : Nat} (hx : x < 18446744073709551616) (hy : y < 18446744073709551616) (nx : Num x) (ny : Num y) (h : sv (sg x) (rg x) < sv (sg y) (rg y)) : FloatKind.f64.format.order x y = some .lt := by
  show double.order x y = _
  rw [order_num hx hy nx ny, Int.compare_eq_lt.2 h]
theorem order_of_gt {x y : Nat} (hx : x < 18446744073709551616) (hy : y < 18446744073709551616) (nx : Num x) (ny : Num y) (h : sv (sg y) (rg y) < sv (sg x) (rg x)) : FloatKind.f64.format.order x y = some .gt := by
  show double.order x y = _
  rw [order_num hx hy nx ny, Int.compare_eq_gt.2 h]
theorem order_of_eq {x y : Nat} (hx : x < 18446744073709551616) (hy : y < 18446744073709551616) (nx : Num x) (ny : Num y) (h : sv (sg x) (rg x) = sv (sg y) (rg y)) : FloatKind.f64.format.order x y = some .eq := by
  show double.order x y = _
  rw [order_num hx hy nx ny, h]; simp
/-- Against 0. -/
theorem order_zero {x : Nat} (hx : x < 18446744073709551616) (nx : Num x) : FloatKind.f64.format.order x 0 = some (if rg x = 0 then .eq else if sg x then .lt else .gt) := by
  have n0 : Num 0 := by decide
  by_cases h : rg x = 0
  · rw [if_pos h]
    refine order_of_eq hx (by omega) nx n0 ?_
    simp only [sv, h, vv_zero, rg, Nat.zero_mod]
    cases sg x <;> simp
  · have := vv_pos (r := rg x) (by omega)
    rw [if_neg h]
    by_cases hs : sg x = true
    · rw [if_pos hs]
      refine order_of_lt hx (by omega) nx n0 ?_
      simp only [sv, hs, if_true, show rg 0 = 0 from rfl, vv_zero, show sg 0 = false from rfl]
      simp; omega
    · rw [if_neg hs]
      refine order_of_gt hx (by omega) nx n0 ?_
      simp only [sv, hs, if_false, show rg 0 = 0 from rfl, vv_zero, show sg 0 = false from rfl]
      simp; omega
theorem order_large {x : Nat} (hx : x < 18446744073709551616) (nx : Num x) : (FloatKind.f64.format.order x 9218868437227405311 = some .gt) ↔ x = 9218868437227405312 := by
  have n0 : Num 9218868437227405311 := by decide
  have e1 : sg 9218868437227405311 = false := by decide
  have e2 : rg 9218868437227405311 = 9218868437227405311 := by decide
  constructor
  · intro h
    rw [show FloatKind.f64.format.order x 9218868437227405311 = double.order x 9218868437227405311 from rfl, order_num hx (by omega) nx n0, e1, e2] at h
    have h1 := Int.compare_eq_gt.1 (Option.some.inj h)
    unfold sv at h1
    by_cases hs : sg x = true
    · simp only [hs, if_true] at h1
      simp at h1; omega
    · simp only [hs, if_false] at h1
      simp at h1
      have h2 := vv_lt.1 h1
      simp only [sg, decide_eq_true_eq] at hs
      simp only [rg] at h2
      unfold Num at nx
      omega
  · rintro rfl
    refine order_of_gt (by omega) (by omega) nx n0 ?_
    rw [e1, e2, show sg 9218868437227405312 = false by decide, show rg 9218868437227405312 = 9218868437227405312 by decide]
    have := vv_lt.2 (show 9218868437227405311 < 9218868437227405312 by omega)
    simp only [sv]
    simp
    exact this
theorem order_least {x : Nat} (hx : x < 18446744073709551616) (nx : Num x) : (FloatKind.f64.format.order x 18442240474082181119 = some .lt) ↔ x = 18442240474082181120 := by
  have n0 : Num 18442240474082181119 := by decide
  have e1 : sg 18442240474082181119 = true := by decide
  have e2 : rg 18442240474082181119 = 9218868437227405311 := by decide
  constructor
  · intro h
    rw [show FloatKind.f64.format.order x 18442240474082181119 = double.order x 18442240474082181119 from rfl, order_num hx (by omega) nx n0, e1, e2] at h
    have h1 := Int.compare_eq_lt.1 (Option.some.inj h)
    unfold sv at h1
    by_cases hs : sg x = true
    · simp only [hs, if_true] at h1
      have h3 : vv 9218868437227405311 < vv (rg x) := by omega
      have h2 := vv_lt.1 h3
      simp only [sg, decide_eq_true_eq] at hs
      simp only [rg] at h2
      unfold Num at nx
      omega
    · simp only [hs, if_false] at h1
      simp at h1; omega
  · rintro rfl
    refine order_of_lt (by omega) (by omega) nx n0 ?_
    rw [e1, e2, show sg 18442240474082181120 = true by decide, show rg 18442240474082181120 = 9218868437227405312 by decide]
    have := vv_lt.2 (show 9218868437227405311 < 9218868437227405312 by omega)
    simp only [sv, if_true]
    omega
/-- beq of two orders, as the walk has it. -/
theorem beq_order {o : Option Ordering} {c : Option Ordering} : (o == c) = decide (o = c) := by
  cases h : decide (o = c) with
  | true => rw [decide_eq_true_eq] at h; simp [h]
  | false => rw [decide_eq_false_iff_not] at h; simpa using h
end Go.Proofs.Ytbagaicbochmnaa.Fl
