/- Which cell a place lies in: plainly. -/
import Derived.Test.YtcmgafgboepllaaCv
namespace Go.Proofs.Ytcmgafgboepllaa
open Go.RowKit Fl Ieee
set_option linter.unusedVariables false
theorem sv_zero : sv (sg 0) (rg 0) = 0 := by simp [sv, vv_zero]
theorem cmp_int_gt {a b : Int} (h : compare a b = .gt) : b < a := by
  simp only [compare, compareOfLessAndEq] at h
  split at h
  · cases h
  · split at h
    · cases h
    · omega
theorem cmp_int_lt {a b : Int} (h : compare a b = .lt) : a < b := by
  simp only [compare, compareOfLessAndEq] at h
  split at h
  · assumption
  · split at h <;> cases h
theorem cmp_int_eq {a b : Int} (h : compare a b = .eq) : a = b := by
  simp only [compare, compareOfLessAndEq] at h
  split at h
  · cases h
  · split at h
    · assumption
    · cases h
theorem num_of_some {x y : Nat} {o : Ordering} (hx : W64 x) (h : double.order x y = some o) : Num x := by
  by_cases n : Num x
  · exact n
  · rw [order_nan_l y hx n] at h; cases h
theorem pos_of_gt {x : Nat} (hx : W64 x) (h : double.order x 0 = some .gt) : Num x ∧ sg x = false ∧ 0 < rg x := by
  have n := num_of_some hx h
  rw [order_num hx (by omega) n (by decide), sv_zero] at h
  have h2 := cmp_int_gt (Option.some.inj h)
  refine ⟨n, ?_⟩
  cases e : sg x with
  | true =>
    rw [e] at h2
    simp only [sv, if_true] at h2
    omega
  | false =>
    refine ⟨rfl, ?_⟩
    rw [e] at h2
    rcases Nat.eq_zero_or_pos (rg x) with z | z
    · rw [z] at h2; simp [sv, vv_zero] at h2
    · exact z
theorem le_rg {x y : Nat} (hx : W64 x) (hy : W64 y) (ny : Num y) (sx : sg x = false) (sy : sg y = false) (h : (double.order x y == some .lt || double.order x y == some .eq) = true) : rg x ≤ rg y := by
  by_cases nx : Num x
  · rw [order_num hx hy nx ny, sx, sy] at h
    simp only [sv] at h
    rcases Nat.lt_or_ge (rg y) (rg x) with c | c
    · have := vv_lt.2 c
      exfalso
      have e : compare ((vv (rg x) : Nat) : Int) ((vv (rg y) : Nat) : Int) = .gt := by
        simp only [compare, compareOfLessAndEq]
        rw [if_neg (by omega), if_neg (by omega)]
      simp [e] at h
    · exact c
  · rw [order_nan_l y hx nx] at h
    simp at h
theorem side_word {S : Nat} (h : S < 9007199254740992) : ∃ r, r < 9218868437227405312 ∧ mk (S : Int) = dW false r ∧ vv r = S * unit := by
  rw [mk, floatOfInt_F]
  obtain ⟨r, r1, r2, r3⟩ := rep_word (rep_int (m := S) h) false
  have e : ((0 : Int) + 1074).toNat = ux := by rw [ux_eq]; rfl
  rw [e] at r3
  exact ⟨r, r1, r2, r3⟩
theorem rung_lt (m : Nat) (p : Int) : rungOf m p < 9223372036854775808 := by
  unfold rungOf
  split
  · decide
  · exact Nat.lt_of_le_of_lt (Nat.min_le_right _ _) (show 9218868437227405312 < 9223372036854775808 by decide)
theorem lt_side {x S : Nat} (hx : W64 x) (hn : NN x) (hS : S < 9007199254740992) (h : double.order x (mk (S : Int)) = some .lt) : Num x ∧ rg x < 9218868437227405312 ∧ vv (rg x) / unit < S := by
  obtain ⟨r, r1, r2, r3⟩ := side_word hS
  have n := num_of_some hx h
  have hy : W64 (mk (S : Int)) := mk_lt _
  have sr : sg (mk (S : Int)) = false := by rw [r2]; exact dW_sg (by omega)
  have rr : rg (mk (S : Int)) = r := by rw [r2]; exact dW_rg (by omega)
  have ny : Num (mk (S : Int)) := by unfold Num; show rg _ ≤ _; rw [rr]; omega
  rw [order_num hx hy n ny, sr, rr] at h
  have h2 := cmp_int_lt (Option.some.inj h)
  have hv : vv (rg x) < vv r := by
    rcases hn with e | e
    · rw [e] at h2; simp only [sv] at h2; simpa using h2
    · rw [e, vv_zero, r3]
      have : S ≠ 0 := by
        intro z
        subst z
        rw [e] at h2
        simp only [sv, vv_zero, r3, Nat.zero_mul] at h2
        revert h2
        cases sg x <;> simp
      exact Nat.mul_pos (by omega) (Nat.pow_pos (by omega))
  refine ⟨n, ?_, ?_⟩
  · exact Nat.lt_trans (vv_lt.1 hv) r1
  · rw [r3] at hv
    exact Nat.div_lt_of_lt_mul (by rw [Nat.mul_comm]; exact hv)
theorem div_nn {x y z : Nat} (hx : W64 x) (nx : Num x) (hn : NN x) (hy : W64 y) (sy : sg y = false) (py : 0 < rg y) (fy : rg y < 9218868437227405312) (h : double.div x y = some z) : NN z := by
  unfold Format.div at h
  rw [read_fin hy fy, sy] at h
  have hm : mg (rg y) ≠ 0 := by
    have := vv_pos py
    intro e
    unfold vv at this
    rw [e, Nat.zero_mul] at this
    omega
  by_cases fx : rg x < 9218868437227405312
  · rw [read_fin hx fx] at h
    simp only [Datum.quotient, hm, if_false, Option.map_some, Format.write, Bool.xor_false] at h
    have h2 := Option.some.inj h
    rw [← h2]
    unfold NN
    rcases hn with e | e
    · left
      rw [e]
      rw [show ∀ m p, double.nearest false m p = dW false (rungOf m p) from fun m p => nearest_rung false m p]
      exact dW_sg (rung_lt _ _)
    · right
      rw [e, show mg 0 = 0 from rfl]
      have e0 : ∀ k n : Nat, 2 * (0 <<< k / n) + (0 <<< k % n != 0).toNat = 0 := fun k n => by simp
      rw [e0]
      unfold Format.nearest
      rw [if_pos rfl]
      show rg (dW (sg x) 0) = 0
      exact dW_rg (by omega)
  · have e : rg x = 9218868437227405312 := by have : rg x ≤ 9218868437227405312 := nx; omega
    have s : sg x = false := by
      rcases hn with h | h
      · exact h
      · omega
    have hr : double.read x = .infinity false := by
      rw [split_word hx, s, e]
      exact read_inf false
    rw [hr] at h
    simp only [Datum.quotient, Option.map_some, Format.write, Bool.xor_false] at h
    have h2 := Option.some.inj h
    rw [← h2]
    left
    show sg (dW false 9218868437227405312) = false
    exact dW_sg (by omega)
end Go.Proofs.Ytcmgafgboepllaa
