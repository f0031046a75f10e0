/- The language's complex quotient of numbers without NaN: the class of each part. No program. -/
import Derived.Test.YtgidoceflkdklaaCx
import Derived.Test.YtgidoceflkdklaaFlMore
namespace Go.Proofs.Ytgidoceflkdklaa.Fl
open Ieee
set_option linter.unusedSimpArgs false
set_option linter.unusedVariables false
abbrev W64 (x : Nat) : Prop := x < 18446744073709551616
theorem isNaN_iff {x : Nat} (hx : W64 x) : Op.Complex.isNaN x = decide (¬ Num x) := by
  unfold Op.Complex.isNaN FloatKind.decode
  by_cases n : Num x
  · rw [decide_eq_false (by simpa using n)]
    have h1 := split_word hx
    by_cases hi : rg x = 9218868437227405312
    · rw [hi] at h1
      rw [h1]
      show (double.read (dW (sg x) 9218868437227405312)).isNaN = false
      rw [read_inf]; rfl
    · have hr : rg x < 9218868437227405312 := by unfold Num at n; simp only [rg] at hi ⊢; omega
      rw [h1]
      show (double.read (dW (sg x) (rg x))).isNaN = false
      rw [read_word _ hr]; rfl
  · rw [decide_eq_true n]
    show (double.read x).isNaN = true
    rw [read_not_num hx n]; rfl
theorem isInf_iff {x : Nat} (hx : W64 x) : Op.Complex.isInf x = decide (rg x = 9218868437227405312) := by
  unfold Op.Complex.isInf FloatKind.decode
  have h1 := split_word hx
  by_cases hi : rg x = 9218868437227405312
  · rw [decide_eq_true hi]
    rw [hi] at h1
    rw [h1]
    show (double.read (dW (sg x) 9218868437227405312)).isInfinity = true
    rw [read_inf]; rfl
  · rw [decide_eq_false hi]
    by_cases n : Num x
    · have hr : rg x < 9218868437227405312 := by unfold Num at n; simp only [rg] at hi ⊢; omega
      rw [h1]
      show (double.read (dW (sg x) (rg x))).isInfinity = false
      rw [read_word _ hr]; rfl
    · show (double.read x).isInfinity = false
      rw [read_not_num hx n]; rfl
theorem nan_cl {x : Nat} (hx : W64 x) : Op.Complex.isNaN x = (cl x).isNone := by
  rw [isNaN_iff hx]
  unfold cl
  by_cases n : Num x <;> simp [n]
/-- The size is not below. -/
def geq (c d : Nat) : Bool := decide (rg d ≤ rg c)
theorem abs_rg (x : Nat) : Op.Complex.abs x = rg x := rfl
theorem geq_order {c d : Nat} (nc : Num c) (nd : Num d) : (double.order (rg c) (rg d) == some .gt || double.order (rg c) (rg d) == some .eq) = geq c d := by
  have hc : rg c ≤ 9218868437227405312 := nc
  have hd : rg d ≤ 9218868437227405312 := nd
  have h := order_le false false hc hd
  rw [dW_false, dW_false] at h
  rw [h]
  unfold geq
  simp only [sv, Bool.false_eq_true, if_false]
  rcases Nat.lt_trichotomy (rg c) (rg d) with k | k | k
  · rw [Int.compare_eq_lt.2 (by have := vv_lt.2 k; omega), decide_eq_false (by omega)]; rfl
  · rw [k]; simp
  · rw [Int.compare_eq_gt.2 (by have := vv_lt.2 k; omega), decide_eq_true (by omega)]; rfl
/-- The quotient ahead of its corrections. -/
def quoR (x y : Nat) : Option Nat := opC .quo (cl x) (cl y)
def quoHi (a b c d : Nat) : Option Nat × Option Nat :=
  (opC .quo (opC .add (cl a) (opC .mul (cl b) (quoR d c))) (opC .add (cl c) (opC .mul (quoR d c) (cl d))), opC .quo (opC .sub (cl b) (opC .mul (cl a) (quoR d c))) (opC .add (cl c) (opC .mul (quoR d c) (cl d))))
def quoLo (a b c d : Nat) : Option Nat × Option Nat :=
  (opC .quo (opC .add (opC .mul (cl a) (quoR c d)) (cl b)) (opC .add (cl d) (opC .mul (quoR c d) (cl c))), opC .quo (opC .sub (opC .mul (cl b) (quoR c d)) (cl a)) (opC .add (cl d) (opC .mul (quoR c d) (cl c))))
theorem hi_step {P : Program} {a b c d : Nat} (ha : W64 a) (hb : W64 b) (hc : W64 c) (hd : W64 d) (w : World) :
    ∃ e f q, (do
      let ratio ← Op.Complex.quo d c
      let denom ← Op.Complex.add c (← Op.Complex.mul ratio d)
      pure (← Op.Complex.quo (← Op.Complex.add a (← Op.Complex.mul b ratio)) denom, ← Op.Complex.quo (← Op.Complex.sub b (← Op.Complex.mul a ratio)) denom) : Sem (Nat × Nat)).run P w = .ok (e, f) (w.drewN q) ∧ W64 e ∧ W64 f ∧ (cl e, cl f) = quoHi a b c d := by
  obtain ⟨x1, q1, r1, l1, c1⟩ := arith_step (P := P) .quo (by simp) hd hc w
  obtain ⟨x2, q2, r2, l2, c2⟩ := arith_step (P := P) .mul (by simp) l1 hd (w.drewN q1)
  obtain ⟨x3, q3, r3, l3, c3⟩ := arith_step (P := P) .add (by simp) hc l2 ((w.drewN q1).drewN q2)
  obtain ⟨x4, q4, r4, l4, c4⟩ := arith_step (P := P) .mul (by simp) hb l1 (((w.drewN q1).drewN q2).drewN q3)
  obtain ⟨x5, q5, r5, l5, c5⟩ := arith_step (P := P) .add (by simp) ha l4 ((((w.drewN q1).drewN q2).drewN q3).drewN q4)
  obtain ⟨x6, q6, r6, l6, c6⟩ := arith_step (P := P) .quo (by simp) l5 l3 (((((w.drewN q1).drewN q2).drewN q3).drewN q4).drewN q5)
  obtain ⟨x7, q7, r7, l7, c7⟩ := arith_step (P := P) .mul (by simp) ha l1 ((((((w.drewN q1).drewN q2).drewN q3).drewN q4).drewN q5).drewN q6)
  obtain ⟨x8, q8, r8, l8, c8⟩ := arith_step (P := P) .sub (by simp) hb l7 (((((((w.drewN q1).drewN q2).drewN q3).drewN q4).drewN q5).drewN q6).drewN q7)
  obtain ⟨x9, q9, r9, l9, c9⟩ := arith_step (P := P) .quo (by simp) l8 l3 ((((((((w.drewN q1).drewN q2).drewN q3).drewN q4).drewN q5).drewN q6).drewN q7).drewN q8)
  refine ⟨x6, x9, q1 + (q2 + (q3 + (q4 + (q5 + (q6 + (q7 + (q8 + q9))))))), ?_, l6, l9, ?_⟩
  · simp only [Op.Complex.mul, Op.Complex.sub, Op.Complex.add, Op.Complex.quo, Sem.run_bind, Sem.run_pure, r1, r2, r3, r4, r5, r6, r7, r8, r9, Result.andThen_ok]
    simp only [World.drewN_drewN, Nat.add_assoc]
  · rw [c6, c9, c5, c8, c4, c7, c3, c2, c1]; rfl
theorem lo_step {P : Program} {a b c d : Nat} (ha : W64 a) (hb : W64 b) (hc : W64 c) (hd : W64 d) (w : World) :
    ∃ e f q, (do
      let ratio ← Op.Complex.quo c d
      let denom ← Op.Complex.add d (← Op.Complex.mul ratio c)
      pure (← Op.Complex.quo (← Op.Complex.add (← Op.Complex.mul a ratio) b) denom, ← Op.Complex.quo (← Op.Complex.sub (← Op.Complex.mul b ratio) a) denom) : Sem (Nat × Nat)).run P w = .ok (e, f) (w.drewN q) ∧ W64 e ∧ W64 f ∧ (cl e, cl f) = quoLo a b c d := by
  obtain ⟨x1, q1, r1, l1, c1⟩ := arith_step (P := P) .quo (by simp) hc hd w
  obtain ⟨x2, q2, r2, l2, c2⟩ := arith_step (P := P) .mul (by simp) l1 hc (w.drewN q1)
  obtain ⟨x3, q3, r3, l3, c3⟩ := arith_step (P := P) .add (by simp) hd l2 ((w.drewN q1).drewN q2)
  obtain ⟨x4, q4, r4, l4, c4⟩ := arith_step (P := P) .mul (by simp) ha l1 (((w.drewN q1).drewN q2).drewN q3)
  obtain ⟨x5, q5, r5, l5, c5⟩ := arith_step (P := P) .add (by simp) l4 hb ((((w.drewN q1).drewN q2).drewN q3).drewN q4)
  obtain ⟨x6, q6, r6, l6, c6⟩ := arith_step (P := P) .quo (by simp) l5 l3 (((((w.drewN q1).drewN q2).drewN q3).drewN q4).drewN q5)
  obtain ⟨x7, q7, r7, l7, c7⟩ := arith_step (P := P) .mul (by simp) hb l1 ((((((w.drewN q1).drewN q2).drewN q3).drewN q4).drewN q5).drewN q6)
  obtain ⟨x8, q8, r8, l8, c8⟩ := arith_step (P := P) .sub (by simp) l7 ha (((((((w.drewN q1).drewN q2).drewN q3).drewN q4).drewN q5).drewN q6).drewN q7)
  obtain ⟨x9, q9, r9, l9, c9⟩ := arith_step (P := P) .quo (by simp) l8 l3 ((((((((w.drewN q1).drewN q2).drewN q3).drewN q4).drewN q5).drewN q6).drewN q7).drewN q8)
  refine ⟨x6, x9, q1 + (q2 + (q3 + (q4 + (q5 + (q6 + (q7 + (q8 + q9))))))), ?_, l6, l9, ?_⟩
  · simp only [Op.Complex.mul, Op.Complex.sub, Op.Complex.add, Op.Complex.quo, Sem.run_bind, Sem.run_pure, r1, r2, r3, r4, r5, r6, r7, r8, r9, Result.andThen_ok]
    simp only [World.drewN_drewN, Nat.add_assoc]
  · rw [c6, c9, c5, c8, c4, c7, c3, c2, c1]; rfl
/-- The corrected quotient: scale times (a c + b d), scale times (b c - a d). -/
def corC (s a b c d : Nat) : Option Nat × Option Nat :=
  (opC .mul (cl s) (opC .add (opC .mul (cl a) (cl c)) (opC .mul (cl b) (cl d))), opC .mul (cl s) (opC .sub (opC .mul (cl b) (cl c)) (opC .mul (cl a) (cl d))))
theorem cor_step {P : Program} {s a b c d : Nat} (hs : W64 s) (ha : W64 a) (hb : W64 b) (hc : W64 c) (hd : W64 d) (w : World) :
    ∃ e f q, (Op.Complex.corrected s a b c d).run P w = .ok (e, f) (w.drewN q) ∧ W64 e ∧ W64 f ∧ (cl e, cl f) = corC s a b c d := by
  obtain ⟨x1, q1, r1, l1, c1⟩ := arith_step (P := P) .mul (by simp) ha hc w
  obtain ⟨x2, q2, r2, l2, c2⟩ := arith_step (P := P) .mul (by simp) hb hd (w.drewN q1)
  obtain ⟨x3, q3, r3, l3, c3⟩ := arith_step (P := P) .add (by simp) l1 l2 ((w.drewN q1).drewN q2)
  obtain ⟨x4, q4, r4, l4, c4⟩ := arith_step (P := P) .mul (by simp) hs l3 (((w.drewN q1).drewN q2).drewN q3)
  obtain ⟨x5, q5, r5, l5, c5⟩ := arith_step (P := P) .mul (by simp) hb hc ((((w.drewN q1).drewN q2).drewN q3).drewN q4)
  obtain ⟨x6, q6, r6, l6, c6⟩ := arith_step (P := P) .mul (by simp) ha hd (((((w.drewN q1).drewN q2).drewN q3).drewN q4).drewN q5)
  obtain ⟨x7, q7, r7, l7, c7⟩ := arith_step (P := P) .sub (by simp) l5 l6 ((((((w.drewN q1).drewN q2).drewN q3).drewN q4).drewN q5).drewN q6)
  obtain ⟨x8, q8, r8, l8, c8⟩ := arith_step (P := P) .mul (by simp) hs l7 (((((((w.drewN q1).drewN q2).drewN q3).drewN q4).drewN q5).drewN q6).drewN q7)
  refine ⟨x4, x8, q1 + (q2 + (q3 + (q4 + (q5 + (q6 + (q7 + q8)))))), ?_, l4, l8, ?_⟩
  · simp only [Op.Complex.corrected, Op.Complex.mul, Op.Complex.sub, Op.Complex.add, Op.Complex.quo, Sem.run_bind, Sem.run_pure, r1, r2, r3, r4, r5, r6, r7, r8, Result.andThen_ok]
    simp only [World.drewN_drewN, Nat.add_assoc]
  · rw [c4, c8, c3, c7, c1, c2, c5, c6]; rfl
end Go.Proofs.Ytgidoceflkdklaa.Fl
