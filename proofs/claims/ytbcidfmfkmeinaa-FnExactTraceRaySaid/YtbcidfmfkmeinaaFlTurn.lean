/- The language's complex products, sums and quotients, whatever the parts are: the class of each part (all NaNs being one); draws beside. No program. The language's complex quotient of numbers without NaN: the class of each part. No program. The language's complex quotient of numbers without NaN, whole: the class of each part; its operation. No program. Finite floats: products and sums of bounded ones are bounded; of opposite ones, opposite. The unit roots and their products. Plain laws, no program. -/
import Derived.Test.YtbcidfmfkmeinaaFlMore
import Derived.Laws.ComplexArith
import Derived.Laws.ComplexQuo
namespace Go.Proofs.Ytbcidfmfkmeinaa.Fl
open Ieee
set_option linter.unusedSimpArgs false
theorem arith_step {P : Program} (op : BinOp) (hop : op = .add ∨ op = .sub ∨ op = .mul ∨ op = .quo) {x y : Nat} (hx : x < 18446744073709551616) (hy : y < 18446744073709551616) (w : World) :
    ∃ z q, (Op.Complex.arith op .f64 x y).run P w = .ok z (w.drewN q) ∧ z < 18446744073709551616 ∧ cl z = opC op (cl x) (cl y) := by
  obtain ⟨q, hq⟩ := opW_drewN op x y w
  refine ⟨opV op x y w, q, ?_, opV_lt op x y w, opV_cl w hx hy⟩
  have h := run_float (P := P) w op 0 x y hop
  rw [hq] at h
  rcases hop with rfl | rfl | rfl | rfl <;> simp [binOp] at h <;> simp [Op.Complex.arith, h]
/-- Products and sums of classes. -/
def mulRe (a b c d : Option Nat) : Option Nat := opC .sub (opC .mul a c) (opC .mul b d)
def mulIm (a b c d : Option Nat) : Option Nat := opC .add (opC .mul a d) (opC .mul b c)
theorem product_step {P : Program} {a b c d : Nat} (ha : a < 18446744073709551616) (hb : b < 18446744073709551616) (hc : c < 18446744073709551616) (hd : d < 18446744073709551616) (w : World) :
    ∃ e f q, (Op.Complex.product a b c d).run P w = .ok (e, f) (w.drewN q) ∧ e < 18446744073709551616 ∧ f < 18446744073709551616 ∧ cl e = mulRe (cl a) (cl b) (cl c) (cl d) ∧ cl f = mulIm (cl a) (cl b) (cl c) (cl d) := by
  obtain ⟨x1, q1, r1, l1, c1⟩ := arith_step (P := P) .mul (by simp) ha hc w
  obtain ⟨x2, q2, r2, l2, c2⟩ := arith_step (P := P) .mul (by simp) hb hd (w.drewN q1)
  obtain ⟨x3, q3, r3, l3, c3⟩ := arith_step (P := P) .sub (by simp) l1 l2 ((w.drewN q1).drewN q2)
  obtain ⟨x4, q4, r4, l4, c4⟩ := arith_step (P := P) .mul (by simp) ha hd (((w.drewN q1).drewN q2).drewN q3)
  obtain ⟨x5, q5, r5, l5, c5⟩ := arith_step (P := P) .mul (by simp) hb hc ((((w.drewN q1).drewN q2).drewN q3).drewN q4)
  obtain ⟨x6, q6, r6, l6, c6⟩ := arith_step (P := P) .add (by simp) l4 l5 (((((w.drewN q1).drewN q2).drewN q3).drewN q4).drewN q5)
  refine ⟨x3, x6, q1 + q2 + q3 + q4 + q5 + q6, ?_, l3, l6, by rw [c3, c1, c2]; rfl, by rw [c6, c4, c5]; rfl⟩
  simp only [Op.Complex.product, Op.Complex.mul, Op.Complex.sub, Op.Complex.add, Sem.run_bind, Sem.run_pure, r1, r2, r3, r4, r5, r6, Result.andThen_ok]
  simp only [World.drewN_drewN, Nat.add_assoc]
theorem cmul_step {P : Program} (t : TypeId) {a b c d : Nat} (ha : a < 18446744073709551616) (hb : b < 18446744073709551616) (hc : c < 18446744073709551616) (hd : d < 18446744073709551616) (w : World) :
    ∃ e f q, (binOp .mul t (.complex .f64 a b) (.complex .f64 c d)).run P w = .ok (.complex .f64 e f) (w.drewN q) ∧ e < 18446744073709551616 ∧ f < 18446744073709551616 ∧ cl e = mulRe (cl a) (cl b) (cl c) (cl d) ∧ cl f = mulIm (cl a) (cl b) (cl c) (cl d) := by
  obtain ⟨e, f, q, r, l1, l2, c1, c2⟩ := product_step (P := P) ha hb hc hd w
  refine ⟨e, f, q, ?_, l1, l2, c1, c2⟩
  simp [binOp, Op.complexOp, Op.Complex.conv, r]
theorem csum_step {P : Program} (op : BinOp) (hop : op = .add ∨ op = .sub) (t : TypeId) {a b c d : Nat} (ha : a < 18446744073709551616) (hb : b < 18446744073709551616) (hc : c < 18446744073709551616) (hd : d < 18446744073709551616) (w : World) :
    ∃ e f q, (binOp op t (.complex .f64 a b) (.complex .f64 c d)).run P w = .ok (.complex .f64 e f) (w.drewN q) ∧ e < 18446744073709551616 ∧ f < 18446744073709551616 ∧ cl e = opC op (cl a) (cl c) ∧ cl f = opC op (cl b) (cl d) := by
  obtain ⟨x1, q1, r1, l1, c1⟩ := arith_step (P := P) op (by rcases hop with h | h <;> simp [h]) ha hc w
  obtain ⟨x2, q2, r2, l2, c2⟩ := arith_step (P := P) op (by rcases hop with h | h <;> simp [h]) hb hd (w.drewN q1)
  refine ⟨x1, x2, q1 + q2, ?_, l1, l2, c1, c2⟩
  rcases hop with rfl | rfl <;> simp [binOp, Op.complexOp, r1, r2]
end Go.Proofs.Ytbcidfmfkmeinaa.Fl
namespace Go.Proofs.Ytbcidfmfkmeinaa.Fl
open Ieee
set_option linter.unusedSimpArgs false
set_option linter.unusedVariables false
abbrev W64 (x : Nat) : Prop := x < 18446744073709551616
theorem isNaN_iff {x : Nat} (hx : W64 x) : Op.Complex.isNaN x = decide (¬ Num x) := by
  unfold Op.Complex.isNaN FloatKind.decode
  by_cases n : Num x
  · rw [decide_eq_false (by simpa using n)]
    have h1 := split_word hx
    by_cases hi : rg x = 9218868437227405312
    · rw [hi] at h1
      rw [h1]
      show (double.read (dW (sg x) 9218868437227405312)).isNaN = false
      rw [read_inf]; rfl
    · have hr : rg x < 9218868437227405312 := by unfold Num at n; simp only [rg] at hi ⊢; omega
      rw [h1]
      show (double.read (dW (sg x) (rg x))).isNaN = false
      rw [read_word _ hr]; rfl
  · rw [decide_eq_true n]
    show (double.read x).isNaN = true
    rw [read_not_num hx n]; rfl
theorem isInf_iff {x : Nat} (hx : W64 x) : Op.Complex.isInf x = decide (rg x = 9218868437227405312) := by
  unfold Op.Complex.isInf FloatKind.decode
  have h1 := split_word hx
  by_cases hi : rg x = 9218868437227405312
  · rw [decide_eq_true hi]
    rw [hi] at h1
    rw [h1]
    show (double.read (dW (sg x) 9218868437227405312)).isInfinity = true
    rw [read_inf]; rfl
  · rw [decide_eq_false hi]
    by_cases n : Num x
    · have hr : rg x < 9218868437227405312 := by unfold Num at n; simp only [rg] at hi ⊢; omega
      rw [h1]
      show (double.read (dW (sg x) (rg x))).isInfinity = false
      rw [read_word _ hr]; rfl
    · show (double.read x).isInfinity = false
      rw [read_not_num hx n]; rfl
theorem nan_cl {x : Nat} (hx : W64 x) : Op.Complex.isNaN x = (cl x).isNone := by
  rw [isNaN_iff hx]
  unfold cl
  by_cases n : Num x <;> simp [n]
/-- The size is not below. -/
def geq (c d : Nat) : Bool := decide (rg d ≤ rg c)
theorem abs_rg (x : Nat) : Op.Complex.abs x = rg x := rfl
theorem geq_order {c d : Nat} (nc : Num c) (nd : Num d) : (double.order (rg c) (rg d) == some .gt || double.order (rg c) (rg d) == some .eq) = geq c d := by
  have hc : rg c ≤ 9218868437227405312 := nc
  have hd : rg d ≤ 9218868437227405312 := nd
  have h := order_le false false hc hd
  rw [dW_false, dW_false] at h
  rw [h]
  unfold geq
  simp only [sv, Bool.false_eq_true, if_false]
  rcases Nat.lt_trichotomy (rg c) (rg d) with k | k | k
  · rw [Int.compare_eq_lt.2 (by have := vv_lt.2 k; omega), decide_eq_false (by omega)]; rfl
  · rw [k]; simp
  · rw [Int.compare_eq_gt.2 (by have := vv_lt.2 k; omega), decide_eq_true (by omega)]; rfl
/-- The quotient ahead of its corrections. -/
def quoR (x y : Nat) : Option Nat := opC .quo (cl x) (cl y)
def quoHi (a b c d : Nat) : Option Nat × Option Nat :=
  (opC .quo (opC .add (cl a) (opC .mul (cl b) (quoR d c))) (opC .add (cl c) (opC .mul (quoR d c) (cl d))), opC .quo (opC .sub (cl b) (opC .mul (cl a) (quoR d c))) (opC .add (cl c) (opC .mul (quoR d c) (cl d))))
def quoLo (a b c d : Nat) : Option Nat × Option Nat :=
  (opC .quo (opC .add (opC .mul (cl a) (quoR c d)) (cl b)) (opC .add (cl d) (opC .mul (quoR c d) (cl c))), opC .quo (opC .sub (opC .mul (cl b) (quoR c d)) (cl a)) (opC .add (cl d) (opC .mul (quoR c d) (cl c))))
theorem hi_step {P : Program} {a b c d : Nat} (ha : W64 a) (hb : W64 b) (hc : W64 c) (hd : W64 d) (w : World) :
    ∃ e f q, (do
      let ratio ← Op.Complex.quo d c
      let denom ← Op.Complex.add c (← Op.Complex.mul ratio d)
      pure (← Op.Complex.quo (← Op.Complex.add a (← Op.Complex.mul b ratio)) denom, ← Op.Complex.quo (← Op.Complex.sub b (← Op.Complex.mul a ratio)) denom) : Sem (Nat × Nat)).run P w = .ok (e, f) (w.drewN q) ∧ W64 e ∧ W64 f ∧ (cl e, cl f) = quoHi a b c d := by
  obtain ⟨x1, q1, r1, l1, c1⟩ := arith_step (P := P) .quo (by simp) hd hc w
  obtain ⟨x2, q2, r2, l2, c2⟩ := arith_step (P := P) .mul (by simp) l1 hd (w.drewN q1)
  obtain ⟨x3, q3, r3, l3, c3⟩ := arith_step (P := P) .add (by simp) hc l2 ((w.drewN q1).drewN q2)
  obtain ⟨x4, q4, r4, l4, c4⟩ := arith_step (P := P) .mul (by simp) hb l1 (((w.drewN q1).drewN q2).drewN q3)
  obtain ⟨x5, q5, r5, l5, c5⟩ := arith_step (P := P) .add (by simp) ha l4 ((((w.drewN q1).drewN q2).drewN q3).drewN q4)
  obtain ⟨x6, q6, r6, l6, c6⟩ := arith_step (P := P) .quo (by simp) l5 l3 (((((w.drewN q1).drewN q2).drewN q3).drewN q4).drewN q5)
  obtain ⟨x7, q7, r7, l7, c7⟩ := arith_step (P := P) .mul (by simp) ha l1 ((((((w.drewN q1).drewN q2).drewN q3).drewN q4).drewN q5).drewN q6)
  obtain ⟨x8, q8, r8, l8, c8⟩ := arith_step (P := P) .sub (by simp) hb l7 (((((((w.drewN q1).drewN q2).drewN q3).drewN q4).drewN q5).drewN q6).drewN q7)
  obtain ⟨x9, q9, r9, l9, c9⟩ := arith_step (P := P) .quo (by simp) l8 l3 ((((((((w.drewN q1).drewN q2).drewN q3).drewN q4).drewN q5).drewN q6).drewN q7).drewN q8)
  refine ⟨x6, x9, q1 + (q2 + (q3 + (q4 + (q5 + (q6 + (q7 + (q8 + q9))))))), ?_, l6, l9, ?_⟩
  · simp only [Op.Complex.mul, Op.Complex.sub, Op.Complex.add, Op.Complex.quo, Sem.run_bind, Sem.run_pure, r1, r2, r3, r4, r5, r6, r7, r8, r9, Result.andThen_ok]
    simp only [World.drewN_drewN, Nat.add_assoc]
  · rw [c6, c9, c5, c8, c4, c7, c3, c2, c1]; rfl
theorem lo_step {P : Program} {a b c d : Nat} (ha : W64 a) (hb : W64 b) (hc : W64 c) (hd : W64 d) (w : World) :
    ∃ e f q, (do
      let ratio ← Op.Complex.quo c d
      let denom ← Op.Complex.add d (← Op.Complex.mul ratio c)
      pure (← Op.Complex.quo (← Op.Complex.add (← Op.Complex.mul a ratio) b) denom, ← Op.Complex.quo (← Op.Complex.sub (← Op.Complex.mul b ratio) a) denom) : Sem (Nat × Nat)).run P w = .ok (e, f) (w.drewN q) ∧ W64 e ∧ W64 f ∧ (cl e, cl f) = quoLo a b c d := by
  obtain ⟨x1, q1, r1, l1, c1⟩ := arith_step (P := P) .quo (by simp) hc hd w
  obtain ⟨x2, q2, r2, l2, c2⟩ := arith_step (P := P) .mul (by simp) l1 hc (w.drewN q1)
  obtain ⟨x3, q3, r3, l3, c3⟩ := arith_step (P := P) .add (by simp) hd l2 ((w.drewN q1).drewN q2)
  obtain ⟨x4, q4, r4, l4, c4⟩ := arith_step (P := P) .mul (by simp) ha l1 (((w.drewN q1).drewN q2).drewN q3)
  obtain ⟨x5, q5, r5, l5, c5⟩ := arith_step (P := P) .add (by simp) l4 hb ((((w.drewN q1).drewN q2).drewN q3).drewN q4)
  obtain ⟨x6, q6, r6, l6, c6⟩ := arith_step (P := P) .quo (by simp) l5 l3 (((((w.drewN q1).drewN q2).drewN q3).drewN q4).drewN q5)
  obtain ⟨x7, q7, r7, l7, c7⟩ := arith_step (P := P) .mul (by simp) hb l1 ((((((w.drewN q1).drewN q2).drewN q3).drewN q4).drewN q5).drewN q6)
  obtain ⟨x8, q8, r8, l8, c8⟩ := arith_step (P := P) .sub (by simp) l7 ha (((((((w.drewN q1).drewN q2).drewN q3).drewN q4).drewN q5).drewN q6).drewN q7)
  obtain ⟨x9, q9, r9, l9, c9⟩ := arith_step (P := P) .quo (by simp) l8 l3 ((((((((w.drewN q1).drewN q2).drewN q3).drewN q4).drewN q5).drewN q6).drewN q7).drewN q8)
  refine ⟨x6, x9, q1 + (q2 + (q3 + (q4 + (q5 + (q6 + (q7 + (q8 + q9))))))), ?_, l6, l9, ?_⟩
  · simp only [Op.Complex.mul, Op.Complex.sub, Op.Complex.add, Op.Complex.quo, Sem.run_bind, Sem.run_pure, r1, r2, r3, r4, r5, r6, r7, r8, r9, Result.andThen_ok]
    simp only [World.drewN_drewN, Nat.add_assoc]
  · rw [c6, c9, c5, c8, c4, c7, c3, c2, c1]; rfl
/-- The corrected quotient: scale times (a c + b d), scale times (b c - a d). -/
def corC (s a b c d : Nat) : Option Nat × Option Nat :=
  (opC .mul (cl s) (opC .add (opC .mul (cl a) (cl c)) (opC .mul (cl b) (cl d))), opC .mul (cl s) (opC .sub (opC .mul (cl b) (cl c)) (opC .mul (cl a) (cl d))))
theorem cor_step {P : Program} {s a b c d : Nat} (hs : W64 s) (ha : W64 a) (hb : W64 b) (hc : W64 c) (hd : W64 d) (w : World) :
    ∃ e f q, (Op.Complex.corrected s a b c d).run P w = .ok (e, f) (w.drewN q) ∧ W64 e ∧ W64 f ∧ (cl e, cl f) = corC s a b c d := by
  obtain ⟨x1, q1, r1, l1, c1⟩ := arith_step (P := P) .mul (by simp) ha hc w
  obtain ⟨x2, q2, r2, l2, c2⟩ := arith_step (P := P) .mul (by simp) hb hd (w.drewN q1)
  obtain ⟨x3, q3, r3, l3, c3⟩ := arith_step (P := P) .add (by simp) l1 l2 ((w.drewN q1).drewN q2)
  obtain ⟨x4, q4, r4, l4, c4⟩ := arith_step (P := P) .mul (by simp) hs l3 (((w.drewN q1).drewN q2).drewN q3)
  obtain ⟨x5, q5, r5, l5, c5⟩ := arith_step (P := P) .mul (by simp) hb hc ((((w.drewN q1).drewN q2).drewN q3).drewN q4)
  obtain ⟨x6, q6, r6, l6, c6⟩ := arith_step (P := P) .mul (by simp) ha hd (((((w.drewN q1).drewN q2).drewN q3).drewN q4).drewN q5)
  obtain ⟨x7, q7, r7, l7, c7⟩ := arith_step (P := P) .sub (by simp) l5 l6 ((((((w.drewN q1).drewN q2).drewN q3).drewN q4).drewN q5).drewN q6)
  obtain ⟨x8, q8, r8, l8, c8⟩ := arith_step (P := P) .mul (by simp) hs l7 (((((((w.drewN q1).drewN q2).drewN q3).drewN q4).drewN q5).drewN q6).drewN q7)
  refine ⟨x4, x8, q1 + (q2 + (q3 + (q4 + (q5 + (q6 + (q7 + q8)))))), ?_, l4, l8, ?_⟩
  · simp only [Op.Complex.corrected, Op.Complex.mul, Op.Complex.sub, Op.Complex.add, Op.Complex.quo, Sem.run_bind, Sem.run_pure, r1, r2, r3, r4, r5, r6, r7, r8, Result.andThen_ok]
    simp only [World.drewN_drewN, Nat.add_assoc]
  · rw [c4, c8, c3, c7, c1, c2, c5, c6]; rfl
end Go.Proofs.Ytbcidfmfkmeinaa.Fl
namespace Go.Proofs.Ytbcidfmfkmeinaa.Fl
open Ieee
set_option linter.unusedSimpArgs false
set_option linter.unusedVariables false
/-- 1 of an infinite float, 0 of others, with its sign. -/
def oneOf (x : Nat) : Nat := dW (sg x) (if rg x = 9218868437227405312 then 4607182418800017408 else 0)
def infOf (x : Nat) : Nat := dW (sg x) 9218868437227405312
theorem dW_lt (s : Bool) {r : Nat} (h : r < 9223372036854775808) : W64 (dW s r) := by
  cases s
  · rw [dW_false]; unfold W64; omega
  · rw [dW_true]; unfold W64; omega
theorem oneOf_lt (x : Nat) : W64 (oneOf x) := by unfold oneOf; split <;> exact dW_lt _ (by omega)
theorem infOf_lt (x : Nat) : W64 (infOf x) := dW_lt _ (by omega)
theorem copysign_dW {x : Nat} (hx : W64 x) {r : Nat} (hr : r < 9223372036854775808) : Op.Complex.copysign r x = dW (sg x) r := by
  unfold Op.Complex.copysign Op.Complex.abs
  unfold W64 at hx
  by_cases h : 9223372036854775808 ≤ x
  · rw [show sg x = true from decide_eq_true h, dW_true]
    have : x / 2 ^ 63 = 1 := by omega
    rw [this]; omega
  · rw [show sg x = false from decide_eq_false h, dW_false]
    have : x / 2 ^ 63 = 0 := by omega
    rw [this]; omega
theorem inf2one_oneOf {x : Nat} (hx : W64 x) : Op.Complex.inf2one x = oneOf x := by
  unfold Op.Complex.inf2one oneOf
  rw [isInf_iff hx]
  by_cases h : rg x = 9218868437227405312
  · rw [if_pos (decide_eq_true h), if_pos h]; exact copysign_dW hx (by omega)
  · rw [if_neg (by rw [decide_eq_false h]; decide), if_neg h]; exact copysign_dW hx (by omega)
theorem copysign_inf {x : Nat} (hx : W64 x) : Op.Complex.copysign Op.Complex.inf x = infOf x := copysign_dW hx (by decide)
def quoRaw (a b c d : Nat) : Option Nat × Option Nat := if geq c d then quoHi a b c d else quoLo a b c d
/-- The language's quotient of numbers. -/
def quoC (a b c d : Nat) : Option Nat × Option Nat :=
  if (quoRaw a b c d).1.isSome = true ∨ (quoRaw a b c d).2.isSome = true then quoRaw a b c d
  else if rg c = 0 ∧ rg d = 0 then (opC .mul (cl (infOf c)) (cl a), opC .mul (cl (infOf c)) (cl b))
  else if (rg a = 9218868437227405312 ∨ rg b = 9218868437227405312) ∧ rg c ≠ 9218868437227405312 ∧ rg d ≠ 9218868437227405312 then corC 9218868437227405312 (oneOf a) (oneOf b) c d
  else if (rg c = 9218868437227405312 ∨ rg d = 9218868437227405312) ∧ rg a ≠ 9218868437227405312 ∧ rg b ≠ 9218868437227405312 then corC 0 a b (oneOf c) (oneOf d)
  else quoRaw a b c d
theorem ccmp_eql {P : Program} (x y : Nat) (w : World) : (Op.Complex.cmp .eql .f64 x y).run P w = .ok (FloatKind.f64.format.order x y == some .eq) w := by
  simp [Op.Complex.cmp, Op.floatCmp, asBool]
theorem eql_zero {x : Nat} (hx : W64 x) (n : Num x) : (FloatKind.f64.format.order x 0 == some .eq) = decide (rg x = 0) := by
  rw [order_zero hx n]
  by_cases h : rg x = 0
  · rw [if_pos h, decide_eq_true h]; rfl
  · rw [if_neg h, decide_eq_false h]
    cases sg x <;> rfl
theorem hi_cont {P : Program} {a b c d : Nat} (ha : W64 a) (hb : W64 b) (hc : W64 c) (hd : W64 d) (w : World) :
    ∃ e f q, (∀ k : Nat × Nat → Sem (Nat × Nat), (do
      let ratio ← Op.Complex.quo d c
      let denom ← Op.Complex.add c (← Op.Complex.mul ratio d)
      let x ← pure (← Op.Complex.quo (← Op.Complex.add a (← Op.Complex.mul b ratio)) denom, ← Op.Complex.quo (← Op.Complex.sub b (← Op.Complex.mul a ratio)) denom)
      k x : Sem (Nat × Nat)).run P w = (k (e, f)).run P (w.drewN q)) ∧ W64 e ∧ W64 f ∧ (cl e, cl f) = quoHi a b c d := by
  obtain ⟨e, f, q, r, l1, l2, k⟩ := hi_step (P := P) ha hb hc hd w
  refine ⟨e, f, q, fun K => ?_, l1, l2, k⟩
  have := congrArg (fun z => Result.andThen z fun x w' => (K x).run P w') r
  simp only [Result.andThen_ok] at this
  rw [← this, ← Sem.run_bind]
  simp only [bind_assoc]
theorem lo_cont {P : Program} {a b c d : Nat} (ha : W64 a) (hb : W64 b) (hc : W64 c) (hd : W64 d) (w : World) :
    ∃ e f q, (∀ k : Nat × Nat → Sem (Nat × Nat), (do
      let ratio ← Op.Complex.quo c d
      let denom ← Op.Complex.add d (← Op.Complex.mul ratio c)
      let x ← pure (← Op.Complex.quo (← Op.Complex.add (← Op.Complex.mul a ratio) b) denom, ← Op.Complex.quo (← Op.Complex.sub (← Op.Complex.mul b ratio) a) denom)
      k x : Sem (Nat × Nat)).run P w = (k (e, f)).run P (w.drewN q)) ∧ W64 e ∧ W64 f ∧ (cl e, cl f) = quoLo a b c d := by
  obtain ⟨e, f, q, r, l1, l2, k⟩ := lo_step (P := P) ha hb hc hd w
  refine ⟨e, f, q, fun K => ?_, l1, l2, k⟩
  have := congrArg (fun z => Result.andThen z fun x w' => (K x).run P w') r
  simp only [Result.andThen_ok] at this
  rw [← this, ← Sem.run_bind]
  simp only [bind_assoc]
theorem quotient_step {P : Program} {a b c d : Nat} (ha : W64 a) (hb : W64 b) (hc : W64 c) (hd : W64 d) (na : Num a) (nb : Num b) (nc : Num c) (nd : Num d) (w : World) :
    ∃ e f q, (Op.Complex.quotient a b c d).run P w = .ok (e, f) (w.drewN q) ∧ W64 e ∧ W64 f ∧ (cl e, cl f) = quoC a b c d := by
  have hge : absGe c d = geq c d := by
    unfold absGe
    rw [abs_rg, abs_rg]
    exact geq_order nc nd
  have hz1 := eql_zero hc nc
  have hz2 := eql_zero hd nd
  obtain ⟨e, f, q, l1, l2, k, hrun⟩ : ∃ e f q, W64 e ∧ W64 f ∧ (cl e, cl f) = quoRaw a b c d ∧ (Op.Complex.quotient a b c d).run P w = ((if !(Op.Complex.isNaN e && Op.Complex.isNaN f) then pure (e, f)
      else if (decide (rg c = 0) && decide (rg d = 0)) && (!Op.Complex.isNaN a || !Op.Complex.isNaN b) then do
        pure (← Op.Complex.mul (Op.Complex.copysign Op.Complex.inf c) a, ← Op.Complex.mul (Op.Complex.copysign Op.Complex.inf c) b)
      else if (Op.Complex.isInf a || Op.Complex.isInf b) && Op.Complex.isFinite c && Op.Complex.isFinite d then
        Op.Complex.corrected Op.Complex.inf (Op.Complex.inf2one a) (Op.Complex.inf2one b) c d
      else if (Op.Complex.isInf c || Op.Complex.isInf d) && Op.Complex.isFinite a && Op.Complex.isFinite b then
        Op.Complex.corrected 0 a b (Op.Complex.inf2one c) (Op.Complex.inf2one d)
      else pure (e, f) : Sem (Nat × Nat))).run P (w.drewN q) := by
    unfold quoRaw
    by_cases g : geq c d = true
    · obtain ⟨e, f, q, r, l1, l2, k⟩ := hi_cont (P := P) ha hb hc hd w
      refine ⟨e, f, q, l1, l2, by rw [if_pos g]; exact k, ?_⟩
      unfold Op.Complex.quotient
      rw [Sem.run_bind, run_ccmp_geq, Result.andThen_ok, hge, g]
      refine (r _).trans ?_
      simp only [Sem.run_bind, ccmp_eql, Result.andThen_ok, hz1, hz2, Sem.run_pure]
    · obtain ⟨e, f, q, r, l1, l2, k⟩ := lo_cont (P := P) ha hb hc hd w
      refine ⟨e, f, q, l1, l2, by rw [if_neg g]; exact k, ?_⟩
      unfold Op.Complex.quotient
      rw [Sem.run_bind, run_ccmp_geq, Result.andThen_ok, hge, show geq c d = false by simpa using g]
      refine (r _).trans ?_
      simp only [Sem.run_bind, ccmp_eql, Result.andThen_ok, hz1, hz2, Sem.run_pure]
  rw [hrun]
  rw [isNaN_iff ha, isNaN_iff hb, nan_cl l1, nan_cl l2]
  have k1 : cl e = (quoRaw a b c d).1 := by rw [← k]
  have k2 : cl f = (quoRaw a b c d).2 := by rw [← k]
  rw [k1, k2]
  unfold quoC
  have fin : ∀ {x : Nat}, W64 x → Num x → Op.Complex.isFinite x = decide (rg x ≠ 9218868437227405312) := by
    intro x hx n
    unfold Op.Complex.isFinite
    rw [isNaN_iff hx, isInf_iff hx]
    by_cases h : rg x = 9218868437227405312 <;> simp [n, h]
  by_cases h1 : (quoRaw a b c d).1.isSome = true ∨ (quoRaw a b c d).2.isSome = true
  · rw [if_pos h1, if_pos (by cases h3 : (quoRaw a b c d).1 <;> cases h4 : (quoRaw a b c d).2 <;> simp_all)]
    exact ⟨e, f, q, rfl, l1, l2, k⟩
  rw [if_neg h1, if_neg (by cases h3 : (quoRaw a b c d).1 <;> cases h4 : (quoRaw a b c d).2 <;> simp_all)]
  by_cases h2 : rg c = 0 ∧ rg d = 0
  · rw [if_pos h2, if_pos (by simp only [h2.1, h2.2, decide_true, na, not_true, decide_false]; rfl)]
    rw [copysign_inf hc]
    obtain ⟨x1, q1, s1, m1, c1⟩ := arith_step (P := P) .mul (by simp) (infOf_lt c) ha (w.drewN q)
    obtain ⟨x2, q2, s2, m2, c2⟩ := arith_step (P := P) .mul (by simp) (infOf_lt c) hb ((w.drewN q).drewN q1)
    refine ⟨x1, x2, q + q1 + q2, ?_, m1, m2, by rw [c1, c2]⟩
    simp only [Op.Complex.mul, Sem.run_bind, Sem.run_pure, s1, s2, Result.andThen_ok]
    simp only [World.drewN_drewN, Nat.add_assoc]
  rw [if_neg h2, if_neg (by simp only [Bool.and_eq_true, decide_eq_true_eq]; exact fun h => h2 h.1)]
  rw [isInf_iff ha, isInf_iff hb, isInf_iff hc, isInf_iff hd, fin ha na, fin hb nb, fin hc nc, fin hd nd, inf2one_oneOf ha, inf2one_oneOf hb, inf2one_oneOf hc, inf2one_oneOf hd]
  by_cases h3 : (rg a = 9218868437227405312 ∨ rg b = 9218868437227405312) ∧ rg c ≠ 9218868437227405312 ∧ rg d ≠ 9218868437227405312
  · rw [if_pos h3, if_pos (by simp only [Bool.and_eq_true, Bool.or_eq_true, decide_eq_true_eq]; exact ⟨⟨h3.1, h3.2.1⟩, h3.2.2⟩)]
    obtain ⟨e', f', q', s, m1, m2, k'⟩ := cor_step (P := P) (s := Op.Complex.inf) (by decide) (oneOf_lt a) (oneOf_lt b) hc hd (w.drewN q)
    exact ⟨e', f', q + q', by rw [s, World.drewN_drewN], m1, m2, k'⟩
  rw [if_neg h3, if_neg (by simp only [Bool.and_eq_true, Bool.or_eq_true, decide_eq_true_eq]; exact fun h => h3 ⟨h.1.1, h.1.2, h.2⟩)]
  by_cases h4 : (rg c = 9218868437227405312 ∨ rg d = 9218868437227405312) ∧ rg a ≠ 9218868437227405312 ∧ rg b ≠ 9218868437227405312
  · rw [if_pos h4, if_pos (by simp only [Bool.and_eq_true, Bool.or_eq_true, decide_eq_true_eq]; exact ⟨⟨h4.1, h4.2.1⟩, h4.2.2⟩)]
    obtain ⟨e', f', q', s, m1, m2, k'⟩ := cor_step (P := P) (s := 0) (by decide) ha hb (oneOf_lt c) (oneOf_lt d) (w.drewN q)
    exact ⟨e', f', q + q', by rw [s, World.drewN_drewN], m1, m2, k'⟩
  rw [if_neg h4, if_neg (by simp only [Bool.and_eq_true, Bool.or_eq_true, decide_eq_true_eq]; exact fun h => h4 ⟨h.1.1, h.1.2, h.2⟩)]
  exact ⟨e, f, q, rfl, l1, l2, k⟩
theorem cquo_step {P : Program} (t : TypeId) {a b c d : Nat} (ha : W64 a) (hb : W64 b) (hc : W64 c) (hd : W64 d) (na : Num a) (nb : Num b) (nc : Num c) (nd : Num d) (w : World) :
    ∃ e f q, (binOp .quo t (.complex .f64 a b) (.complex .f64 c d)).run P w = .ok (.complex .f64 e f) (w.drewN q) ∧ W64 e ∧ W64 f ∧ (cl e, cl f) = quoC a b c d := by
  obtain ⟨e, f, q, r, l1, l2, k⟩ := quotient_step (P := P) ha hb hc hd na nb nc nd w
  refine ⟨e, f, q, ?_, l1, l2, k⟩
  simp [binOp, Op.complexOp, Op.Complex.conv, r]
end Go.Proofs.Ytbcidfmfkmeinaa.Fl
namespace Go.Proofs.Ytbcidfmfkmeinaa.Fl
open Ieee
set_option linter.unusedSimpArgs false
set_option linter.unusedVariables false
/-- The rung nearest to m * 2 ^ p. -/
def rungOf (m : Nat) (p : Int) : Nat := if m = 0 then 0 else
  min ((max (p + m.log2 - 52) (-1074) - (-1074)).toNat * 4503599627370496 + Toward.even.cut false (m <<< (p - max (p + m.log2 - 52) (-1074)).toNat) (max (p + m.log2 - 52) (-1074) - p).toNat) 9218868437227405312
theorem nearest_rung (neg : Bool) (m : Nat) (p : Int) : F neg m p = dW neg (rungOf m p) := by
  unfold F Format.nearest rungOf
  split
  · rfl
  · simp only [binade_eq, inf_eq, least_eq, frac_eq]
    rfl
theorem rungOf_le (m : Nat) (p : Int) : rungOf m p ≤ 9218868437227405312 := by
  unfold rungOf
  split
  · omega
  · exact Nat.min_le_right _ _
theorem rungOf_zero (p : Int) : rungOf 0 p = 0 := by unfold rungOf; simp
theorem cut_le {m : Nat} (hm : m ≠ 0) {d : Nat} (h : m.log2 ≤ 52 + d) : Toward.even.cut false m d ≤ 9007199254740992 := by
  have h2 := Nat.lt_log2_self (n := m)
  unfold Toward.cut
  simp only
  generalize hg : 1 <<< min d (m.log2 + 2) = g
  have hb : ∀ b : Bool, b.toNat ≤ 1 := by decide
  have h3 : m / g < 9007199254740992 := by
    rw [Nat.shiftLeft_eq, Nat.one_mul] at hg
    rw [Nat.div_lt_iff_lt_mul (by rw [← hg]; exact Nat.pow_pos (by omega))]
    refine Nat.lt_of_lt_of_le h2 ?_
    rw [← hg, show (9007199254740992 : Nat) = 2 ^ 53 by decide, ← Nat.pow_add]
    exact Nat.pow_le_pow_right (by omega) (by omega)
  have := hb (decide (g < 2 * (m % g)) || (g == 2 * (m % g) && m / g % 2 == 1))
  omega
theorem log2_shift {m : Nat} (hm : m ≠ 0) (k : Nat) : (m <<< k).log2 = m.log2 + k := by
  rw [Nat.shiftLeft_eq]; exact log2_mul_pow hm k
theorem rungOf_lt {m : Nat} (hm : m ≠ 0) {p : Int} {K : Nat} (h : p + (m.log2 : Int) ≤ K) (hK : K ≤ 1000) : rungOf m p < (K + 1025) * 4503599627370496 := by
  unfold rungOf
  rw [if_neg hm]
  refine Nat.lt_of_le_of_lt (Nat.min_le_left _ _) ?_
  generalize hl : max (p + (m.log2 : Int) - 52) (-1074) = last
  have h1 : last ≤ K - 52 ∨ last = -1074 := by omega
  have h2 : p + (m.log2 : Int) - 52 ≤ last := by omega
  have hc : Toward.even.cut false (m <<< (p - last).toNat) (last - p).toNat ≤ 9007199254740992 := by
    refine cut_le (by rw [Nat.shiftLeft_eq]; exact Nat.mul_ne_zero hm (Nat.ne_of_gt (Nat.pow_pos (by omega)))) ?_
    rw [log2_shift hm]
    omega
  have h3 : (last - -1074).toNat ≤ K + 1022 := by omega
  have h4 := Nat.mul_le_mul_right 4503599627370496 h3
  omega
/-- A float of a size below 2 ^ k. -/
def Bd (x k : Nat) : Prop := x < 18446744073709551616 ∧ rg x < (k + 1023) * 4503599627370496
theorem Bd.fin {x k : Nat} (h : Bd x k) (hk : k ≤ 1000) : rg x < 9218868437227405312 := by
  refine Nat.lt_of_lt_of_le h.2 (Nat.le_trans (Nat.mul_le_mul_right 4503599627370496 (show k + 1023 ≤ 2023 by omega)) ?_)
  decide
theorem Bd.num {x k : Nat} (h : Bd x k) (hk : k ≤ 1000) : Num x := Nat.le_of_lt (h.fin hk)
theorem Bd.mono {x k l : Nat} (h : Bd x k) (hk : k ≤ l) : Bd x l := ⟨h.1, Nat.lt_of_lt_of_le h.2 (Nat.mul_le_mul_right _ (by omega))⟩
theorem Bd.place {x k : Nat} (h : Bd x k) : pl (rg x) + ((mg (rg x)).log2 : Int) ≤ (k : Int) - 1 ∨ mg (rg x) = 0 := by
  have h1 := h.2
  have h2 : (mg (rg x)).log2 ≤ 52 := log2_lt (by have := mg_lt (rg x); omega)
  unfold pl
  by_cases hs : rg x < 4503599627370496
  · rw [if_pos hs]
    by_cases h0 : mg (rg x) = 0
    · exact Or.inr h0
    · left
      omega
  · rw [if_neg hs]
    left
    have : rg x / 4503599627370496 < k + 1023 := by
      rw [Nat.div_lt_iff_lt_mul (by omega)]; exact h1
    omega
theorem dW_rg {s : Bool} {r : Nat} (h : r < 9223372036854775808) : rg (dW s r) = r := (read_parts s h).2
theorem dW_sg {s : Bool} {r : Nat} (h : r < 9223372036854775808) : sg (dW s r) = s := by
  cases s
  · rw [dW_false]; unfold sg; exact decide_eq_false (by omega)
  · rw [dW_true]; unfold sg; exact decide_eq_true (by omega)
theorem read_fin {x : Nat} (hx : x < 18446744073709551616) (h : rg x < 9218868437227405312) : double.read x = .number (sg x) (mg (rg x)) (pl (rg x)) := by
  conv => lhs; rw [split_word hx]
  exact read_word _ h
theorem mul_fin {x y : Nat} (hx : x < 18446744073709551616) (hy : y < 18446744073709551616) (fx : rg x < 9218868437227405312) (fy : rg y < 9218868437227405312) :
    floatBits .mul .f64 x y = some (dW (sg x ^^ sg y) (rungOf (mg (rg x) * mg (rg y)) (pl (rg x) + pl (rg y)))) := by
  show double.mul x y = _
  unfold Format.mul
  rw [read_fin hx fx, read_fin hy fy]
  simp only [Datum.product, Option.map_some, Format.write]
  rw [← nearest_rung]
/-- What is added. -/
def tot (s : Bool) (r : Nat) (t : Bool) (q : Nat) : Int := signed s (mg r) (pl r - min (pl r) (pl q)).toNat + signed t (mg q) (pl q - min (pl r) (pl q)).toNat
def sumW (s : Bool) (r : Nat) (t : Bool) (q : Nat) : Nat := dW (if tot s r t q = 0 then s && t else decide (tot s r t q < 0)) (rungOf (tot s r t q).natAbs (min (pl r) (pl q)))
theorem add_fin {x y : Nat} (hx : x < 18446744073709551616) (hy : y < 18446744073709551616) (fx : rg x < 9218868437227405312) (fy : rg y < 9218868437227405312) :
    floatBits .add .f64 x y = some (sumW (sg x) (rg x) (sg y) (rg y)) := by
  show double.add x y = _
  unfold Format.add
  rw [read_fin hx fx, read_fin hy fy]
  simp only [Datum.sum, Option.map_some, Format.write]
  unfold sumW
  rw [← nearest_rung]
  rfl
theorem sub_fin {x y : Nat} (hx : x < 18446744073709551616) (hy : y < 18446744073709551616) (fx : rg x < 9218868437227405312) (fy : rg y < 9218868437227405312) :
    floatBits .sub .f64 x y = some (sumW (sg x) (rg x) (!sg y) (rg y)) := by
  show double.sub x y = _
  unfold Format.sub
  rw [read_fin hx fx, read_fin hy fy]
  simp only [Datum.opposite, Datum.sum, Option.map_some, Format.write]
  unfold sumW
  rw [← nearest_rung]
  rfl
theorem signed_abs (s : Bool) (m u : Nat) : (signed s m u).natAbs = m * 2 ^ u := by
  unfold signed
  rw [Nat.shiftLeft_eq]
  cases s <;> simp [Int.natAbs_mul, Int.natAbs_pow]
theorem Bd.size {x k : Nat} (h : Bd x k) {b : Int} (hb : b ≤ pl (rg x)) (hk : b ≤ k) : mg (rg x) * 2 ^ (pl (rg x) - b).toNat < 2 ^ ((k : Int) - b).toNat := by
  rcases h.place with h1 | h1
  · have h2 := Nat.lt_log2_self (n := mg (rg x))
    have h3 : (mg (rg x)).log2 + 1 + (pl (rg x) - b).toNat ≤ ((k : Int) - b).toNat := by omega
    refine Nat.lt_of_lt_of_le (Nat.mul_lt_mul_of_pos_right h2 (Nat.pow_pos (by omega))) ?_
    rw [← Nat.pow_add]
    exact Nat.pow_le_pow_right (by omega) h3
  · rw [h1, Nat.zero_mul]
    exact Nat.pow_pos (by omega)
theorem bd_word {s : Bool} {m : Nat} {p : Int} {K : Nat} (h : m = 0 ∨ p + (m.log2 : Int) ≤ K) (hK : K ≤ 900) : Bd (dW s (rungOf m p)) (K + 2) := by
  have hl := rungOf_le m p
  refine ⟨dW_lt s (by omega), ?_⟩
  rw [dW_rg (by omega)]
  by_cases hm : m = 0
  · rw [hm, rungOf_zero]
    omega
  · rcases h with h | h
    · exact absurd h hm
    · exact Nat.lt_of_lt_of_le (rungOf_lt hm h (by omega)) (Nat.mul_le_mul_right _ (by omega))
theorem log2_mul_le {a b : Nat} (ha : a ≠ 0) (hb : b ≠ 0) : (a * b).log2 ≤ a.log2 + b.log2 + 1 := by
  have h1 := Nat.lt_log2_self (n := a)
  have h2 := Nat.lt_log2_self (n := b)
  have h3 : a * b < 2 ^ (a.log2 + 1 + (b.log2 + 1)) := by
    rw [Nat.pow_add]
    exact Nat.mul_lt_mul'' h1 h2
  have h4 := Nat.log2_lt (Nat.mul_ne_zero ha hb) |>.2 h3
  omega
theorem mul_bd {x y i j : Nat} (hx : Bd x i) (hy : Bd y j) (hi : i + j ≤ 900) (h1 : 1 ≤ i + j) : ∃ z, floatBits .mul .f64 x y = some z ∧ Bd z (i + j + 1) := by
  refine ⟨_, mul_fin hx.1 hy.1 (hx.fin (by omega)) (hy.fin (by omega)), ?_⟩
  have := bd_word (s := sg x ^^ sg y) (m := mg (rg x) * mg (rg y)) (p := pl (rg x) + pl (rg y)) (K := i + j - 1) ?_ (by omega)
  · exact this.mono (by omega)
  · rcases hx.place with a | a
    · rcases hy.place with b | b
      · by_cases za : mg (rg x) = 0
        · left; rw [za, Nat.zero_mul]
        · by_cases zb : mg (rg y) = 0
          · left; rw [zb, Nat.mul_zero]
          · right
            have := log2_mul_le za zb
            omega
      · left; rw [b, Nat.mul_zero]
    · left; rw [a, Nat.zero_mul]
theorem sum_bd {x y k : Nat} (hx : Bd x k) (hy : Bd y k) (hk : k ≤ 900) (s t : Bool) : Bd (sumW s (rg x) t (rg y)) (k + 2) := by
  unfold sumW
  refine bd_word ?_ hk
  by_cases h0 : (tot s (rg x) t (rg y)).natAbs = 0
  · exact Or.inl h0
  right
  have hpx := pl_le (hx.fin (by omega))
  have hpy := pl_le (hy.fin (by omega))
  have hgx := pl_ge (rg x)
  have hgy := pl_ge (rg y)
  generalize hb : min (pl (rg x)) (pl (rg y)) = b
  by_cases hbk : b ≤ k
  · have h1 := hx.size (b := b) (by omega) hbk
    have h2 := hy.size (b := b) (by omega) hbk
    have h3 : (tot s (rg x) t (rg y)).natAbs ≤ mg (rg x) * 2 ^ (pl (rg x) - b).toNat + mg (rg y) * 2 ^ (pl (rg y) - b).toNat := by
      unfold tot
      rw [hb]
      refine Nat.le_trans (Int.natAbs_add_le _ _) ?_
      rw [signed_abs, signed_abs]
      exact Nat.le_refl _
    have h4 : (tot s (rg x) t (rg y)).natAbs < 2 ^ (((k : Int) - b).toNat + 1) := by
      rw [Nat.pow_succ]; omega
    have h5 := Nat.log2_lt h0 |>.2 h4
    omega
  · exfalso
    apply h0
    have e1 : mg (rg x) = 0 := by
      rcases hx.place with a | a
      · omega
      · exact a
    have e2 : mg (rg y) = 0 := by
      rcases hy.place with a | a
      · omega
      · exact a
    unfold tot
    rw [e1, e2]
    simp [signed]
theorem add_bd {x y k : Nat} (hx : Bd x k) (hy : Bd y k) (hk : k ≤ 900) : ∃ z, floatBits .add .f64 x y = some z ∧ Bd z (k + 2) :=
  ⟨_, add_fin hx.1 hy.1 (hx.fin (by omega)) (hy.fin (by omega)), sum_bd hx hy hk _ _⟩
theorem sub_bd {x y k : Nat} (hx : Bd x k) (hy : Bd y k) (hk : k ≤ 900) : ∃ z, floatBits .sub .f64 x y = some z ∧ Bd z (k + 2) :=
  ⟨_, sub_fin hx.1 hy.1 (hx.fin (by omega)) (hy.fin (by omega)), sum_bd hx hy hk _ _⟩
/-- The same size, the other sign (of noughts any). -/
def Opp (x y : Nat) : Prop := rg x = rg y ∧ (rg x ≠ 0 → sg x = !sg y)
theorem mg_zero : mg 0 = 0 := by decide
theorem opp_signed {x y : Nat} (h : Opp x y) (u : Nat) : signed (sg y) (mg (rg y)) u = -signed (sg x) (mg (rg x)) u := by
  rw [← h.1]
  by_cases h0 : rg x = 0
  · rw [h0, mg_zero]; simp [signed]
  · have := h.2 h0
    rw [this]
    unfold signed
    cases sg y <;> simp
theorem signed_flip (s : Bool) (m u : Nat) : signed (!s) m u = -signed s m u := by
  unfold signed
  cases s <;> simp
theorem opp_word {s t : Bool} {r : Nat} (hr : r < 9223372036854775808) (h : r ≠ 0 → s = !t) : Opp (dW s r) (dW t r) := by
  refine ⟨by rw [dW_rg hr, dW_rg hr], fun h0 => ?_⟩
  rw [dW_rg hr] at h0
  rw [dW_sg hr, dW_sg hr]
  exact h h0
theorem mul_opp {x x' y : Nat} (h : Opp x x') (hx : x < 18446744073709551616) (hx' : x' < 18446744073709551616) (hy : y < 18446744073709551616) (fx : rg x < 9218868437227405312) (fy : rg y < 9218868437227405312) {z z' : Nat}
    (hz : floatBits .mul .f64 x y = some z) (hz' : floatBits .mul .f64 x' y = some z') : Opp z z' := by
  rw [mul_fin hx hy fx fy] at hz
  rw [mul_fin hx' hy (by rw [← h.1]; exact fx) fy, ← h.1] at hz'
  obtain rfl := Option.some.inj hz
  obtain rfl := Option.some.inj hz'
  have hl := rungOf_le (mg (rg x) * mg (rg y)) (pl (rg x) + pl (rg y))
  refine opp_word (by omega) fun h0 => ?_
  have : rg x ≠ 0 := by
    intro e
    apply h0
    rw [e, mg_zero, Nat.zero_mul, rungOf_zero]
  rw [h.2 this]
  cases sg x' <;> cases sg y <;> rfl
theorem sumW_opp {s r t q : _} {s' t' : Bool} (h : tot s' r t' q = -tot s r t q) : Opp (sumW s r t q) (sumW s' r t' q) := by
  unfold sumW
  rw [h, Int.natAbs_neg]
  have hl := rungOf_le (tot s r t q).natAbs (min (pl r) (pl q))
  refine opp_word (by omega) fun h0 => ?_
  have : tot s r t q ≠ 0 := by
    intro e
    apply h0
    rw [e]
    exact rungOf_zero _
  rw [if_neg this, if_neg (by omega)]
  by_cases hn : tot s r t q < 0
  · rw [decide_eq_true hn, decide_eq_false (by omega)]; rfl
  · rw [decide_eq_false hn, decide_eq_true (by omega)]; rfl
theorem add_opp {x x' y y' : Nat} (h : Opp x x') (k : Opp y y') (hx : x < 18446744073709551616) (hx' : x' < 18446744073709551616) (hy : y < 18446744073709551616) (hy' : y' < 18446744073709551616) (fx : rg x < 9218868437227405312) (fy : rg y < 9218868437227405312) {z z' : Nat}
    (hz : floatBits .add .f64 x y = some z) (hz' : floatBits .add .f64 x' y' = some z') : Opp z z' := by
  rw [add_fin hx hy fx fy] at hz
  rw [add_fin hx' hy' (by rw [← h.1]; exact fx) (by rw [← k.1]; exact fy)] at hz'
  obtain rfl := Option.some.inj hz
  obtain rfl := Option.some.inj hz'
  rw [← h.1, ← k.1]
  refine sumW_opp ?_
  unfold tot
  have e1 := opp_signed h (pl (rg x) - min (pl (rg x)) (pl (rg y))).toNat
  have e2 := opp_signed k (pl (rg y) - min (pl (rg x)) (pl (rg y))).toNat
  rw [← h.1] at e1
  rw [← k.1] at e2
  rw [e1, e2]
  omega
theorem sub_opp {x x' y y' : Nat} (h : Opp x x') (k : Opp y y') (hx : x < 18446744073709551616) (hx' : x' < 18446744073709551616) (hy : y < 18446744073709551616) (hy' : y' < 18446744073709551616) (fx : rg x < 9218868437227405312) (fy : rg y < 9218868437227405312) {z z' : Nat}
    (hz : floatBits .sub .f64 x y = some z) (hz' : floatBits .sub .f64 x' y' = some z') : Opp z z' := by
  rw [sub_fin hx hy fx fy] at hz
  rw [sub_fin hx' hy' (by rw [← h.1]; exact fx) (by rw [← k.1]; exact fy)] at hz'
  obtain rfl := Option.some.inj hz
  obtain rfl := Option.some.inj hz'
  rw [← h.1, ← k.1]
  refine sumW_opp ?_
  unfold tot
  have e1 := opp_signed h (pl (rg x) - min (pl (rg x)) (pl (rg y))).toNat
  have e2 := opp_signed k (pl (rg y) - min (pl (rg x)) (pl (rg y))).toNat
  rw [← h.1] at e1
  rw [← k.1] at e2
  rw [signed_flip, signed_flip, e1, e2]
  omega
end Go.Proofs.Ytbcidfmfkmeinaa.Fl
