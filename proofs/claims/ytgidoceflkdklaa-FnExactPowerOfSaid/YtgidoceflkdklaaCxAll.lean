/- The language's complex quotient of numbers without NaN, whole: the class of each part; its operation. No program. -/
import Derived.Test.YtgidoceflkdklaaCxQuo
namespace Go.Proofs.Ytgidoceflkdklaa.Fl
open Ieee
set_option linter.unusedSimpArgs false
set_option linter.unusedVariables false
/-- 1 of an infinite float, 0 of others, with its sign. -/
def oneOf (x : Nat) : Nat := dW (sg x) (if rg x = 9218868437227405312 then 4607182418800017408 else 0)
def infOf (x : Nat) : Nat := dW (sg x) 9218868437227405312
theorem dW_lt (s : Bool) {r : Nat} (h : r < 9223372036854775808) : W64 (dW s r) := by
  cases s
  · rw [dW_false]; unfold W64; omega
  · rw [dW_true]; unfold W64; omega
theorem oneOf_lt (x : Nat) : W64 (oneOf x) := by unfold oneOf; split <;> exact dW_lt _ (by omega)
theorem infOf_lt (x : Nat) : W64 (infOf x) := dW_lt _ (by omega)
theorem copysign_dW {x : Nat} (hx : W64 x) {r : Nat} (hr : r < 9223372036854775808) : Op.Complex.copysign r x = dW (sg x) r := by
  unfold Op.Complex.copysign Op.Complex.abs
  unfold W64 at hx
  by_cases h : 9223372036854775808 ≤ x
  · rw [show sg x = true from decide_eq_true h, dW_true]
    have : x / 2 ^ 63 = 1 := by omega
    rw [this]; omega
  · rw [show sg x = false from decide_eq_false h, dW_false]
    have : x / 2 ^ 63 = 0 := by omega
    rw [this]; omega
theorem inf2one_oneOf {x : Nat} (hx : W64 x) : Op.Complex.inf2one x = oneOf x := by
  unfold Op.Complex.inf2one oneOf
  rw [isInf_iff hx]
  by_cases h : rg x = 9218868437227405312
  · rw [if_pos (decide_eq_true h), if_pos h]; exact copysign_dW hx (by omega)
  · rw [if_neg (by rw [decide_eq_false h]; decide), if_neg h]; exact copysign_dW hx (by omega)
theorem copysign_inf {x : Nat} (hx : W64 x) : Op.Complex.copysign Op.Complex.inf x = infOf x := copysign_dW hx (by decide)
def quoRaw (a b c d : Nat) : Option Nat × Option Nat := if geq c d then quoHi a b c d else quoLo a b c d
/-- The language's quotient of numbers. -/
def quoC (a b c d : Nat) : Option Nat × Option Nat :=
  if (quoRaw a b c d).1.isSome = true ∨ (quoRaw a b c d).2.isSome = true then quoRaw a b c d
  else if rg c = 0 ∧ rg d = 0 then (opC .mul (cl (infOf c)) (cl a), opC .mul (cl (infOf c)) (cl b))
  else if (rg a = 9218868437227405312 ∨ rg b = 9218868437227405312) ∧ rg c ≠ 9218868437227405312 ∧ rg d ≠ 9218868437227405312 then corC 9218868437227405312 (oneOf a) (oneOf b) c d
  else if (rg c = 9218868437227405312 ∨ rg d = 9218868437227405312) ∧ rg a ≠ 9218868437227405312 ∧ rg b ≠ 9218868437227405312 then corC 0 a b (oneOf c) (oneOf d)
  else quoRaw a b c d
theorem ccmp_eql {P : Program} (x y : Nat) (w : World) : (Op.Complex.cmp .eql .f64 x y).run P w = .ok (FloatKind.f64.format.order x y == some .eq) w := by
  simp [Op.Complex.cmp, Op.floatCmp, asBool]
theorem eql_zero {x : Nat} (hx : W64 x) (n : Num x) : (FloatKind.f64.format.order x 0 == some .eq) = decide (rg x = 0) := by
  rw [order_zero hx n]
  by_cases h : rg x = 0
  · rw [if_pos h, decide_eq_true h]; rfl
  · rw [if_neg h, decide_eq_false h]
    cases sg x <;> rfl
theorem hi_cont {P : Program} {a b c d : Nat} (ha : W64 a) (hb : W64 b) (hc : W64 c) (hd : W64 d) (w : World) :
    ∃ e f q, (∀ k : Nat × Nat → Sem (Nat × Nat), (do
      let ratio ← Op.Complex.quo d c
      let denom ← Op.Complex.add c (← Op.Complex.mul ratio d)
      let x ← pure (← Op.Complex.quo (← Op.Complex.add a (← Op.Complex.mul b ratio)) denom, ← Op.Complex.quo (← Op.Complex.sub b (← Op.Complex.mul a ratio)) denom)
      k x : Sem (Nat × Nat)).run P w = (k (e, f)).run P (w.drewN q)) ∧ W64 e ∧ W64 f ∧ (cl e, cl f) = quoHi a b c d := by
  obtain ⟨e, f, q, r, l1, l2, k⟩ := hi_step (P := P) ha hb hc hd w
  refine ⟨e, f, q, fun K => ?_, l1, l2, k⟩
  have := congrArg (fun z => Result.andThen z fun x w' => (K x).run P w') r
  simp only [Result.andThen_ok] at this
  rw [← this, ← Sem.run_bind]
  simp only [bind_assoc]
theorem lo_cont {P : Program} {a b c d : Nat} (ha : W64 a) (hb : W64 b) (hc : W64 c) (hd : W64 d) (w : World) :
    ∃ e f q, (∀ k : Nat × Nat → Sem (Nat × Nat), (do
      let ratio ← Op.Complex.quo c d
      let denom ← Op.Complex.add d (← Op.Complex.mul ratio c)
      let x ← pure (← Op.Complex.quo (← Op.Complex.add (← Op.Complex.mul a ratio) b) denom, ← Op.Complex.quo (← Op.Complex.sub (← Op.Complex.mul b ratio) a) denom)
      k x : Sem (Nat × Nat)).run P w = (k (e, f)).run P (w.drewN q)) ∧ W64 e ∧ W64 f ∧ (cl e, cl f) = quoLo a b c d := by
  obtain ⟨e, f, q, r, l1, l2, k⟩ := lo_step (P := P) ha hb hc hd w
  refine ⟨e, f, q, fun K => ?_, l1, l2, k⟩
  have := congrArg (fun z => Result.andThen z fun x w' => (K x).run P w') r
  simp only [Result.andThen_ok] at this
  rw [← this, ← Sem.run_bind]
  simp only [bind_assoc]
theorem quotient_step {P : Program} {a b c d : Nat} (ha : W64 a) (hb : W64 b) (hc : W64 c) (hd : W64 d) (na : Num a) (nb : Num b) (nc : Num c) (nd : Num d) (w : World) :
    ∃ e f q, (Op.Complex.quotient a b c d).run P w = .ok (e, f) (w.drewN q) ∧ W64 e ∧ W64 f ∧ (cl e, cl f) = quoC a b c d := by
  have hge : absGe c d = geq c d := by
    unfold absGe
    rw [abs_rg, abs_rg]
    exact geq_order nc nd
  have hz1 := eql_zero hc nc
  have hz2 := eql_zero hd nd
  obtain ⟨e, f, q, l1, l2, k, hrun⟩ : ∃ e f q, W64 e ∧ W64 f ∧ (cl e, cl f) = quoRaw a b c d ∧ (Op.Complex.quotient a b c d).run P w = ((if !(Op.Complex.isNaN e && Op.Complex.isNaN f) then pure (e, f)
      else if (decide (rg c = 0) && decide (rg d = 0)) && (!Op.Complex.isNaN a || !Op.Complex.isNaN b) then do
        pure (← Op.Complex.mul (Op.Complex.copysign Op.Complex.inf c) a, ← Op.Complex.mul (Op.Complex.copysign Op.Complex.inf c) b)
      else if (Op.Complex.isInf a || Op.Complex.isInf b) && Op.Complex.isFinite c && Op.Complex.isFinite d then
        Op.Complex.corrected Op.Complex.inf (Op.Complex.inf2one a) (Op.Complex.inf2one b) c d
      else if (Op.Complex.isInf c || Op.Complex.isInf d) && Op.Complex.isFinite a && Op.Complex.isFinite b then
        Op.Complex.corrected 0 a b (Op.Complex.inf2one c) (Op.Complex.inf2one d)
      else pure (e, f) : Sem (Nat × Nat))).run P (w.drewN q) := by
    unfold quoRaw
    by_cases g : geq c d = true
    · obtain ⟨e, f, q, r, l1, l2, k⟩ := hi_cont (P := P) ha hb hc hd w
      refine ⟨e, f, q, l1, l2, by rw [if_pos g]; exact k, ?_⟩
      unfold Op.Complex.quotient
      rw [Sem.run_bind, run_ccmp_geq, Result.andThen_ok, hge, g]
      refine (r _).trans ?_
      simp only [Sem.run_bind, ccmp_eql, Result.andThen_ok, hz1, hz2, Sem.run_pure]
    · obtain ⟨e, f, q, r, l1, l2, k⟩ := lo_cont (P := P) ha hb hc hd w
      refine ⟨e, f, q, l1, l2, by rw [if_neg g]; exact k, ?_⟩
      unfold Op.Complex.quotient
      rw [Sem.run_bind, run_ccmp_geq, Result.andThen_ok, hge, show geq c d = false by simpa using g]
      refine (r _).trans ?_
      simp only [Sem.run_bind, ccmp_eql, Result.andThen_ok, hz1, hz2, Sem.run_pure]
  rw [hrun]
  rw [isNaN_iff ha, isNaN_iff hb, nan_cl l1, nan_cl l2]
  have k1 : cl e = (quoRaw a b c d).1 := by rw [← k]
  have k2 : cl f = (quoRaw a b c d).2 := by rw [← k]
  rw [k1, k2]
  unfold quoC
  have fin : ∀ {x : Nat}, W64 x → Num x → Op.Complex.isFinite x = decide (rg x ≠ 9218868437227405312) := by
    intro x hx n
    unfold Op.Complex.isFinite
    rw [isNaN_iff hx, isInf_iff hx]
    by_cases h : rg x = 9218868437227405312 <;> simp [n, h]
  by_cases h1 : (quoRaw a b c d).1.isSome = true ∨ (quoRaw a b c d).2.isSome = true
  · rw [if_pos h1, if_pos (by cases h3 : (quoRaw a b c d).1 <;> cases h4 : (quoRaw a b c d).2 <;> simp_all)]
    exact ⟨e, f, q, rfl, l1, l2, k⟩
  rw [if_neg h1, if_neg (by cases h3 : (quoRaw a b c d).1 <;> cases h4 : (quoRaw a b c d).2 <;> simp_all)]
  by_cases h2 : rg c = 0 ∧ rg d = 0
  · rw [if_pos h2, if_pos (by simp only [h2.1, h2.2, decide_true, na, not_true, decide_false]; rfl)]
    rw [copysign_inf hc]
    obtain ⟨x1, q1, s1, m1, c1⟩ := arith_step (P := P) .mul (by simp) (infOf_lt c) ha (w.drewN q)
    obtain ⟨x2, q2, s2, m2, c2⟩ := arith_step (P := P) .mul (by simp) (infOf_lt c) hb ((w.drewN q).drewN q1)
    refine ⟨x1, x2, q + q1 + q2, ?_, m1, m2, by rw [c1, c2]⟩
    simp only [Op.Complex.mul, Sem.run_bind, Sem.run_pure, s1, s2, Result.andThen_ok]
    simp only [World.drewN_drewN, Nat.add_assoc]
  rw [if_neg h2, if_neg (by simp only [Bool.and_eq_true, decide_eq_true_eq]; exact fun h => h2 h.1)]
  rw [isInf_iff ha, isInf_iff hb, isInf_iff hc, isInf_iff hd, fin ha na, fin hb nb, fin hc nc, fin hd nd, inf2one_oneOf ha, inf2one_oneOf hb, inf2one_oneOf hc, inf2one_oneOf hd]
  by_cases h3 : (rg a = 9218868437227405312 ∨ rg b = 9218868437227405312) ∧ rg c ≠ 9218868437227405312 ∧ rg d ≠ 9218868437227405312
  · rw [if_pos h3, if_pos (by simp only [Bool.and_eq_true, Bool.or_eq_true, decide_eq_true_eq]; exact ⟨⟨h3.1, h3.2.1⟩, h3.2.2⟩)]
    obtain ⟨e', f', q', s, m1, m2, k'⟩ := cor_step (P := P) (s := Op.Complex.inf) (by decide) (oneOf_lt a) (oneOf_lt b) hc hd (w.drewN q)
    exact ⟨e', f', q + q', by rw [s, World.drewN_drewN], m1, m2, k'⟩
  rw [if_neg h3, if_neg (by simp only [Bool.and_eq_true, Bool.or_eq_true, decide_eq_true_eq]; exact fun h => h3 ⟨h.1.1, h.1.2, h.2⟩)]
  by_cases h4 : (rg c = 9218868437227405312 ∨ rg d = 9218868437227405312) ∧ rg a ≠ 9218868437227405312 ∧ rg b ≠ 9218868437227405312
  · rw [if_pos h4, if_pos (by simp only [Bool.and_eq_true, Bool.or_eq_true, decide_eq_true_eq]; exact ⟨⟨h4.1, h4.2.1⟩, h4.2.2⟩)]
    obtain ⟨e', f', q', s, m1, m2, k'⟩ := cor_step (P := P) (s := 0) (by decide) ha hb (oneOf_lt c) (oneOf_lt d) (w.drewN q)
    exact ⟨e', f', q + q', by rw [s, World.drewN_drewN], m1, m2, k'⟩
  rw [if_neg h4, if_neg (by simp only [Bool.and_eq_true, Bool.or_eq_true, decide_eq_true_eq]; exact fun h => h4 ⟨h.1.1, h.1.2, h.2⟩)]
  exact ⟨e, f, q, rfl, l1, l2, k⟩
theorem cquo_step {P : Program} (t : TypeId) {a b c d : Nat} (ha : W64 a) (hb : W64 b) (hc : W64 c) (hd : W64 d) (na : Num a) (nb : Num b) (nc : Num c) (nd : Num d) (w : World) :
    ∃ e f q, (binOp .quo t (.complex .f64 a b) (.complex .f64 c d)).run P w = .ok (.complex .f64 e f) (w.drewN q) ∧ W64 e ∧ W64 f ∧ (cl e, cl f) = quoC a b c d := by
  obtain ⟨e, f, q, r, l1, l2, k⟩ := quotient_step (P := P) ha hb hc hd na nb nc nd w
  refine ⟨e, f, q, ?_, l1, l2, k⟩
  simp [binOp, Op.complexOp, Op.Complex.conv, r]
end Go.Proofs.Ytgidoceflkdklaa.Fl
