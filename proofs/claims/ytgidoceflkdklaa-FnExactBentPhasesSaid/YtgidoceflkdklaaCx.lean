/- The language's complex products, sums and quotients, whatever the parts are: the class of each part (all NaNs being one); draws beside. No program. -/
import Derived.Test.YtgidoceflkdklaaFl
import Derived.Laws.ComplexArith
import Derived.Laws.ComplexQuo
namespace Go.Proofs.Ytgidoceflkdklaa.Fl
open Ieee
set_option linter.unusedSimpArgs false
theorem arith_step {P : Program} (op : BinOp) (hop : op = .add ∨ op = .sub ∨ op = .mul ∨ op = .quo) {x y : Nat} (hx : x < 18446744073709551616) (hy : y < 18446744073709551616) (w : World) :
    ∃ z q, (Op.Complex.arith op .f64 x y).run P w = .ok z (w.drewN q) ∧ z < 18446744073709551616 ∧ cl z = opC op (cl x) (cl y) := by
  obtain ⟨q, hq⟩ := opW_drewN op x y w
  refine ⟨opV op x y w, q, ?_, opV_lt op x y w, opV_cl w hx hy⟩
  have h := run_float (P := P) w op 0 x y hop
  rw [hq] at h
  rcases hop with rfl | rfl | rfl | rfl <;> simp [binOp] at h <;> simp [Op.Complex.arith, h]
/-- Products and sums of classes. -/
def mulRe (a b c d : Option Nat) : Option Nat := opC .sub (opC .mul a c) (opC .mul b d)
def mulIm (a b c d : Option Nat) : Option Nat := opC .add (opC .mul a d) (opC .mul b c)
theorem product_step {P : Program} {a b c d : Nat} (ha : a < 18446744073709551616) (hb : b < 18446744073709551616) (hc : c < 18446744073709551616) (hd : d < 18446744073709551616) (w : World) :
    ∃ e f q, (Op.Complex.product a b c d).run P w = .ok (e, f) (w.drewN q) ∧ e < 18446744073709551616 ∧ f < 18446744073709551616 ∧ cl e = mulRe (cl a) (cl b) (cl c) (cl d) ∧ cl f = mulIm (cl a) (cl b) (cl c) (cl d) := by
  obtain ⟨x1, q1, r1, l1, c1⟩ := arith_step (P := P) .mul (by simp) ha hc w
  obtain ⟨x2, q2, r2, l2, c2⟩ := arith_step (P := P) .mul (by simp) hb hd (w.drewN q1)
  obtain ⟨x3, q3, r3, l3, c3⟩ := arith_step (P := P) .sub (by simp) l1 l2 ((w.drewN q1).drewN q2)
  obtain ⟨x4, q4, r4, l4, c4⟩ := arith_step (P := P) .mul (by simp) ha hd (((w.drewN q1).drewN q2).drewN q3)
  obtain ⟨x5, q5, r5, l5, c5⟩ := arith_step (P := P) .mul (by simp) hb hc ((((w.drewN q1).drewN q2).drewN q3).drewN q4)
  obtain ⟨x6, q6, r6, l6, c6⟩ := arith_step (P := P) .add (by simp) l4 l5 (((((w.drewN q1).drewN q2).drewN q3).drewN q4).drewN q5)
  refine ⟨x3, x6, q1 + q2 + q3 + q4 + q5 + q6, ?_, l3, l6, by rw [c3, c1, c2]; rfl, by rw [c6, c4, c5]; rfl⟩
  simp only [Op.Complex.product, Op.Complex.mul, Op.Complex.sub, Op.Complex.add, Sem.run_bind, Sem.run_pure, r1, r2, r3, r4, r5, r6, Result.andThen_ok]
  simp only [World.drewN_drewN, Nat.add_assoc]
theorem cmul_step {P : Program} (t : TypeId) {a b c d : Nat} (ha : a < 18446744073709551616) (hb : b < 18446744073709551616) (hc : c < 18446744073709551616) (hd : d < 18446744073709551616) (w : World) :
    ∃ e f q, (binOp .mul t (.complex .f64 a b) (.complex .f64 c d)).run P w = .ok (.complex .f64 e f) (w.drewN q) ∧ e < 18446744073709551616 ∧ f < 18446744073709551616 ∧ cl e = mulRe (cl a) (cl b) (cl c) (cl d) ∧ cl f = mulIm (cl a) (cl b) (cl c) (cl d) := by
  obtain ⟨e, f, q, r, l1, l2, c1, c2⟩ := product_step (P := P) ha hb hc hd w
  refine ⟨e, f, q, ?_, l1, l2, c1, c2⟩
  simp [binOp, Op.complexOp, Op.Complex.conv, r]
theorem csum_step {P : Program} (op : BinOp) (hop : op = .add ∨ op = .sub) (t : TypeId) {a b c d : Nat} (ha : a < 18446744073709551616) (hb : b < 18446744073709551616) (hc : c < 18446744073709551616) (hd : d < 18446744073709551616) (w : World) :
    ∃ e f q, (binOp op t (.complex .f64 a b) (.complex .f64 c d)).run P w = .ok (.complex .f64 e f) (w.drewN q) ∧ e < 18446744073709551616 ∧ f < 18446744073709551616 ∧ cl e = opC op (cl a) (cl c) ∧ cl f = opC op (cl b) (cl d) := by
  obtain ⟨x1, q1, r1, l1, c1⟩ := arith_step (P := P) op (by rcases hop with h | h <;> simp [h]) ha hc w
  obtain ⟨x2, q2, r2, l2, c2⟩ := arith_step (P := P) op (by rcases hop with h | h <;> simp [h]) hb hd (w.drewN q1)
  refine ⟨x1, x2, q1 + q2, ?_, l1, l2, c1, c2⟩
  rcases hop with rfl | rfl <;> simp [binOp, Op.complexOp, r1, r2]
end Go.Proofs.Ytgidoceflkdklaa.Fl
