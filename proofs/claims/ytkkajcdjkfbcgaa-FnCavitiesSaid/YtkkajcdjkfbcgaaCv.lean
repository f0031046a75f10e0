/- Fractions as numbers: what the operations mean; a cavity's half and its trace. -/
import Derived.Test.YtkkajcdjkfbcgaaCm
import Derived.Test.YtkkajcdjkfbcgaaJn
import Derived.Test.YtkkajcdjkfbcgaaPu
import Derived.Handy
namespace Go.Proofs.Ytkkajcdjkfbcgaa
open Go.RowKit
set_option linter.unusedVariables false
set_option linter.unusedSimpArgs false
def Q.v (x : Q) : Rat := (x.n : Rat) / (x.d : Rat)
theorem r_cross (n d : Int) : Fm.rN n d * d = n * Fm.rD n d := by
  have h1 : n.tdiv (Int.gcd n d) * (Int.gcd n d : Int) = n := Int.tdiv_mul_cancel (Int.gcd_dvd_left ..)
  have h2 : d.tdiv (Int.gcd n d) * (Int.gcd n d : Int) = d := Int.tdiv_mul_cancel (Int.gcd_dvd_right ..)
  unfold Fm.rN Fm.rD
  generalize n.tdiv (Int.gcd n d) = a at *
  generalize d.tdiv (Int.gcd n d) = b at *
  generalize (Int.gcd n d : Int) = g at *
  split <;> grind
theorem cast_ne {m : Int} (h : m ≠ 0) : (m : Rat) ≠ 0 := by
  intro k
  exact h (Rat.intCast_inj.1 (by simpa using k))
theorem v_cross {a b n m : Int} (hm : m ≠ 0) (hb : b ≠ 0) (h : a * m = n * b) : (a : Rat) / (b : Rat) = (n : Rat) / (m : Rat) := by
  have k : (a : Rat) * (m : Rat) = (n : Rat) * (b : Rat) := by rw [← Rat.intCast_mul, ← Rat.intCast_mul, h]
  have h1 := cast_ne hm
  have h2 := cast_ne hb
  grind
theorem op_v {a b c d n m : Int} (hm : m ≠ 0) (h : (opC a b c d n m == 0) = true) : ((opN a b c d n m : Int) : Rat) / ((opD a b c d n m : Int) : Rat) = (n : Rat) / (m : Rat) := by
  unfold opC at h
  unfold opN opD
  by_cases e : (rightB a b && rightB c d) = true
  · rw [if_pos e] at h
    rw [if_pos e, if_pos e]
    unfold resC at h
    unfold resN resD
    by_cases l : lowB n m = true
    · rw [if_pos l, if_pos l]
      exact v_cross hm (by have := Fm.rD_ge n m hm; omega) (r_cross n m)
    · rw [if_neg l] at h; simp at h
  · rw [if_neg e] at h; simp at h
theorem qu_v {a b c d n m : Int} (hm : m ≠ 0) (h : (quC a b c d n m == 0) = true) : ((quN a b c d n m : Int) : Rat) / ((quD a b c d n m : Int) : Rat) = (n : Rat) / (m : Rat) := by
  unfold quC at h
  unfold quN quD
  by_cases e : (rightB a b && rightB c d) = true
  · rw [if_pos e] at h
    rw [if_pos e, if_pos e]
    by_cases z : c = 0
    · rw [if_pos z] at h; simp at h
    rw [if_neg z] at h
    rw [if_neg z, if_neg z]
    unfold resC at h
    unfold resN resD
    by_cases l : lowB n m = true
    · rw [if_pos l, if_pos l]
      exact v_cross hm (by have := Fm.rD_ge n m hm; omega) (r_cross n m)
    · rw [if_neg l] at h; simp at h
  · rw [if_neg e] at h; simp at h
theorem d_ne {x : Q} (h : x.ok = true) : (x.d : Rat) ≠ 0 := cast_ne (by have := (right_t h).1; omega)
theorem add_v {x y : Q} (h : addK x y = true) : (addQ x y).v = x.v + y.v := by
  have e := op_v (den_ne (addK_ok h).1 (addK_ok h).2) h
  have h1 := d_ne (addK_ok h).1
  have h2 := d_ne (addK_ok h).2
  refine e.trans ?_
  unfold Q.v
  rw [Rat.intCast_add, Rat.intCast_mul, Rat.intCast_mul, Rat.intCast_mul]
  grind
theorem sub_v {x y : Q} (h : subK x y = true) : (subQ x y).v = x.v - y.v := by
  have e := op_v (den_ne (subK_ok h).1 (subK_ok h).2) h
  have h1 := d_ne (subK_ok h).1
  have h2 := d_ne (subK_ok h).2
  refine e.trans ?_
  unfold Q.v
  rw [Rat.intCast_sub, Rat.intCast_mul, Rat.intCast_mul, Rat.intCast_mul]
  grind
theorem mul_v {x y : Q} (h : mulK x y = true) : (mulQ x y).v = x.v * y.v := by
  have e := op_v (den_ne (mulK_ok h).1 (mulK_ok h).2) h
  have h1 := d_ne (mulK_ok h).1
  have h2 := d_ne (mulK_ok h).2
  refine e.trans ?_
  unfold Q.v
  rw [Rat.intCast_mul, Rat.intCast_mul]
  grind
theorem div_v {x y : Q} (h : divK x y = true) : (divQ x y).v = x.v / y.v := by
  obtain ⟨hx, hy, hn⟩ := divK_ok h
  have e := qu_v (mul_ne (by have := (right_t hx).1; omega) hn) h
  have h1 := d_ne hx
  have h2 := d_ne hy
  have h3 := cast_ne hn
  refine e.trans ?_
  unfold Q.v
  rw [Rat.intCast_mul, Rat.intCast_mul]
  grind
theorem neg_v (x : Q) : (nQ x).v = - x.v := by
  show (((-x.n : Int)) : Rat) / (x.d : Rat) = -((x.n : Rat) / (x.d : Rat))
  rw [Rat.intCast_neg]
  grind
theorem one_v : one.v = 1 := by unfold Q.v one; grind
theorem nil_v : nil.v = 0 := by unfold Q.v nil; grind
theorem dvd_cop {d e n m : Int} (h : n * e = d * m) (g : Int.gcd n d = 1) : d ∣ e := by
  have h1 : d.natAbs ∣ n.natAbs * e.natAbs := by
    rw [← Int.natAbs_mul, h, Int.natAbs_mul]
    exact Nat.dvd_mul_right _ _
  have h2 : Nat.Coprime d.natAbs n.natAbs := by
    have : Nat.gcd n.natAbs d.natAbs = 1 := g
    rw [Nat.gcd_comm] at this
    exact this
  exact Int.natAbs_dvd_natAbs.1 (h2.dvd_of_dvd_mul_left h1)
theorem v_inj {x y : Q} (hx : x.ok = true) (hy : y.ok = true) (h : x.v = y.v) : x = y := by
  have h1 := d_ne hx
  have h2 := d_ne hy
  have k : (x.n : Rat) * (y.d : Rat) = (y.n : Rat) * (x.d : Rat) := by unfold Q.v at h; grind
  rw [← Rat.intCast_mul, ← Rat.intCast_mul] at k
  have k := Rat.intCast_inj.1 k
  obtain ⟨a1, a2, a3, a4, a5⟩ := right_t hx
  obtain ⟨b1, b2, b3, b4, b5⟩ := right_t hy
  have u1 : x.d ∣ y.d := dvd_cop (n := x.n) (m := y.n) (by rw [k]; exact Int.mul_comm _ _) a5
  have u2 : y.d ∣ x.d := dvd_cop (n := y.n) (m := x.n) (by rw [← k]; exact Int.mul_comm _ _) b5
  have u : x.d = y.d := Int.dvd_antisymm (by omega) (by omega) u1 u2
  rw [u] at k
  have w := Int.eq_of_mul_eq_mul_right (by omega) k
  cases x; cases y; simp only at u w; rw [u, w]
theorem tw_v {a b c d : Q} (h : twK a b c d = true) : (twQ a b c d).v = a.v * b.v + c.v * d.v ∧ (twQ a b c d).ok = true := by
  have f := two_flag a b c d false
  rw [h] at f
  have f1 : mulK a b = true := by cases e : mulK a b <;> simp_all
  have f2 : mulK c d = true := by cases e : mulK c d <;> simp_all
  have f3 : addK (mulQ a b) (mulQ c d) = true := by cases e : addK (mulQ a b) (mulQ c d) <;> simp_all
  rw [← two_same]
  exact ⟨by rw [add_v f3, mul_v f1, mul_v f2], add_right f3⟩
/-- The system of two systems, one behind the other, as numbers. -/
theorem join_v {a b : Mx} (h : jC a b = 0) : (jQA a b).v = b.A.v * a.A.v + b.B.v * a.C.v ∧ (jQB a b).v = b.A.v * a.B.v + b.B.v * a.D.v ∧ (jQC a b).v = b.C.v * a.A.v + b.D.v * a.C.v ∧ (jQD a b).v = b.C.v * a.B.v + b.D.v * a.D.v := by
  unfold jC at h
  by_cases e : (a.ok && b.ok) = true
  · rw [if_pos e] at h
    by_cases k : (jKA a b && jKB a b && jKC a b && jKD a b) = true
    · simp only [Bool.and_eq_true] at k
      exact ⟨(tw_v k.1.1.1).1, (tw_v k.1.1.2).1, (tw_v k.1.2).1, (tw_v k.2).1⟩
    · rw [if_neg k] at h; omega
  · rw [if_neg e] at h; omega
theorem side_v {L R : Q} (hL : L.ok = true) (hR : R.ok = true) (h : sdK L R = true) : (sdQ L R).v = if R.n = 0 then 1 else 1 - L.v / R.v := by
  by_cases z : R.n = 0
  · rw [if_pos z, (sd_z z).2, one_v]
  · rw [if_neg z]
    rw [(sd_n z).1] at h
    rw [(sd_n z).2, sub_v h, one_v]
    have hd : divK L R = true := by
      cases e : divK L R
      · rw [divK_sub e] at h; cases h
      · rfl
    rw [div_v hd]
theorem v_zero {R : Q} (hR : R.ok = true) : R.v = 0 ↔ R.n = 0 := by
  have h1 := d_ne hR
  constructor
  · intro h
    have k : (R.n : Rat) = 0 := by unfold Q.v at h; grind
    exact Rat.intCast_inj.1 (by simpa using k)
  · intro h
    unfold Q.v
    rw [h]
    grind
theorem half_v {m : Q} (h : hfK m = true) : (hfQ m).v = m.v + m.v - 1 ∧ (hfQ m).ok = true := by
  rw [hf_k] at h
  simp only [Bool.and_eq_true] at h
  rw [hf_q h.1, sub_v h.2, add_v h.1, one_v]
  exact ⟨rfl, sub_right h.2⟩
/-- Order of fractions is the order of numbers. -/
theorem v_lt {x y : Q} (hx : x.ok = true) (hy : y.ok = true) : x.n * y.d < y.n * x.d ↔ x.v < y.v := by
  have h1 : (0 : Rat) < (x.d : Rat) := by have := (right_t hx).1; exact Rat.intCast_pos.2 (by omega)
  have h2 : (0 : Rat) < (y.d : Rat) := by have := (right_t hy).1; exact Rat.intCast_pos.2 (by omega)
  have e1 : x.v = x.n * y.d / (x.d * y.d) := by unfold Q.v; have := d_ne hx; have := d_ne hy; grind
  have e2 : y.v = y.n * x.d / (x.d * y.d) := by unfold Q.v; have := d_ne hx; have := d_ne hy; grind
  have h3 : (0 : Rat) < x.d * y.d := Rat.mul_pos h1 h2
  rw [e1, e2, Rat.div_lt_iff h3, Rat.div_mul_cancel (by grind), ← Rat.intCast_mul, ← Rat.intCast_mul, Rat.intCast_lt_intCast]
end Go.Proofs.Ytkkajcdjkfbcgaa
