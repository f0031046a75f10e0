/- What FnPolar says, plainly: a light's numbers through a plate, modulo 2^64 and then exactly. -/
import Derived.Test.YtloebnlmeplgbaaId
import Derived.Test.YtloebnlmeplgbaaTw
import Derived.Test.YtloebnlmeplgbaaPi2
import Derived.Test.YtloebnlmeplgbaaPj
import Derived.Test.YtloebnlmeplgbaaJm
namespace Go.Proofs.Ytloebnlmeplgbaa
open Go.RowKit
set_option linter.unusedVariables false
/-- Alike modulo 2^64. -/
def Cg (a b : Int) : Prop := ∃ k : Int, a = b + 18446744073709551616 * k
namespace Cg
theorem refl (a : Int) : Cg a a := ⟨0, by omega⟩
theorem symm {a b : Int} (h : Cg a b) : Cg b a := by
  obtain ⟨k, e⟩ := h
  exact ⟨-k, by omega⟩
theorem trans {a b c : Int} (h : Cg a b) (g : Cg b c) : Cg a c := by
  obtain ⟨k, e⟩ := h
  obtain ⟨m, f⟩ := g
  exact ⟨k + m, by omega⟩
theorem wrap {a b : Int} (h : Cg a b) : Cg (wrap64 a) b := by
  have e : Cg (wrap64 a) a := by
    refine ⟨-((a + 9223372036854775808) / 18446744073709551616), ?_⟩
    unfold wrap64
    omega
  exact e.trans h
theorem add {a b c d : Int} (h : Cg a b) (g : Cg c d) : Cg (a + c) (b + d) := by
  obtain ⟨k, e⟩ := h
  obtain ⟨m, f⟩ := g
  exact ⟨k + m, by omega⟩
theorem sub {a b c d : Int} (h : Cg a b) (g : Cg c d) : Cg (a - c) (b - d) := by
  obtain ⟨k, e⟩ := h
  obtain ⟨m, f⟩ := g
  exact ⟨k - m, by omega⟩
theorem neg {a b : Int} (h : Cg a b) : Cg (-a) (-b) := by
  obtain ⟨k, e⟩ := h
  exact ⟨-k, by omega⟩
theorem mul {a b c d : Int} (h : Cg a b) (g : Cg c d) : Cg (a * c) (b * d) := by
  obtain ⟨k, rfl⟩ := h
  obtain ⟨m, rfl⟩ := g
  exact ⟨b * m + k * d + 18446744073709551616 * (k * m), by grind⟩
theorem exact_of {a b : Int} (h : Cg a b) (ha : -9223372036854775808 ≤ a ∧ a ≤ 9223372036854775807) (hb : -9223372036854775808 ≤ b ∧ b ≤ 9223372036854775807) : a = b := by
  obtain ⟨k, e⟩ := h
  omega
theorem wraps {a b : Int} (h : Cg a b) : wrap64 a = wrap64 b :=
  (h.wrap.trans (refl b).wrap.symm).exact_of (wrap_in _) (wrap_in _)
end Cg
theorem prn_sum (F : Rm.Mx) (a : Sk) (k : Nat) : Cg (prn F a k) (F k 0 * a.i + F k 1 * a.q + F k 2 * a.u + F k 3 * a.v) := by
  have h : Cg (prn F a k) (0 + F k 0 * a.i + F k 1 * a.q + F k 2 * a.u + F k 3 * a.v) := by
    show Cg (wrap64 (wrap64 (wrap64 (wrap64 (0 + wrap64 (F k 0 * a.i)) + wrap64 (F k 1 * a.q)) + wrap64 (F k 2 * a.u)) + wrap64 (F k 3 * a.v))) _
    (repeat' (first | with_reducible exact Cg.refl _ | with_reducible refine Cg.wrap ?_ | with_reducible refine Cg.add ?_ ?_ | with_reducible refine Cg.sub ?_ ?_ | with_reducible refine Cg.neg ?_ | with_reducible refine Cg.mul ?_ ?_))
  rwa [Int.zero_add] at h
theorem gsq_c (a : Gz) : Cg (gsq a) (a.re * a.re + a.im * a.im) := by unfold gsq; (repeat' (first | with_reducible exact Cg.refl _ | with_reducible refine Cg.wrap ?_ | with_reducible refine Cg.add ?_ ?_ | with_reducible refine Cg.sub ?_ ?_ | with_reducible refine Cg.neg ?_ | with_reducible refine Cg.mul ?_ ?_))
theorem gr_c (a b : Gz) : Cg (gr a b) (a.re * b.re + a.im * b.im) := by unfold gr; (repeat' (first | with_reducible exact Cg.refl _ | with_reducible refine Cg.wrap ?_ | with_reducible refine Cg.add ?_ ?_ | with_reducible refine Cg.sub ?_ ?_ | with_reducible refine Cg.neg ?_ | with_reducible refine Cg.mul ?_ ?_))
theorem gs_c (a b : Gz) : Cg (gs a b) (a.im * b.re - a.re * b.im) := by unfold gs; (repeat' (first | with_reducible exact Cg.refl _ | with_reducible refine Cg.wrap ?_ | with_reducible refine Cg.add ?_ ?_ | with_reducible refine Cg.sub ?_ ?_ | with_reducible refine Cg.neg ?_ | with_reducible refine Cg.mul ?_ ?_))
theorem two_re (a b c d : Gz) : Cg (two a b c d).re (a.re * b.re - a.im * b.im + (c.re * d.re - c.im * d.im)) := by
  show Cg (wrap64 (wrap64 (wrap64 (a.re * b.re) - wrap64 (a.im * b.im)) + wrap64 (wrap64 (c.re * d.re) - wrap64 (c.im * d.im)))) _
  (repeat' (first | with_reducible exact Cg.refl _ | with_reducible refine Cg.wrap ?_ | with_reducible refine Cg.add ?_ ?_ | with_reducible refine Cg.sub ?_ ?_ | with_reducible refine Cg.neg ?_ | with_reducible refine Cg.mul ?_ ?_))
theorem two_im (a b c d : Gz) : Cg (two a b c d).im (a.re * b.im + a.im * b.re + (c.re * d.im + c.im * d.re)) := by
  show Cg (wrap64 (wrap64 (wrap64 (a.re * b.im) + wrap64 (a.im * b.re)) + wrap64 (wrap64 (c.re * d.im) + wrap64 (c.im * d.re)))) _
  (repeat' (first | with_reducible exact Cg.refl _ | with_reducible refine Cg.wrap ?_ | with_reducible refine Cg.add ?_ ?_ | with_reducible refine Cg.sub ?_ ?_ | with_reducible refine Cg.neg ?_ | with_reducible refine Cg.mul ?_ ?_))
theorem sok_i (l : Jn) : Cg (sok l).i ((l.x.re*l.x.re+l.x.im*l.x.im)+(l.y.re*l.y.re+l.y.im*l.y.im)) := by
  show Cg (wrap64 (gsq l.x + gsq l.y)) _
  (repeat' (first | with_reducible exact Cg.refl _ | with_reducible assumption | with_reducible exact gsq_c _ | with_reducible exact gr_c _ _ | with_reducible exact gs_c _ _ | with_reducible refine Cg.wrap ?_ | with_reducible refine Cg.add ?_ ?_ | with_reducible refine Cg.sub ?_ ?_ | with_reducible refine Cg.neg ?_ | with_reducible refine Cg.mul ?_ ?_))
theorem sok_q (l : Jn) : Cg (sok l).q ((l.x.re*l.x.re+l.x.im*l.x.im)-(l.y.re*l.y.re+l.y.im*l.y.im)) := by
  show Cg (wrap64 (gsq l.x - gsq l.y)) _
  (repeat' (first | with_reducible exact Cg.refl _ | with_reducible assumption | with_reducible exact gsq_c _ | with_reducible exact gr_c _ _ | with_reducible exact gs_c _ _ | with_reducible refine Cg.wrap ?_ | with_reducible refine Cg.add ?_ ?_ | with_reducible refine Cg.sub ?_ ?_ | with_reducible refine Cg.neg ?_ | with_reducible refine Cg.mul ?_ ?_))
theorem sok_u (l : Jn) : Cg (sok l).u (2*(l.x.re*l.y.re+l.x.im*l.y.im)) := by
  show Cg (wrap64 (2 * gr l.x l.y)) _
  (repeat' (first | with_reducible exact Cg.refl _ | with_reducible assumption | with_reducible exact gsq_c _ | with_reducible exact gr_c _ _ | with_reducible exact gs_c _ _ | with_reducible refine Cg.wrap ?_ | with_reducible refine Cg.add ?_ ?_ | with_reducible refine Cg.sub ?_ ?_ | with_reducible refine Cg.neg ?_ | with_reducible refine Cg.mul ?_ ?_))
theorem sok_v (l : Jn) : Cg (sok l).v (2*(l.x.im*l.y.re-l.x.re*l.y.im)) := by
  show Cg (wrap64 (2 * gs l.x l.y)) _
  (repeat' (first | with_reducible exact Cg.refl _ | with_reducible assumption | with_reducible exact gsq_c _ | with_reducible exact gr_c _ _ | with_reducible exact gs_c _ _ | with_reducible refine Cg.wrap ?_ | with_reducible refine Cg.add ?_ ?_ | with_reducible refine Cg.sub ?_ ?_ | with_reducible refine Cg.neg ?_ | with_reducible refine Cg.mul ?_ ?_))
theorem sok_range {l : Jn} (h : jcode l.x l.y = 0) : (-4000000000 ≤ (sok l).i ∧ (sok l).i ≤ 4000000000) ∧ (-4000000000 ≤ (sok l).q ∧ (sok l).q ≤ 4000000000) ∧ (-4000000000 ≤ (sok l).u ∧ (sok l).u ≤ 4000000000) ∧ (-4000000000 ≤ (sok l).v ∧ (sok l).v ≤ 4000000000) := by
  obtain ⟨e, g1, g2⟩ := sok_plain h
  obtain ⟨a, b⟩ := gin_t g1
  obtain ⟨c, d⟩ := gin_t g2
  have m1 := amp_mul a a
  have m2 := amp_mul b b
  have m3 := amp_mul c c
  have m4 := amp_mul d d
  have m5 := amp_mul a c
  have m6 := amp_mul b d
  have m7 := amp_mul b c
  have m8 := amp_mul a d
  rw [e]
  refine ⟨?_, ?_, ?_, ?_⟩ <;> simp only <;> omega
/-- The square of I. -/
theorem sok_sq (l : Jn) : wrap64 ((sok l).i * (sok l).i) = wrap64 (wrap64 (wrap64 ((sok l).q * (sok l).q) + wrap64 ((sok l).u * (sok l).u)) + wrap64 ((sok l).v * (sok l).v)) := by
  have h1 := sok_i l
  have h2 := sok_q l
  have h3 := sok_u l
  have h4 := sok_v l
  have a1 := (h1.mul h1)
  rw [polar_sq] at a1
  have a2 : Cg (wrap64 (wrap64 ((sok l).q * (sok l).q) + wrap64 ((sok l).u * (sok l).u)) + wrap64 ((sok l).v * (sok l).v)) _ := Cg.add (Cg.wrap (Cg.add (Cg.wrap (h2.mul h2)) (Cg.wrap (h3.mul h3)))) (Cg.wrap (h4.mul h4))
  exact (a1.trans a2.symm).wraps
theorem tw_sum (p : Pl) (l : Jn) : Cg (prn (tw p) (sok l) 0) (2 * (sok (pass p l)).i) ∧ Cg (prn (tw p) (sok l) 1) (2 * (sok (pass p l)).q) ∧ Cg (prn (tw p) (sok l) 2) (2 * (sok (pass p l)).u) ∧ Cg (prn (tw p) (sok l) 3) (2 * (sok (pass p l)).v) := by
  have h1 := sok_i l
  have h2 := sok_q l
  have h3 := sok_u l
  have h4 := sok_v l
  have x1 := two_re p.a l.x p.b l.y
  have x2 := two_im p.a l.x p.b l.y
  have y1 := two_re p.c l.x p.d l.y
  have y2 := two_im p.c l.x p.d l.y
  have ri := (sok_i (pass p l)).trans ((((x1.mul x1).add (x2.mul x2)).add ((y1.mul y1).add (y2.mul y2))))
  have rq := (sok_q (pass p l)).trans ((((x1.mul x1).add (x2.mul x2)).sub ((y1.mul y1).add (y2.mul y2))))
  have ru := (sok_u (pass p l)).trans ((Cg.refl 2).mul ((x1.mul y1).add (x2.mul y2)))
  have rv := (sok_v (pass p l)).trans ((Cg.refl 2).mul ((x2.mul y1).sub (x1.mul y2)))
  refine ⟨?_, ?_, ?_, ?_⟩
  · refine (prn_sum _ _ _).trans (Cg.trans ?_ ((Cg.refl 2).mul ri).symm)
    rw [← polar_0]
    simp only [tw]
    (repeat' (first | with_reducible exact Cg.refl _ | with_reducible assumption | with_reducible exact gsq_c _ | with_reducible exact gr_c _ _ | with_reducible exact gs_c _ _ | with_reducible refine Cg.wrap ?_ | with_reducible refine Cg.add ?_ ?_ | with_reducible refine Cg.sub ?_ ?_ | with_reducible refine Cg.neg ?_ | with_reducible refine Cg.mul ?_ ?_))
  · refine (prn_sum _ _ _).trans (Cg.trans ?_ ((Cg.refl 2).mul rq).symm)
    rw [← polar_1]
    simp only [tw]
    (repeat' (first | with_reducible exact Cg.refl _ | with_reducible assumption | with_reducible exact gsq_c _ | with_reducible exact gr_c _ _ | with_reducible exact gs_c _ _ | with_reducible refine Cg.wrap ?_ | with_reducible refine Cg.add ?_ ?_ | with_reducible refine Cg.sub ?_ ?_ | with_reducible refine Cg.neg ?_ | with_reducible refine Cg.mul ?_ ?_))
  · refine (prn_sum _ _ _).trans (Cg.trans ?_ ((Cg.refl 2).mul ru).symm)
    rw [← polar_2]
    simp only [tw]
    (repeat' (first | with_reducible exact Cg.refl _ | with_reducible assumption | with_reducible exact gsq_c _ | with_reducible exact gr_c _ _ | with_reducible exact gs_c _ _ | with_reducible refine Cg.wrap ?_ | with_reducible refine Cg.add ?_ ?_ | with_reducible refine Cg.sub ?_ ?_ | with_reducible refine Cg.neg ?_ | with_reducible refine Cg.mul ?_ ?_))
  · refine (prn_sum _ _ _).trans (Cg.trans ?_ ((Cg.refl 2).mul rv).symm)
    rw [← polar_3]
    simp only [tw]
    (repeat' (first | with_reducible exact Cg.refl _ | with_reducible assumption | with_reducible exact gsq_c _ | with_reducible exact gr_c _ _ | with_reducible exact gs_c _ _ | with_reducible refine Cg.wrap ?_ | with_reducible refine Cg.add ?_ ?_ | with_reducible refine Cg.sub ?_ ?_ | with_reducible refine Cg.neg ?_ | with_reducible refine Cg.mul ?_ ?_))
theorem tw_exact (p : Pl) (l : Jn) (h : jcode (pass p l).x (pass p l).y = 0) : prn (tw p) (sok l) 0 = 2 * (sok (pass p l)).i ∧ prn (tw p) (sok l) 1 = 2 * (sok (pass p l)).q ∧ prn (tw p) (sok l) 2 = 2 * (sok (pass p l)).u ∧ prn (tw p) (sok l) 3 = 2 * (sok (pass p l)).v := by
  obtain ⟨r1, r2, r3, r4⟩ := sok_range h
  obtain ⟨e1, e2, e3, e4⟩ := tw_sum p l
  exact ⟨e1.exact_of (prn_in _ _ _) (by omega), e2.exact_of (prn_in _ _ _) (by omega), e3.exact_of (prn_in _ _ _) (by omega), e4.exact_of (prn_in _ _ _) (by omega)⟩
/-- The rows' way and the light's way end alike. -/
theorem pass_alike (p : Pl) (l : Jn) (h : jcode (pass p l).x (pass p l).y = 0) (hc : pcd 4 (fun _ => 4) (tw p) (sok l) = 0) : psk 4 (fun _ => 4) (tw p) (sok l) = sok (pass p l) := by
  obtain ⟨e1, e2, e3, e4⟩ := tw_exact p l h
  unfold pcd at hc
  unfold psk
  split at hc
  · contradiction
  · split at hc
    · contradiction
    · rename_i h1 h2
      rw [if_neg h1, if_neg h2]
      unfold hsk
      rw [if_pos hc]
      have f : ∀ k z, prn (tw p) (sok l) k = 2 * z → hv (prn (tw p) (sok l)) k = z := by
        intro k z e
        unfold hv
        rw [e, Int.mul_comm]
        exact Int.mul_tdiv_cancel _ (by decide)
      rw [f 0 _ e1, f 1 _ e2, f 2 _ e3, f 3 _ e4]
/-- A light whose X is a whole number from 1 on is found again. -/
theorem found_again {l : Jn} (h : jcode l.x l.y = 0) (hi : l.x.im = 0) (hr : 0 < l.x.re) (hs : scode (sok l) = 0) : JAns (sok l) 0 l :=
  Or.inr (Or.inl ⟨hs, rfl, ⟨h, rfl, hi, by omega, fun z => by omega⟩⟩)
theorem JAns.found {a : Sk} {l : Jn} (h : JAns a 0 l) : Fnd a l ∧ stk l = a := by
  rcases h with ⟨h1, h2, _⟩ | ⟨_, _, h3⟩ | ⟨_, h2, _⟩
  · exact absurd h2.symm h1
  · exact ⟨h3, by unfold stk; rw [if_pos h3.code]; exact h3.nums⟩
  · cases h2
end Go.Proofs.Ytloebnlmeplgbaa
