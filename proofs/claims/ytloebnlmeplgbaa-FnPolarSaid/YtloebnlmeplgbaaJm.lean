/- Light found again from its four numbers: plainly; whole roots of the specification; the program's likelyLight. -/
import Derived.Test.YtloebnlmeplgbaaRt
import Derived.Test.YtloebnlmeplgbaaSt
import Derived.Test.YtloebnlmeplgbaaSo
import Derived.Test.YtloebnlmeplgbaaLa
import Derived.Handy
namespace Go.Proofs.Ytloebnlmeplgbaa
open Go.RowKit
set_option linter.unusedVariables false
set_option linter.unusedSimpArgs false
/-- The plain numbers of a light within bounds. -/
theorem amp_mul {x y : Int} (hx : -30000 ≤ x ∧ x ≤ 30000) (hy : -30000 ≤ y ∧ y ≤ 30000) : -900000000 ≤ x * y ∧ x * y ≤ 900000000 := by
  have h1 := Int.mul_nonneg (a := 30000 - x) (b := 30000 - y) (by omega) (by omega)
  have h2 := Int.mul_nonneg (a := 30000 + x) (b := 30000 + y) (by omega) (by omega)
  have h3 := Int.mul_nonneg (a := 30000 - x) (b := 30000 + y) (by omega) (by omega)
  have h4 := Int.mul_nonneg (a := 30000 + x) (b := 30000 - y) (by omega) (by omega)
  simp only [Int.sub_mul, Int.add_mul, Int.mul_sub, Int.mul_add] at h1 h2 h3 h4
  omega
theorem gin_t {g : Gz} (h : gin g = true) : (-30000 ≤ g.re ∧ g.re ≤ 30000) ∧ (-30000 ≤ g.im ∧ g.im ≤ 30000) := by
  simp [gin] at h
  omega
theorem sok_plain {l : Jn} (h : jcode l.x l.y = 0) : sok l = ⟨l.x.re * l.x.re + l.x.im * l.x.im + (l.y.re * l.y.re + l.y.im * l.y.im), l.x.re * l.x.re + l.x.im * l.x.im - (l.y.re * l.y.re + l.y.im * l.y.im), 2 * (l.x.re * l.y.re + l.x.im * l.y.im), 2 * (l.x.im * l.y.re - l.x.re * l.y.im)⟩ ∧ gin l.x = true ∧ gin l.y = true := by
  have hg : gin l.x = true ∧ gin l.y = true := by
    unfold jcode at h
    split at h
    · rename_i hh
      simpa using hh
    · cases h
  refine ⟨?_, hg⟩
  obtain ⟨a, b⟩ := gin_t hg.1
  obtain ⟨c, d⟩ := gin_t hg.2
  have m1 := amp_mul a a
  have m2 := amp_mul b b
  have m3 := amp_mul c c
  have m4 := amp_mul d d
  have m5 := amp_mul a c
  have m6 := amp_mul b d
  have m7 := amp_mul b c
  have m8 := amp_mul a d
  have w0 : ∀ n : Int, -9000000000 ≤ n → n ≤ 9000000000 → wrap64 n = n := fun n h0 h1 => w64 (by omega) (by omega)
  unfold sok gsq gr gs
  rw [w0 (l.x.re * l.x.re) (by omega) (by omega), w0 (l.x.im * l.x.im) (by omega) (by omega), w0 (l.y.re * l.y.re) (by omega) (by omega), w0 (l.y.im * l.y.im) (by omega) (by omega), w0 (l.x.re * l.y.re) (by omega) (by omega), w0 (l.x.im * l.y.im) (by omega) (by omega), w0 (l.x.im * l.y.re) (by omega) (by omega), w0 (l.x.re * l.y.im) (by omega) (by omega)]
  rw [w0 (l.x.re * l.x.re + l.x.im * l.x.im) (by omega) (by omega), w0 (l.y.re * l.y.re + l.y.im * l.y.im) (by omega) (by omega), w0 (l.x.re * l.y.re + l.x.im * l.y.im) (by omega) (by omega), w0 (l.x.im * l.y.re - l.x.re * l.y.im) (by omega) (by omega)]
  rw [w0 _ (by omega) (by omega), w0 _ (by omega) (by omega), w0 _ (by omega) (by omega), w0 _ (by omega) (by omega)]
/-- The light of these four numbers that the document asks for. -/
structure Fnd (a : Sk) (l : Jn) : Prop where
  code : jcode l.x l.y = 0
  nums : sok l = a
  xi : l.x.im = 0
  xr : 0 ≤ l.x.re
  yn : l.x.re = 0 → l.y.im = 0 ∧ 0 ≤ l.y.re
theorem Fnd.eqs {a : Sk} {l : Jn} (h : Fnd a l) : a.i + a.q = 2 * (l.x.re * l.x.re) ∧ a.i - a.q = 2 * (l.y.re * l.y.re + l.y.im * l.y.im) ∧ a.u = 2 * l.x.re * l.y.re ∧ a.v = -(2 * l.x.re * l.y.im) ∧ l.x.re ≤ 30000 ∧ l.y.re ≤ 30000 ∧ a.i * a.i = a.q * a.q + a.u * a.u + a.v * a.v := by
  obtain ⟨e, g1, g2⟩ := sok_plain h.code
  rw [h.nums] at e
  have b1 := gin_t g1
  have b2 := gin_t g2
  have hx := h.xi
  subst e
  simp only [hx, Int.mul_zero, Int.zero_mul, Int.add_zero, Int.zero_sub]
  obtain ⟨X, hX⟩ : ∃ X, X = l.x.re := ⟨_, rfl⟩
  obtain ⟨R, hR⟩ : ∃ R, R = l.y.re := ⟨_, rfl⟩
  obtain ⟨M, hM⟩ : ∃ M, M = l.y.im := ⟨_, rfl⟩
  rw [← hX, ← hR, ← hM]
  rw [← hX] at b1
  rw [← hR] at b2
  refine ⟨by omega, by omega, by rw [Int.mul_assoc], ?_, by omega, by omega, ?_⟩
  · rw [Int.mul_assoc, Int.mul_neg]
  · have e1 : 2 * (X * R) * (2 * (X * R)) = 4 * ((X * X) * (R * R)) := by
      rw [show 2 * (X * R) * (2 * (X * R)) = (2 * 2) * ((X * R) * (X * R)) by rw [Int.mul_assoc, Int.mul_left_comm (X * R) 2, ← Int.mul_assoc]]
      rw [show (X * R) * (X * R) = (X * X) * (R * R) by rw [Int.mul_assoc, Int.mul_left_comm R X R, ← Int.mul_assoc]]
      omega
    have e2 : 2 * -(X * M) * (2 * -(X * M)) = 4 * ((X * X) * (M * M)) := by
      rw [Int.mul_neg, Int.neg_mul_neg]
      rw [show 2 * (X * M) * (2 * (X * M)) = (2 * 2) * ((X * M) * (X * M)) by rw [Int.mul_assoc, Int.mul_left_comm (X * M) 2, ← Int.mul_assoc]]
      rw [show (X * M) * (X * M) = (X * X) * (M * M) by rw [Int.mul_assoc, Int.mul_left_comm M X M, ← Int.mul_assoc]]
      omega
    rw [e1, e2]
    obtain ⟨A, hA⟩ : ∃ A, A = X * X := ⟨_, rfl⟩
    obtain ⟨B, hB⟩ : ∃ B, B = R * R := ⟨_, rfl⟩
    obtain ⟨C, hC⟩ : ∃ C, C = M * M := ⟨_, rfl⟩
    rw [← hA, ← hB, ← hC]
    simp only [Int.add_mul, Int.mul_add, Int.sub_mul, Int.mul_sub]
    rw [Int.mul_comm B A, Int.mul_comm C A, Int.mul_comm C B]
    omega
theorem sq_inj {x y : Int} (hx : 0 ≤ x) (hy : 0 ≤ y) (h : x * x = y * y) : x = y := by
  rcases Int.lt_trichotomy x y with h1 | h1 | h1
  · have := Int.mul_lt_mul' (Int.le_of_lt h1) h1 hx (by omega)
    omega
  · exact h1
  · have := Int.mul_lt_mul' (Int.le_of_lt h1) h1 hy (by omega)
    omega
theorem mul_cancel2 {x a b : Int} (hx : 0 < x) (h : x * a = x * b) : a = b := Int.eq_of_mul_eq_mul_left (by omega) h
theorem Fnd.uniq {a : Sk} {l m : Jn} (h : Fnd a l) (k : Fnd a m) : l = m := by
  obtain ⟨h1, h2, h3, h4, _, _, _⟩ := h.eqs
  obtain ⟨k1, k2, k3, k4, _, _, _⟩ := k.eqs
  have ex : l.x.re = m.x.re := sq_inj h.xr k.xr (by omega)
  have ey : l.y.re = m.y.re ∧ l.y.im = m.y.im := by
    by_cases z : l.x.re = 0
    · obtain ⟨p1, p2⟩ := h.yn z
      obtain ⟨q1, q2⟩ := k.yn (by omega)
      refine ⟨sq_inj p2 q2 ?_, by omega⟩
      rw [p1] at h2
      rw [q1] at k2
      simp at h2 k2
      omega
    · have hp : 0 < 2 * l.x.re := by have := h.xr; omega
      refine ⟨mul_cancel2 hp ?_, mul_cancel2 hp ?_⟩
      · rw [← h3, ex, ← k3]
      · have e := h4.symm.trans k4
        rw [← ex] at e
        omega
  obtain ⟨⟨a1, a2⟩, ⟨a3, a4⟩⟩ := l
  obtain ⟨⟨b1, b2⟩, ⟨b3, b4⟩⟩ := m
  have hx := h.xi
  have kx := k.xi
  simp only at ex ey hx kx
  obtain ⟨e3, e4⟩ := ey
  subst ex e3 e4 hx kx
  rfl
/-- What JonesFrom answers, as the document says it. -/
def JAns (a : Sk) (c : Int) (l : Jn) : Prop := (scode a ≠ 0 ∧ c = scode a ∧ l = ⟨⟨0, 0⟩, ⟨0, 0⟩⟩) ∨ (scode a = 0 ∧ c = 0 ∧ Fnd a l) ∨ (scode a = 0 ∧ c = 4 ∧ l = ⟨⟨0, 0⟩, ⟨0, 0⟩⟩ ∧ ∀ m, ¬ Fnd a m)
theorem JAns.uniq {a : Sk} {c d : Int} {l m : Jn} (h : JAns a c l) (k : JAns a d m) : c = d ∧ l = m := by
  rcases h with ⟨h1, h2, h3⟩ | ⟨h1, h2, h3⟩ | ⟨h1, h2, h3, h4⟩ <;> rcases k with ⟨k1, k2, k3⟩ | ⟨k1, k2, k3⟩ | ⟨k1, k2, k3, k4⟩
  · exact ⟨by rw [h2, k2], by rw [h3, k3]⟩
  · exact absurd k1 h1
  · exact absurd k1 h1
  · exact absurd h1 k1
  · exact ⟨by rw [h2, k2], h3.uniq k3⟩
  · exact absurd h3 (k4 l)
  · exact absurd h1 k1
  · exact absurd k3 (h4 m)
  · exact ⟨by rw [h2, k2], by rw [h3, k3]⟩
end Go.Proofs.Ytloebnlmeplgbaa
