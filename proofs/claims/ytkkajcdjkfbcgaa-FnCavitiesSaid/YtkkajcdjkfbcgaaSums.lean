/- Sums, differences, products and quotients of fractions: the specification's and the program's way: one answer. -/
import Derived.Test.YtkkajcdjkfbcgaaBoth
import Derived.Test.YtkkajcdjkfbcgaaThree
import Derived.Handy
namespace Go.Proofs.Ytkkajcdjkfbcgaa
open Go.RowKit
/-- The answer to two fractions whose result is n by m: code, upper and lower number. -/
def opC (a b c d n m : Int) : Int := if (rightB a b && rightB c d) = true then resC n m else 1
def opN (a b c d n m : Int) : Int := if (rightB a b && rightB c d) = true then resN n m else 0
def opD (a b c d n m : Int) : Int := if (rightB a b && rightB c d) = true then resD n m else 0
def quC (a b c d n m : Int) : Int := if (rightB a b && rightB c d) = true then (if c = 0 then 6 else resC n m) else 1
def quN (a b c d n m : Int) : Int := if (rightB a b && rightB c d) = true then (if c = 0 then 0 else resN n m) else 0
def quD (a b c d n m : Int) : Int := if (rightB a b && rightB c d) = true then (if c = 0 then 0 else resD n m) else 0
theorem mul_ne {b d : Int} (hb : b ≠ 0) (hd : d ≠ 0) : b * d ≠ 0 := fun h => by rcases Int.mul_eq_zero.1 h with h | h <;> omega
set_option maxHeartbeats 400000 in
theorem sadd_no (a b c d : Int) (w : World) (h : (rightB a b && rightB c d) = false) :
    Calls Try.prog 24 #[.agg #[.int .i64 a, .int .i64 b], .agg #[.int .i64 c, .int .i64 d]] w fun e w' => e = .returned (.agg #[.int .i64 (opC a b c d (a * d + c * b) (b * d)), .int .i64 (opN a b c d (a * d + c * b) (b * d)), .int .i64 (opD a b c d (a * d + c * b) (b * d))]) ∧ Below w.heap.size w w' := by
  rw [show opC a b c d (a * d + c * b) (b * d) = 1 by simp only [opC, h, Bool.false_eq_true, if_false], show opN a b c d (a * d + c * b) (b * d) = 0 by simp only [opN, h, Bool.false_eq_true, if_false], show opD a b c d (a * d + c * b) (b * d) = 0 by simp only [opD, h, Bool.false_eq_true, if_false]]
  have HH : Hid ((rightB a b && rightB c d) = false) := h
  clear h
  go_enter Try.func24, Try.ntmps24
  go_wp2_with fail
  refine (both_f a b c d HH.out _).mono ?_
  rintro e w1 ⟨rfl, hb1⟩
  have H1 : Hid (Below w.heap.size w w1) := by refine box_step ?_ hb1 (by simp); go_grown
  obtain ⟨⟨c0, c1, c2, c3⟩, ⟨r0, r1, r2⟩, ⟨f0, f1, f2⟩, hs⟩ := box223 (hb1.mono (by simp))
  clear hb1
  go_wp2
  refine bodyPost_ret (v := .agg #[.int .i64 1, .int .i64 0, .int .i64 0]) (by simp [results, Try.results24, go_sem, r0, r1, r2]) rfl ⟨rfl, ?_⟩
  have H2 := H1.out
  go_grown
set_option maxHeartbeats 400000 in
theorem sadd_yes (a b c d : Int) (w : World) (h : (rightB a b && rightB c d) = true) :
    Calls Try.prog 24 #[.agg #[.int .i64 a, .int .i64 b], .agg #[.int .i64 c, .int .i64 d]] w fun e w' => e = .returned (.agg #[.int .i64 (opC a b c d (a * d + c * b) (b * d)), .int .i64 (opN a b c d (a * d + c * b) (b * d)), .int .i64 (opD a b c d (a * d + c * b) (b * d))]) ∧ Below w.heap.size w w' := by
  rw [show opC a b c d (a * d + c * b) (b * d) = resC (a * d + c * b) (b * d) by simp only [opC, h, if_true], show opN a b c d (a * d + c * b) (b * d) = resN (a * d + c * b) (b * d) by simp only [opN, h, if_true], show opD a b c d (a * d + c * b) (b * d) = resD (a * d + c * b) (b * d) by simp only [opD, h, if_true]]
  obtain ⟨h1, h2⟩ : rightB a b = true ∧ rightB c d = true := by simpa using h
  obtain ⟨p1, p2, p3, p4, p5⟩ := right_t h1
  obtain ⟨q1, q2, q3, q4, q5⟩ := right_t h2
  obtain ⟨m1, m2⟩ := mul_bd a d p3 p4 (by omega) q2
  obtain ⟨m3, m4⟩ := mul_bd c b q3 q4 (by omega) p2
  obtain ⟨m5, m6⟩ := mul_bd b d (by omega) p2 (by omega) q2
  have m7 := mul_ne (show b ≠ 0 by omega) (show d ≠ 0 by omega)
  have M7 : Hid (b * d ≠ 0) := m7
  have HH : Hid ((rightB a b && rightB c d) = true) := h
  clear h h1 h2 p5 q5 m7
  go_enter Try.func24, Try.ntmps24
  go_wp2_with fail
  refine (both_t a b c d HH.out _).mono ?_
  rintro e w1 ⟨rfl, hb1⟩
  have H1 : Hid (Below w.heap.size w w1) := by refine box_step ?_ hb1 (by simp); go_grown
  obtain ⟨⟨c0, c1, c2, c3⟩, ⟨r0, r1, r2⟩, ⟨f0, f1, f2⟩, hs⟩ := box223 (hb1.mono (by simp))
  clear hb1
  go_wp2_with fail
  refine (slow (a * d + c * b) (b * d) _ (by omega) (by omega) (by omega) (by omega) M7.out).mono ?_
  rintro e w2 ⟨rfl, hb2⟩
  have H2 : Hid (Below w.heap.size w w2) := box_step H1.out hb2 (Nat.le_refl _)
  have s0 := hb2.cell (p := ⟨w.heap.size + 1 + 1, 0, none⟩) (by simp; omega)
  have s1 := hb2.cell (p := ⟨w.heap.size + 1 + 1, 1, none⟩) (by simp; omega)
  have s2 := hb2.cell (p := ⟨w.heap.size + 1 + 1, 2, none⟩) (by simp; omega)
  have g0 := hb2.frozen (p := ⟨w.heap.size + 1 + 1, 0, none⟩) (by simp; omega)
  have g1 := hb2.frozen (p := ⟨w.heap.size + 1 + 1, 1, none⟩) (by simp; omega)
  have g2 := hb2.frozen (p := ⟨w.heap.size + 1 + 1, 2, none⟩) (by simp; omega)
  rw [r0] at s0
  rw [r1] at s1
  rw [r2] at s2
  rw [f0] at g0
  rw [f1] at g1
  rw [f2] at g2
  clear hb2 c0 c1 c2 c3 r0 r1 r2 f0 f1 f2
  go_wp2
  refine bodyPost_ret (v := .agg #[.int .i64 (resC (a * d + c * b) (b * d)), .int .i64 (resN (a * d + c * b) (b * d)), .int .i64 (resD (a * d + c * b) (b * d))]) (by simp [results, Try.results24, go_sem, s0, s1, s2]) rfl ⟨rfl, ?_⟩
  have H3 := H2.out
  go_grown
theorem sadd (a b c d : Int) (w : World) :
    Calls Try.prog 24 #[.agg #[.int .i64 a, .int .i64 b], .agg #[.int .i64 c, .int .i64 d]] w fun e w' => e = .returned (.agg #[.int .i64 (opC a b c d (a * d + c * b) (b * d)), .int .i64 (opN a b c d (a * d + c * b) (b * d)), .int .i64 (opD a b c d (a * d + c * b) (b * d))]) ∧ Below w.heap.size w w' := by
  cases h : (rightB a b && rightB c d)
  · exact sadd_no a b c d w h
  · exact sadd_yes a b c d w h
set_option maxHeartbeats 400000 in
theorem smul_no (a b c d : Int) (w : World) (h : (rightB a b && rightB c d) = false) :
    Calls Try.prog 107 #[.agg #[.int .i64 a, .int .i64 b], .agg #[.int .i64 c, .int .i64 d]] w fun e w' => e = .returned (.agg #[.int .i64 (opC a b c d (a * c) (b * d)), .int .i64 (opN a b c d (a * c) (b * d)), .int .i64 (opD a b c d (a * c) (b * d))]) ∧ Below w.heap.size w w' := by
  rw [show opC a b c d (a * c) (b * d) = 1 by simp only [opC, h, Bool.false_eq_true, if_false], show opN a b c d (a * c) (b * d) = 0 by simp only [opN, h, Bool.false_eq_true, if_false], show opD a b c d (a * c) (b * d) = 0 by simp only [opD, h, Bool.false_eq_true, if_false]]
  have HH : Hid ((rightB a b && rightB c d) = false) := h
  clear h
  go_enter Try.func107, Try.ntmps107
  go_wp2_with fail
  refine (both_f a b c d HH.out _).mono ?_
  rintro e w1 ⟨rfl, hb1⟩
  have H1 : Hid (Below w.heap.size w w1) := by refine box_step ?_ hb1 (by simp); go_grown
  obtain ⟨⟨c0, c1, c2, c3⟩, ⟨r0, r1, r2⟩, ⟨f0, f1, f2⟩, hs⟩ := box223 (hb1.mono (by simp))
  clear hb1
  go_wp2
  refine bodyPost_ret (v := .agg #[.int .i64 1, .int .i64 0, .int .i64 0]) (by simp [results, Try.results107, go_sem, r0, r1, r2]) rfl ⟨rfl, ?_⟩
  have H2 := H1.out
  go_grown
set_option maxHeartbeats 400000 in
theorem smul_yes (a b c d : Int) (w : World) (h : (rightB a b && rightB c d) = true) :
    Calls Try.prog 107 #[.agg #[.int .i64 a, .int .i64 b], .agg #[.int .i64 c, .int .i64 d]] w fun e w' => e = .returned (.agg #[.int .i64 (opC a b c d (a * c) (b * d)), .int .i64 (opN a b c d (a * c) (b * d)), .int .i64 (opD a b c d (a * c) (b * d))]) ∧ Below w.heap.size w w' := by
  rw [show opC a b c d (a * c) (b * d) = resC (a * c) (b * d) by simp only [opC, h, if_true], show opN a b c d (a * c) (b * d) = resN (a * c) (b * d) by simp only [opN, h, if_true], show opD a b c d (a * c) (b * d) = resD (a * c) (b * d) by simp only [opD, h, if_true]]
  obtain ⟨h1, h2⟩ : rightB a b = true ∧ rightB c d = true := by simpa using h
  obtain ⟨p1, p2, p3, p4, p5⟩ := right_t h1
  obtain ⟨q1, q2, q3, q4, q5⟩ := right_t h2
  obtain ⟨m1, m2⟩ := mul_bd a c p3 p4 q3 q4
  obtain ⟨m5, m6⟩ := mul_bd b d (by omega) p2 (by omega) q2
  have m7 := mul_ne (show b ≠ 0 by omega) (show d ≠ 0 by omega)
  have M7 : Hid (b * d ≠ 0) := m7
  have HH : Hid ((rightB a b && rightB c d) = true) := h
  clear h h1 h2 p5 q5 m7
  go_enter Try.func107, Try.ntmps107
  go_wp2_with fail
  refine (both_t a b c d HH.out _).mono ?_
  rintro e w1 ⟨rfl, hb1⟩
  have H1 : Hid (Below w.heap.size w w1) := by refine box_step ?_ hb1 (by simp); go_grown
  obtain ⟨⟨c0, c1, c2, c3⟩, ⟨r0, r1, r2⟩, ⟨f0, f1, f2⟩, hs⟩ := box223 (hb1.mono (by simp))
  clear hb1
  go_wp2_with fail
  refine (slow (a * c) (b * d) _ (by omega) (by omega) (by omega) (by omega) M7.out).mono ?_
  rintro e w2 ⟨rfl, hb2⟩
  have H2 : Hid (Below w.heap.size w w2) := box_step H1.out hb2 (Nat.le_refl _)
  have s0 := hb2.cell (p := ⟨w.heap.size + 1 + 1, 0, none⟩) (by simp; omega)
  have s1 := hb2.cell (p := ⟨w.heap.size + 1 + 1, 1, none⟩) (by simp; omega)
  have s2 := hb2.cell (p := ⟨w.heap.size + 1 + 1, 2, none⟩) (by simp; omega)
  have g0 := hb2.frozen (p := ⟨w.heap.size + 1 + 1, 0, none⟩) (by simp; omega)
  have g1 := hb2.frozen (p := ⟨w.heap.size + 1 + 1, 1, none⟩) (by simp; omega)
  have g2 := hb2.frozen (p := ⟨w.heap.size + 1 + 1, 2, none⟩) (by simp; omega)
  rw [r0] at s0
  rw [r1] at s1
  rw [r2] at s2
  rw [f0] at g0
  rw [f1] at g1
  rw [f2] at g2
  clear hb2 c0 c1 c2 c3 r0 r1 r2 f0 f1 f2
  go_wp2
  refine bodyPost_ret (v := .agg #[.int .i64 (resC (a * c) (b * d)), .int .i64 (resN (a * c) (b * d)), .int .i64 (resD (a * c) (b * d))]) (by simp [results, Try.results107, go_sem, s0, s1, s2]) rfl ⟨rfl, ?_⟩
  have H3 := H2.out
  go_grown
theorem smul (a b c d : Int) (w : World) :
    Calls Try.prog 107 #[.agg #[.int .i64 a, .int .i64 b], .agg #[.int .i64 c, .int .i64 d]] w fun e w' => e = .returned (.agg #[.int .i64 (opC a b c d (a * c) (b * d)), .int .i64 (opN a b c d (a * c) (b * d)), .int .i64 (opD a b c d (a * c) (b * d))]) ∧ Below w.heap.size w w' := by
  cases h : (rightB a b && rightB c d)
  · exact smul_no a b c d w h
  · exact smul_yes a b c d w h
set_option maxHeartbeats 400000 in
theorem sdiv_no (a b c d : Int) (w : World) (h : (rightB a b && rightB c d) = false) :
    Calls Try.prog 124 #[.agg #[.int .i64 a, .int .i64 b], .agg #[.int .i64 c, .int .i64 d]] w fun e w' => e = .returned (.agg #[.int .i64 (quC a b c d (a * d) (b * c)), .int .i64 (quN a b c d (a * d) (b * c)), .int .i64 (quD a b c d (a * d) (b * c))]) ∧ Below w.heap.size w w' := by
  rw [show quC a b c d (a * d) (b * c) = 1 by simp only [quC, h, Bool.false_eq_true, if_false], show quN a b c d (a * d) (b * c) = 0 by simp only [quN, h, Bool.false_eq_true, if_false], show quD a b c d (a * d) (b * c) = 0 by simp only [quD, h, Bool.false_eq_true, if_false]]
  have HH : Hid ((rightB a b && rightB c d) = false) := h
  clear h
  go_enter Try.func124, Try.ntmps124
  go_wp2_with fail
  refine (both_f a b c d HH.out _).mono ?_
  rintro e w1 ⟨rfl, hb1⟩
  have H1 : Hid (Below w.heap.size w w1) := by refine box_step ?_ hb1 (by simp); go_grown
  obtain ⟨⟨c0, c1, c2, c3⟩, ⟨r0, r1, r2⟩, ⟨f0, f1, f2⟩, hs⟩ := box223 (hb1.mono (by simp))
  clear hb1
  go_wp2
  refine bodyPost_ret (v := .agg #[.int .i64 1, .int .i64 0, .int .i64 0]) (by simp [results, Try.results124, go_sem, r0, r1, r2]) rfl ⟨rfl, ?_⟩
  have H2 := H1.out
  go_grown
set_option maxHeartbeats 400000 in
theorem sdiv_yes (a b c d : Int) (w : World) (h : (rightB a b && rightB c d) = true) (hc : c ≠ 0) :
    Calls Try.prog 124 #[.agg #[.int .i64 a, .int .i64 b], .agg #[.int .i64 c, .int .i64 d]] w fun e w' => e = .returned (.agg #[.int .i64 (quC a b c d (a * d) (b * c)), .int .i64 (quN a b c d (a * d) (b * c)), .int .i64 (quD a b c d (a * d) (b * c))]) ∧ Below w.heap.size w w' := by
  rw [show quC a b c d (a * d) (b * c) = resC (a * d) (b * c) by simp only [quC, h, if_true, if_neg hc], show quN a b c d (a * d) (b * c) = resN (a * d) (b * c) by simp only [quN, h, if_true, if_neg hc], show quD a b c d (a * d) (b * c) = resD (a * d) (b * c) by simp only [quD, h, if_true, if_neg hc]]
  obtain ⟨h1, h2⟩ : rightB a b = true ∧ rightB c d = true := by simpa using h
  obtain ⟨p1, p2, p3, p4, p5⟩ := right_t h1
  obtain ⟨q1, q2, q3, q4, q5⟩ := right_t h2
  obtain ⟨m1, m2⟩ := mul_bd a d p3 p4 (by omega) q2
  obtain ⟨m5, m6⟩ := mul_bd b c (by omega) p2 q3 q4
  have m7 := mul_ne (show b ≠ 0 by omega) hc
  have M7 : Hid (b * c ≠ 0) := m7
  have t0 : (c == 0) = false := by rw [beq_eq_false_iff_ne]; exact hc
  have HH : Hid ((rightB a b && rightB c d) = true) := h
  clear h h1 h2 p5 q5 m7
  go_enter Try.func124, Try.ntmps124
  go_wp2_with fail
  refine (both_t a b c d HH.out _).mono ?_
  rintro e w1 ⟨rfl, hb1⟩
  have H1 : Hid (Below w.heap.size w w1) := by refine box_step ?_ hb1 (by simp); go_grown
  obtain ⟨⟨c0, c1, c2, c3⟩, ⟨r0, r1, r2⟩, ⟨f0, f1, f2⟩, hs⟩ := box223 (hb1.mono (by simp))
  clear hb1
  go_wp2_with fail
  refine (slow (a * d) (b * c) _ (by omega) (by omega) (by omega) (by omega) M7.out).mono ?_
  rintro e w2 ⟨rfl, hb2⟩
  have H2 : Hid (Below w.heap.size w w2) := box_step H1.out hb2 (Nat.le_refl _)
  have s0 := hb2.cell (p := ⟨w.heap.size + 1 + 1, 0, none⟩) (by simp; omega)
  have s1 := hb2.cell (p := ⟨w.heap.size + 1 + 1, 1, none⟩) (by simp; omega)
  have s2 := hb2.cell (p := ⟨w.heap.size + 1 + 1, 2, none⟩) (by simp; omega)
  have g0 := hb2.frozen (p := ⟨w.heap.size + 1 + 1, 0, none⟩) (by simp; omega)
  have g1 := hb2.frozen (p := ⟨w.heap.size + 1 + 1, 1, none⟩) (by simp; omega)
  have g2 := hb2.frozen (p := ⟨w.heap.size + 1 + 1, 2, none⟩) (by simp; omega)
  rw [r0] at s0
  rw [r1] at s1
  rw [r2] at s2
  rw [f0] at g0
  rw [f1] at g1
  rw [f2] at g2
  clear hb2 c0 c1 c2 c3 r0 r1 r2 f0 f1 f2
  go_wp2
  refine bodyPost_ret (v := .agg #[.int .i64 (resC (a * d) (b * c)), .int .i64 (resN (a * d) (b * c)), .int .i64 (resD (a * d) (b * c))]) (by simp [results, Try.results124, go_sem, s0, s1, s2]) rfl ⟨rfl, ?_⟩
  have H3 := H2.out
  go_grown
set_option maxHeartbeats 400000 in
theorem sdiv_zero (a b d : Int) (w : World) (h : (rightB a b && rightB 0 d) = true) :
    Calls Try.prog 124 #[.agg #[.int .i64 a, .int .i64 b], .agg #[.int .i64 0, .int .i64 d]] w fun e w' => e = .returned (.agg #[.int .i64 6, .int .i64 0, .int .i64 0]) ∧ Below w.heap.size w w' := by
  obtain ⟨h1, h2⟩ : rightB a b = true ∧ rightB 0 d = true := by simpa using h
  obtain ⟨q1, q2, q3, q4, q5⟩ := right_t h2
  have hd : d = 1 := by rw [Int.gcd_zero_left] at q5; omega
  subst hd
  have HH : Hid ((rightB a b && rightB 0 1) = true) := h
  clear h h1 h2 q5
  go_enter Try.func124, Try.ntmps124
  go_wp2_with fail
  refine (both_t a b 0 1 HH.out _).mono ?_
  rintro e w1 ⟨rfl, hb1⟩
  have H1 : Hid (Below w.heap.size w w1) := by refine box_step ?_ hb1 (by simp); go_grown
  obtain ⟨⟨c0, c1, c2, c3⟩, ⟨r0, r1, r2⟩, ⟨f0, f1, f2⟩, hs⟩ := box223 (hb1.mono (by simp))
  clear hb1
  go_wp2
  refine bodyPost_ret (v := .agg #[.int .i64 6, .int .i64 0, .int .i64 0]) (by simp [results, Try.results124, go_sem, r0, r1, r2]) rfl ⟨rfl, ?_⟩
  have H3 := H1.out
  go_grown
theorem sdiv (a b c d : Int) (w : World) :
    Calls Try.prog 124 #[.agg #[.int .i64 a, .int .i64 b], .agg #[.int .i64 c, .int .i64 d]] w fun e w' => e = .returned (.agg #[.int .i64 (quC a b c d (a * d) (b * c)), .int .i64 (quN a b c d (a * d) (b * c)), .int .i64 (quD a b c d (a * d) (b * c))]) ∧ Below w.heap.size w w' := by
  cases h : (rightB a b && rightB c d)
  · exact sdiv_no a b c d w h
  by_cases hc : c = 0
  · subst hc
    have := sdiv_zero a b d w h
    simpa only [quC, quN, quD, h, if_true] using this
  · exact sdiv_yes a b c d w h hc
end Go.Proofs.Ytkkajcdjkfbcgaa
