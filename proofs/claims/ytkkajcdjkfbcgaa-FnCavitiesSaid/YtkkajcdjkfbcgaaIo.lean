/- The program's sums, differences, products and quotients of fractions. -/
import Derived.Test.YtkkajcdjkfbcgaaAn
namespace Go.Proofs.Ytkkajcdjkfbcgaa
open Go.RowKit
set_option linter.unusedVariables false
theorem box_in {X : World} {o : Obj} {w1 : World} (h : Below (X.alloc o).heap.size (X.alloc o) w1) : Below X.heap.size X w1 := (below_of_alloc rfl).trans (h.mono (by simp))
theorem cell_new {X : World} {cs : Array Value} {t : TypeId} {k j : Nat} {v : Value} (hk : k = X.heap.size) (h : cs[j]? = some v) : (X.alloc (.cells cs t)).cell? ⟨k, j, none⟩ = some v := by
  subst hk
  have e : (X.alloc (.cells cs t)).heap[X.heap.size]? = some (.cells cs t) := by show (X.heap.push _)[X.heap.size]? = _; simp
  simp only [World.cell?, e]
  exact h
theorem cell_old {X : World} {o : Obj} {p : Addr} {v : Value} (h : X.cell? p = some v) : (X.alloc o).cell? p = some v := by rw [World.cell?_alloc_lt _ _ _ (World.block_lt_of_cell? _ _ h)]; exact h
/-- Two fractions, one behind the other. -/
def pair (x y : Q) : Nat → Q
  | 0 => x
  | _ => y
theorem all2 (x y : Q) : allB (pair x y) 2 = (x.ok && y.ok) := by simp [allB, List.range, List.range.loop, pair]
theorem any2 (a b c d : Int) (w : World) (k : Nat) (h0 : w.cell? ⟨k, 0, none⟩ = some (.int .i64 a)) (h1 : w.cell? ⟨k, 1, none⟩ = some (.int .i64 b)) (h2 : w.cell? ⟨k, 2, none⟩ = some (.int .i64 c)) (h3 : w.cell? ⟨k, 3, none⟩ = some (.int .i64 d)) :
    Calls Try.prog 109 #[.slice (some ⟨k, 0, none⟩) 2 2] w fun e w' => e = .returned (.bool (!(rightB a b && rightB c d))) ∧ Below w.heap.size w w' := by
  have := anyf k 2 2 (pair ⟨a, b⟩ ⟨c, d⟩) w (by omega) (fun i hi => by
    match i, hi with
    | 0, _ => exact ⟨h0, h1⟩
    | 1, _ => exact ⟨h2, h3⟩)
  rw [all2] at this
  exact this
theorem any2_f (a b c d : Int) (h : (rightB a b && rightB c d) = false) (w : World) (k : Nat) (h0 : w.cell? ⟨k, 0, none⟩ = some (.int .i64 a)) (h1 : w.cell? ⟨k, 1, none⟩ = some (.int .i64 b)) (h2 : w.cell? ⟨k, 2, none⟩ = some (.int .i64 c)) (h3 : w.cell? ⟨k, 3, none⟩ = some (.int .i64 d)) :
    Calls Try.prog 109 #[.slice (some ⟨k, 0, none⟩) 2 2] w fun e w' => e = .returned (.bool true) ∧ Below w.heap.size w w' := by
  have := any2 a b c d w k h0 h1 h2 h3
  rwa [h] at this
theorem any2_t (a b c d : Int) (h : (rightB a b && rightB c d) = true) (w : World) (k : Nat) (h0 : w.cell? ⟨k, 0, none⟩ = some (.int .i64 a)) (h1 : w.cell? ⟨k, 1, none⟩ = some (.int .i64 b)) (h2 : w.cell? ⟨k, 2, none⟩ = some (.int .i64 c)) (h3 : w.cell? ⟨k, 3, none⟩ = some (.int .i64 d)) :
    Calls Try.prog 109 #[.slice (some ⟨k, 0, none⟩) 2 2] w fun e w' => e = .returned (.bool false) ∧ Below w.heap.size w w' := by
  have := any2 a b c d w k h0 h1 h2 h3
  rwa [h] at this
set_option maxHeartbeats 400000 in
theorem iadd_no (a b c d : Int) (w : World) (h : (rightB a b && rightB c d) = false) :
    Calls Try.prog 114 #[.agg #[.int .i64 a, .int .i64 b], .agg #[.int .i64 c, .int .i64 d]] w fun e w' => e = .returned (.agg #[.int .i64 (opC a b c d (a * d + c * b) (b * d)), .int .i64 (opN a b c d (a * d + c * b) (b * d)), .int .i64 (opD a b c d (a * d + c * b) (b * d))]) ∧ Below w.heap.size w w' := by
  rw [show opC a b c d (a * d + c * b) (b * d) = 1 by simp only [opC, h, Bool.false_eq_true, if_false], show opN a b c d (a * d + c * b) (b * d) = 0 by simp only [opN, h, Bool.false_eq_true, if_false], show opD a b c d (a * d + c * b) (b * d) = 0 by simp only [opD, h, Bool.false_eq_true, if_false]]
  have HH : Hid ((rightB a b && rightB c d) = false) := h
  clear h
  go_enter Try.func114, Try.ntmps114
  go_wp2_with fail
  refine (any2_f a b c d HH.out _ _ ?_ ?_ ?_ ?_).mono ?_
  · exact cell_new (by simp) rfl
  · exact cell_new (by simp) rfl
  · exact cell_new (by simp) rfl
  · exact cell_new (by simp) rfl
  rintro e w1 ⟨rfl, hb0⟩
  have hb1 := box_in hb0
  clear hb0
  have H1 : Hid (Below w.heap.size w w1) := by refine box_step ?_ hb1 (by simp); go_grown
  obtain ⟨⟨c0, c1, c2, c3⟩, ⟨r0, r1, r2⟩, ⟨f0, f1, f2⟩, hs⟩ := box223 (hb1.mono (by simp))
  clear hb1
  go_wp2
  refine bodyPost_ret (v := .agg #[.int .i64 1, .int .i64 0, .int .i64 0]) (by simp [results, Try.results114, go_sem, r0, r1, r2]) rfl ⟨rfl, ?_⟩
  have H2 := H1.out
  go_grown
set_option maxHeartbeats 400000 in
theorem iadd_yes (a b c d : Int) (w : World) (h : (rightB a b && rightB c d) = true) :
    Calls Try.prog 114 #[.agg #[.int .i64 a, .int .i64 b], .agg #[.int .i64 c, .int .i64 d]] w fun e w' => e = .returned (.agg #[.int .i64 (opC a b c d (a * d + c * b) (b * d)), .int .i64 (opN a b c d (a * d + c * b) (b * d)), .int .i64 (opD a b c d (a * d + c * b) (b * d))]) ∧ Below w.heap.size w w' := by
  rw [show opC a b c d (a * d + c * b) (b * d) = resC (a * d + c * b) (b * d) by simp only [opC, h, if_true], show opN a b c d (a * d + c * b) (b * d) = resN (a * d + c * b) (b * d) by simp only [opN, h, if_true], show opD a b c d (a * d + c * b) (b * d) = resD (a * d + c * b) (b * d) by simp only [opD, h, if_true]]
  obtain ⟨h1, h2⟩ : rightB a b = true ∧ rightB c d = true := by simpa using h
  obtain ⟨p1, p2, p3, p4, p5⟩ := right_t h1
  obtain ⟨q1, q2, q3, q4, q5⟩ := right_t h2
  obtain ⟨m1, m2⟩ := mul_bd a d p3 p4 (by omega) q2
  obtain ⟨m3, m4⟩ := mul_bd c b q3 q4 (by omega) p2
  obtain ⟨m5, m6⟩ := mul_bd b d (by omega) p2 (by omega) q2
  have m7 := mul_ne (show b ≠ 0 by omega) (show d ≠ 0 by omega)
  have M7 : Hid (b * d ≠ 0) := m7
  have HH : Hid ((rightB a b && rightB c d) = true) := h
  clear h h1 h2 p5 q5 m7
  go_enter Try.func114, Try.ntmps114
  go_wp2_with fail
  refine (any2_t a b c d HH.out _ _ ?_ ?_ ?_ ?_).mono ?_
  · exact cell_new (by simp) rfl
  · exact cell_new (by simp) rfl
  · exact cell_new (by simp) rfl
  · exact cell_new (by simp) rfl
  rintro e w1 ⟨rfl, hb0⟩
  have hb1 := box_in hb0
  clear hb0
  have H1 : Hid (Below w.heap.size w w1) := by refine box_step ?_ hb1 (by simp); go_grown
  obtain ⟨⟨c0, c1, c2, c3⟩, ⟨r0, r1, r2⟩, ⟨f0, f1, f2⟩, hs⟩ := box223 (hb1.mono (by simp))
  clear hb1
  go_wp2_with fail
  refine (quot (a * d + c * b) (b * d) _ (by omega) (by omega) (by omega) (by omega) M7.out).mono ?_
  rintro e w2 ⟨rfl, hb2⟩
  have H2 : Hid (Below w.heap.size w w2) := box_step H1.out hb2 (Nat.le_refl _)
  have s0 := hb2.cell (p := ⟨w.heap.size + 1 + 1, 0, none⟩) (by simp; omega)
  have s1 := hb2.cell (p := ⟨w.heap.size + 1 + 1, 1, none⟩) (by simp; omega)
  have s2 := hb2.cell (p := ⟨w.heap.size + 1 + 1, 2, none⟩) (by simp; omega)
  have g0 := hb2.frozen (p := ⟨w.heap.size + 1 + 1, 0, none⟩) (by simp; omega)
  have g1 := hb2.frozen (p := ⟨w.heap.size + 1 + 1, 1, none⟩) (by simp; omega)
  have g2 := hb2.frozen (p := ⟨w.heap.size + 1 + 1, 2, none⟩) (by simp; omega)
  rw [r0] at s0
  rw [r1] at s1
  rw [r2] at s2
  rw [f0] at g0
  rw [f1] at g1
  rw [f2] at g2
  clear hb2 c0 c1 c2 c3 r0 r1 r2 f0 f1 f2
  go_wp2
  refine bodyPost_ret (v := .agg #[.int .i64 (resC (a * d + c * b) (b * d)), .int .i64 (resN (a * d + c * b) (b * d)), .int .i64 (resD (a * d + c * b) (b * d))]) (by simp [results, Try.results114, go_sem, s0, s1, s2]) rfl ⟨rfl, ?_⟩
  have H3 := H2.out
  go_grown
theorem iadd (a b c d : Int) (w : World) :
    Calls Try.prog 114 #[.agg #[.int .i64 a, .int .i64 b], .agg #[.int .i64 c, .int .i64 d]] w fun e w' => e = .returned (.agg #[.int .i64 (opC a b c d (a * d + c * b) (b * d)), .int .i64 (opN a b c d (a * d + c * b) (b * d)), .int .i64 (opD a b c d (a * d + c * b) (b * d))]) ∧ Below w.heap.size w w' := by
  cases h : (rightB a b && rightB c d)
  · exact iadd_no a b c d w h
  · exact iadd_yes a b c d w h
set_option maxHeartbeats 400000 in
theorem isub_no (a b c d : Int) (w : World) (h : (rightB a b && rightB c d) = false) :
    Calls Try.prog 113 #[.agg #[.int .i64 a, .int .i64 b], .agg #[.int .i64 c, .int .i64 d]] w fun e w' => e = .returned (.agg #[.int .i64 (opC a b c d (a * d - c * b) (b * d)), .int .i64 (opN a b c d (a * d - c * b) (b * d)), .int .i64 (opD a b c d (a * d - c * b) (b * d))]) ∧ Below w.heap.size w w' := by
  rw [show opC a b c d (a * d - c * b) (b * d) = 1 by simp only [opC, h, Bool.false_eq_true, if_false], show opN a b c d (a * d - c * b) (b * d) = 0 by simp only [opN, h, Bool.false_eq_true, if_false], show opD a b c d (a * d - c * b) (b * d) = 0 by simp only [opD, h, Bool.false_eq_true, if_false]]
  have HH : Hid ((rightB a b && rightB c d) = false) := h
  clear h
  go_enter Try.func113, Try.ntmps113
  go_wp2_with fail
  refine (any2_f a b c d HH.out _ _ ?_ ?_ ?_ ?_).mono ?_
  · exact cell_new (by simp) rfl
  · exact cell_new (by simp) rfl
  · exact cell_new (by simp) rfl
  · exact cell_new (by simp) rfl
  rintro e w1 ⟨rfl, hb0⟩
  have hb1 := box_in hb0
  clear hb0
  have H1 : Hid (Below w.heap.size w w1) := by refine box_step ?_ hb1 (by simp); go_grown
  obtain ⟨⟨c0, c1, c2, c3⟩, ⟨r0, r1, r2⟩, ⟨f0, f1, f2⟩, hs⟩ := box223 (hb1.mono (by simp))
  clear hb1
  go_wp2
  refine bodyPost_ret (v := .agg #[.int .i64 1, .int .i64 0, .int .i64 0]) (by simp [results, Try.results113, go_sem, r0, r1, r2]) rfl ⟨rfl, ?_⟩
  have H2 := H1.out
  go_grown
set_option maxHeartbeats 400000 in
theorem isub_yes (a b c d : Int) (w : World) (h : (rightB a b && rightB c d) = true) :
    Calls Try.prog 113 #[.agg #[.int .i64 a, .int .i64 b], .agg #[.int .i64 c, .int .i64 d]] w fun e w' => e = .returned (.agg #[.int .i64 (opC a b c d (a * d - c * b) (b * d)), .int .i64 (opN a b c d (a * d - c * b) (b * d)), .int .i64 (opD a b c d (a * d - c * b) (b * d))]) ∧ Below w.heap.size w w' := by
  rw [show opC a b c d (a * d - c * b) (b * d) = resC (a * d - c * b) (b * d) by simp only [opC, h, if_true], show opN a b c d (a * d - c * b) (b * d) = resN (a * d - c * b) (b * d) by simp only [opN, h, if_true], show opD a b c d (a * d - c * b) (b * d) = resD (a * d - c * b) (b * d) by simp only [opD, h, if_true]]
  obtain ⟨h1, h2⟩ : rightB a b = true ∧ rightB c d = true := by simpa using h
  obtain ⟨p1, p2, p3, p4, p5⟩ := right_t h1
  obtain ⟨q1, q2, q3, q4, q5⟩ := right_t h2
  obtain ⟨m1, m2⟩ := mul_bd a d p3 p4 (by omega) q2
  obtain ⟨m3, m4⟩ := mul_bd c b q3 q4 (by omega) p2
  obtain ⟨m5, m6⟩ := mul_bd b d (by omega) p2 (by omega) q2
  have m7 := mul_ne (show b ≠ 0 by omega) (show d ≠ 0 by omega)
  have M7 : Hid (b * d ≠ 0) := m7
  have HH : Hid ((rightB a b && rightB c d) = true) := h
  clear h h1 h2 p5 q5 m7
  go_enter Try.func113, Try.ntmps113
  go_wp2_with fail
  refine (any2_t a b c d HH.out _ _ ?_ ?_ ?_ ?_).mono ?_
  · exact cell_new (by simp) rfl
  · exact cell_new (by simp) rfl
  · exact cell_new (by simp) rfl
  · exact cell_new (by simp) rfl
  rintro e w1 ⟨rfl, hb0⟩
  have hb1 := box_in hb0
  clear hb0
  have H1 : Hid (Below w.heap.size w w1) := by refine box_step ?_ hb1 (by simp); go_grown
  obtain ⟨⟨c0, c1, c2, c3⟩, ⟨r0, r1, r2⟩, ⟨f0, f1, f2⟩, hs⟩ := box223 (hb1.mono (by simp))
  clear hb1
  go_wp2_with fail
  refine (quot (a * d - c * b) (b * d) _ (by omega) (by omega) (by omega) (by omega) M7.out).mono ?_
  rintro e w2 ⟨rfl, hb2⟩
  have H2 : Hid (Below w.heap.size w w2) := box_step H1.out hb2 (Nat.le_refl _)
  have s0 := hb2.cell (p := ⟨w.heap.size + 1 + 1, 0, none⟩) (by simp; omega)
  have s1 := hb2.cell (p := ⟨w.heap.size + 1 + 1, 1, none⟩) (by simp; omega)
  have s2 := hb2.cell (p := ⟨w.heap.size + 1 + 1, 2, none⟩) (by simp; omega)
  have g0 := hb2.frozen (p := ⟨w.heap.size + 1 + 1, 0, none⟩) (by simp; omega)
  have g1 := hb2.frozen (p := ⟨w.heap.size + 1 + 1, 1, none⟩) (by simp; omega)
  have g2 := hb2.frozen (p := ⟨w.heap.size + 1 + 1, 2, none⟩) (by simp; omega)
  rw [r0] at s0
  rw [r1] at s1
  rw [r2] at s2
  rw [f0] at g0
  rw [f1] at g1
  rw [f2] at g2
  clear hb2 c0 c1 c2 c3 r0 r1 r2 f0 f1 f2
  go_wp2
  refine bodyPost_ret (v := .agg #[.int .i64 (resC (a * d - c * b) (b * d)), .int .i64 (resN (a * d - c * b) (b * d)), .int .i64 (resD (a * d - c * b) (b * d))]) (by simp [results, Try.results113, go_sem, s0, s1, s2]) rfl ⟨rfl, ?_⟩
  have H3 := H2.out
  go_grown
theorem isub (a b c d : Int) (w : World) :
    Calls Try.prog 113 #[.agg #[.int .i64 a, .int .i64 b], .agg #[.int .i64 c, .int .i64 d]] w fun e w' => e = .returned (.agg #[.int .i64 (opC a b c d (a * d - c * b) (b * d)), .int .i64 (opN a b c d (a * d - c * b) (b * d)), .int .i64 (opD a b c d (a * d - c * b) (b * d))]) ∧ Below w.heap.size w w' := by
  cases h : (rightB a b && rightB c d)
  · exact isub_no a b c d w h
  · exact isub_yes a b c d w h
set_option maxHeartbeats 400000 in
theorem imul_no (a b c d : Int) (w : World) (h : (rightB a b && rightB c d) = false) :
    Calls Try.prog 112 #[.agg #[.int .i64 a, .int .i64 b], .agg #[.int .i64 c, .int .i64 d]] w fun e w' => e = .returned (.agg #[.int .i64 (opC a b c d (a * c) (b * d)), .int .i64 (opN a b c d (a * c) (b * d)), .int .i64 (opD a b c d (a * c) (b * d))]) ∧ Below w.heap.size w w' := by
  rw [show opC a b c d (a * c) (b * d) = 1 by simp only [opC, h, Bool.false_eq_true, if_false], show opN a b c d (a * c) (b * d) = 0 by simp only [opN, h, Bool.false_eq_true, if_false], show opD a b c d (a * c) (b * d) = 0 by simp only [opD, h, Bool.false_eq_true, if_false]]
  have HH : Hid ((rightB a b && rightB c d) = false) := h
  clear h
  go_enter Try.func112, Try.ntmps112
  go_wp2_with fail
  refine (any2_f a b c d HH.out _ _ ?_ ?_ ?_ ?_).mono ?_
  · exact cell_new (by simp) rfl
  · exact cell_new (by simp) rfl
  · exact cell_new (by simp) rfl
  · exact cell_new (by simp) rfl
  rintro e w1 ⟨rfl, hb0⟩
  have hb1 := box_in hb0
  clear hb0
  have H1 : Hid (Below w.heap.size w w1) := by refine box_step ?_ hb1 (by simp); go_grown
  obtain ⟨⟨c0, c1, c2, c3⟩, ⟨r0, r1, r2⟩, ⟨f0, f1, f2⟩, hs⟩ := box223 (hb1.mono (by simp))
  clear hb1
  go_wp2
  refine bodyPost_ret (v := .agg #[.int .i64 1, .int .i64 0, .int .i64 0]) (by simp [results, Try.results112, go_sem, r0, r1, r2]) rfl ⟨rfl, ?_⟩
  have H2 := H1.out
  go_grown
set_option maxHeartbeats 400000 in
theorem imul_yes (a b c d : Int) (w : World) (h : (rightB a b && rightB c d) = true) :
    Calls Try.prog 112 #[.agg #[.int .i64 a, .int .i64 b], .agg #[.int .i64 c, .int .i64 d]] w fun e w' => e = .returned (.agg #[.int .i64 (opC a b c d (a * c) (b * d)), .int .i64 (opN a b c d (a * c) (b * d)), .int .i64 (opD a b c d (a * c) (b * d))]) ∧ Below w.heap.size w w' := by
  rw [show opC a b c d (a * c) (b * d) = resC (a * c) (b * d) by simp only [opC, h, if_true], show opN a b c d (a * c) (b * d) = resN (a * c) (b * d) by simp only [opN, h, if_true], show opD a b c d (a * c) (b * d) = resD (a * c) (b * d) by simp only [opD, h, if_true]]
  obtain ⟨h1, h2⟩ : rightB a b = true ∧ rightB c d = true := by simpa using h
  obtain ⟨p1, p2, p3, p4, p5⟩ := right_t h1
  obtain ⟨q1, q2, q3, q4, q5⟩ := right_t h2
  obtain ⟨m1, m2⟩ := mul_bd a c p3 p4 q3 q4
  obtain ⟨m5, m6⟩ := mul_bd b d (by omega) p2 (by omega) q2
  have m7 := mul_ne (show b ≠ 0 by omega) (show d ≠ 0 by omega)
  have M7 : Hid (b * d ≠ 0) := m7
  have HH : Hid ((rightB a b && rightB c d) = true) := h
  clear h h1 h2 p5 q5 m7
  go_enter Try.func112, Try.ntmps112
  go_wp2_with fail
  refine (any2_t a b c d HH.out _ _ ?_ ?_ ?_ ?_).mono ?_
  · exact cell_new (by simp) rfl
  · exact cell_new (by simp) rfl
  · exact cell_new (by simp) rfl
  · exact cell_new (by simp) rfl
  rintro e w1 ⟨rfl, hb0⟩
  have hb1 := box_in hb0
  clear hb0
  have H1 : Hid (Below w.heap.size w w1) := by refine box_step ?_ hb1 (by simp); go_grown
  obtain ⟨⟨c0, c1, c2, c3⟩, ⟨r0, r1, r2⟩, ⟨f0, f1, f2⟩, hs⟩ := box223 (hb1.mono (by simp))
  clear hb1
  go_wp2_with fail
  refine (quot (a * c) (b * d) _ (by omega) (by omega) (by omega) (by omega) M7.out).mono ?_
  rintro e w2 ⟨rfl, hb2⟩
  have H2 : Hid (Below w.heap.size w w2) := box_step H1.out hb2 (Nat.le_refl _)
  have s0 := hb2.cell (p := ⟨w.heap.size + 1 + 1, 0, none⟩) (by simp; omega)
  have s1 := hb2.cell (p := ⟨w.heap.size + 1 + 1, 1, none⟩) (by simp; omega)
  have s2 := hb2.cell (p := ⟨w.heap.size + 1 + 1, 2, none⟩) (by simp; omega)
  have g0 := hb2.frozen (p := ⟨w.heap.size + 1 + 1, 0, none⟩) (by simp; omega)
  have g1 := hb2.frozen (p := ⟨w.heap.size + 1 + 1, 1, none⟩) (by simp; omega)
  have g2 := hb2.frozen (p := ⟨w.heap.size + 1 + 1, 2, none⟩) (by simp; omega)
  rw [r0] at s0
  rw [r1] at s1
  rw [r2] at s2
  rw [f0] at g0
  rw [f1] at g1
  rw [f2] at g2
  clear hb2 c0 c1 c2 c3 r0 r1 r2 f0 f1 f2
  go_wp2
  refine bodyPost_ret (v := .agg #[.int .i64 (resC (a * c) (b * d)), .int .i64 (resN (a * c) (b * d)), .int .i64 (resD (a * c) (b * d))]) (by simp [results, Try.results112, go_sem, s0, s1, s2]) rfl ⟨rfl, ?_⟩
  have H3 := H2.out
  go_grown
theorem imul (a b c d : Int) (w : World) :
    Calls Try.prog 112 #[.agg #[.int .i64 a, .int .i64 b], .agg #[.int .i64 c, .int .i64 d]] w fun e w' => e = .returned (.agg #[.int .i64 (opC a b c d (a * c) (b * d)), .int .i64 (opN a b c d (a * c) (b * d)), .int .i64 (opD a b c d (a * c) (b * d))]) ∧ Below w.heap.size w w' := by
  cases h : (rightB a b && rightB c d)
  · exact imul_no a b c d w h
  · exact imul_yes a b c d w h
set_option maxHeartbeats 400000 in
theorem idiv_no (a b c d : Int) (w : World) (h : (rightB a b && rightB c d) = false) :
    Calls Try.prog 126 #[.agg #[.int .i64 a, .int .i64 b], .agg #[.int .i64 c, .int .i64 d]] w fun e w' => e = .returned (.agg #[.int .i64 (quC a b c d (a * d) (b * c)), .int .i64 (quN a b c d (a * d) (b * c)), .int .i64 (quD a b c d (a * d) (b * c))]) ∧ Below w.heap.size w w' := by
  rw [show quC a b c d (a * d) (b * c) = 1 by simp only [quC, h, Bool.false_eq_true, if_false], show quN a b c d (a * d) (b * c) = 0 by simp only [quN, h, Bool.false_eq_true, if_false], show quD a b c d (a * d) (b * c) = 0 by simp only [quD, h, Bool.false_eq_true, if_false]]
  have HH : Hid ((rightB a b && rightB c d) = false) := h
  clear h
  go_enter Try.func126, Try.ntmps126
  go_wp2_with fail
  refine (any2_f a b c d HH.out _ _ ?_ ?_ ?_ ?_).mono ?_
  · exact cell_new (by simp) rfl
  · exact cell_new (by simp) rfl
  · exact cell_new (by simp) rfl
  · exact cell_new (by simp) rfl
  rintro e w1 ⟨rfl, hb0⟩
  have hb1 := box_in hb0
  clear hb0
  have H1 : Hid (Below w.heap.size w w1) := by refine box_step ?_ hb1 (by simp); go_grown
  obtain ⟨⟨c0, c1, c2, c3⟩, ⟨r0, r1, r2⟩, ⟨f0, f1, f2⟩, hs⟩ := box223 (hb1.mono (by simp))
  clear hb1
  go_wp2
  refine bodyPost_ret (v := .agg #[.int .i64 1, .int .i64 0, .int .i64 0]) (by simp [results, Try.results126, go_sem, r0, r1, r2]) rfl ⟨rfl, ?_⟩
  have H2 := H1.out
  go_grown
set_option maxHeartbeats 400000 in
theorem idiv_yes (a b c d : Int) (w : World) (h : (rightB a b && rightB c d) = true) (hc : c ≠ 0) :
    Calls Try.prog 126 #[.agg #[.int .i64 a, .int .i64 b], .agg #[.int .i64 c, .int .i64 d]] w fun e w' => e = .returned (.agg #[.int .i64 (quC a b c d (a * d) (b * c)), .int .i64 (quN a b c d (a * d) (b * c)), .int .i64 (quD a b c d (a * d) (b * c))]) ∧ Below w.heap.size w w' := by
  rw [show quC a b c d (a * d) (b * c) = resC (a * d) (b * c) by simp only [quC, h, if_true, if_neg hc], show quN a b c d (a * d) (b * c) = resN (a * d) (b * c) by simp only [quN, h, if_true, if_neg hc], show quD a b c d (a * d) (b * c) = resD (a * d) (b * c) by simp only [quD, h, if_true, if_neg hc]]
  obtain ⟨h1, h2⟩ : rightB a b = true ∧ rightB c d = true := by simpa using h
  obtain ⟨p1, p2, p3, p4, p5⟩ := right_t h1
  obtain ⟨q1, q2, q3, q4, q5⟩ := right_t h2
  obtain ⟨m1, m2⟩ := mul_bd a d p3 p4 (by omega) q2
  obtain ⟨m5, m6⟩ := mul_bd b c (by omega) p2 q3 q4
  have m7 := mul_ne (show b ≠ 0 by omega) hc
  have M7 : Hid (b * c ≠ 0) := m7
  have t0 : (c == 0) = false := by rw [beq_eq_false_iff_ne]; exact hc
  have st := st25
  have HH : Hid ((rightB a b && rightB c d) = true) := h
  clear h h1 h2 p5 q5 m7
  go_enter Try.func126, Try.ntmps126
  go_wp2_with fail
  refine (any2_t a b c d HH.out _ _ ?_ ?_ ?_ ?_).mono ?_
  · exact cell_new (by simp) rfl
  · exact cell_new (by simp) rfl
  · exact cell_new (by simp) rfl
  · exact cell_new (by simp) rfl
  rintro e w1 ⟨rfl, hb0⟩
  have hb1 := box_in hb0
  clear hb0
  have H1 : Hid (Below w.heap.size w w1) := by refine box_step ?_ hb1 (by simp); go_grown
  obtain ⟨⟨c0, c1, c2, c3⟩, ⟨r0, r1, r2⟩, ⟨f0, f1, f2⟩, hs⟩ := box223 (hb1.mono (by simp))
  clear hb1
  go_wp2_with fail
  refine (quot (a * d) (b * c) _ (by omega) (by omega) (by omega) (by omega) M7.out).mono ?_
  rintro e w2 ⟨rfl, hb2⟩
  have H2 : Hid (Below w.heap.size w w2) := box_step H1.out hb2 (Nat.le_refl _)
  have s0 := hb2.cell (p := ⟨w.heap.size + 1 + 1, 0, none⟩) (by simp; omega)
  have s1 := hb2.cell (p := ⟨w.heap.size + 1 + 1, 1, none⟩) (by simp; omega)
  have s2 := hb2.cell (p := ⟨w.heap.size + 1 + 1, 2, none⟩) (by simp; omega)
  have g0 := hb2.frozen (p := ⟨w.heap.size + 1 + 1, 0, none⟩) (by simp; omega)
  have g1 := hb2.frozen (p := ⟨w.heap.size + 1 + 1, 1, none⟩) (by simp; omega)
  have g2 := hb2.frozen (p := ⟨w.heap.size + 1 + 1, 2, none⟩) (by simp; omega)
  rw [r0] at s0
  rw [r1] at s1
  rw [r2] at s2
  rw [f0] at g0
  rw [f1] at g1
  rw [f2] at g2
  clear hb2 c0 c1 c2 c3 r0 r1 r2 f0 f1 f2
  go_wp2
  refine bodyPost_ret (v := .agg #[.int .i64 (resC (a * d) (b * c)), .int .i64 (resN (a * d) (b * c)), .int .i64 (resD (a * d) (b * c))]) (by simp [results, Try.results126, go_sem, s0, s1, s2]) rfl ⟨rfl, ?_⟩
  have H3 := H2.out
  go_grown
set_option maxHeartbeats 400000 in
theorem idiv_zero (a b d : Int) (w : World) (h : (rightB a b && rightB 0 d) = true) :
    Calls Try.prog 126 #[.agg #[.int .i64 a, .int .i64 b], .agg #[.int .i64 0, .int .i64 d]] w fun e w' => e = .returned (.agg #[.int .i64 6, .int .i64 0, .int .i64 0]) ∧ Below w.heap.size w w' := by
  obtain ⟨h1, h2⟩ : rightB a b = true ∧ rightB 0 d = true := by simpa using h
  obtain ⟨q1, q2, q3, q4, q5⟩ := right_t h2
  have hd : d = 1 := by rw [Int.gcd_zero_left] at q5; omega
  subst hd
  have st := st25
  have HH : Hid ((rightB a b && rightB 0 1) = true) := h
  clear h h1 h2 q5
  go_enter Try.func126, Try.ntmps126
  go_wp2_with fail
  refine (any2_t a b 0 1 HH.out _ _ ?_ ?_ ?_ ?_).mono ?_
  · exact cell_new (by simp) rfl
  · exact cell_new (by simp) rfl
  · exact cell_new (by simp) rfl
  · exact cell_new (by simp) rfl
  rintro e w1 ⟨rfl, hb0⟩
  have hb1 := box_in hb0
  clear hb0
  have H1 : Hid (Below w.heap.size w w1) := by refine box_step ?_ hb1 (by simp); go_grown
  obtain ⟨⟨c0, c1, c2, c3⟩, ⟨r0, r1, r2⟩, ⟨f0, f1, f2⟩, hs⟩ := box223 (hb1.mono (by simp))
  clear hb1
  go_wp2
  refine bodyPost_ret (v := .agg #[.int .i64 6, .int .i64 0, .int .i64 0]) (by simp [results, Try.results126, go_sem, r0, r1, r2]) rfl ⟨rfl, ?_⟩
  have H3 := H1.out
  go_grown
theorem idiv (a b c d : Int) (w : World) :
    Calls Try.prog 126 #[.agg #[.int .i64 a, .int .i64 b], .agg #[.int .i64 c, .int .i64 d]] w fun e w' => e = .returned (.agg #[.int .i64 (quC a b c d (a * d) (b * c)), .int .i64 (quN a b c d (a * d) (b * c)), .int .i64 (quD a b c d (a * d) (b * c))]) ∧ Below w.heap.size w w' := by
  cases h : (rightB a b && rightB c d)
  · exact idiv_no a b c d w h
  by_cases hc : c = 0
  · subst hc
    have := idiv_zero a b d w h
    simpa only [quC, quN, quD, h, if_true] using this
  · exact idiv_yes a b c d w h hc
set_option maxHeartbeats 400000 in
theorem icmp_no (a b c d : Int) (w : World) (h : (rightB a b && rightB c d) = false) :
    Calls Try.prog 73 #[.agg #[.int .i64 a, .int .i64 b], .agg #[.int .i64 c, .int .i64 d]] w fun e w' => e = .returned (.int .i64 (cmpF a b c d)) ∧ Below w.heap.size w w' := by
  rw [show cmpF a b c d = 0 by simp only [cmpF, h, Bool.false_eq_true, if_false]]
  have HH : Hid ((rightB a b && rightB c d) = false) := h
  clear h
  go_enter Try.func73, Try.ntmps73
  go_wp2_with fail
  refine (any2_f a b c d HH.out _ _ ?_ ?_ ?_ ?_).mono ?_
  · exact cell_new (by simp) rfl
  · exact cell_new (by simp) rfl
  · exact cell_new (by simp) rfl
  · exact cell_new (by simp) rfl
  rintro e w1 ⟨rfl, hb0⟩
  have hb1 := box_in hb0
  clear hb0
  have H1 : Below w.heap.size w w1 := by refine box_step ?_ hb1 (by simp); go_grown
  clear hb1
  go_wp2
  go_ret
  exact ⟨rfl, H1⟩
set_option maxRecDepth 4000 in
set_option maxHeartbeats 400000 in
theorem icmp_lt_a (a b c d : Int) (w : World) (h : (rightB a b && rightB c d) = true) (hx : a * d < c * b) (hk : a ≠ c) :
    Calls Try.prog 73 #[.agg #[.int .i64 a, .int .i64 b], .agg #[.int .i64 c, .int .i64 d]] w fun e w' => e = .returned (.int .i64 (cmpF a b c d)) ∧ Below w.heap.size w w' := by
  rw [show cmpF a b c d = -1 by simp only [cmpF, h, if_true]; rw [if_pos hx]]
  obtain ⟨h1, h2⟩ : rightB a b = true ∧ rightB c d = true := by simpa using h
  obtain ⟨p1, p2, p3, p4, p5⟩ := right_t h1
  obtain ⟨q1, q2, q3, q4, q5⟩ := right_t h2
  obtain ⟨m1, m2⟩ := mul_bd a d p3 p4 (by omega) q2
  obtain ⟨m3, m4⟩ := mul_bd c b q3 q4 (by omega) p2
  have e1 : (a == c) = false := by rw [beq_eq_false_iff_ne]; exact hk
  have st := st25
  have HH : Hid ((rightB a b && rightB c d) = true) := h
  clear h h1 h2 p5 q5 hk
  go_enter Try.func73, Try.ntmps73
  go_wp2_with fail
  refine (any2_t a b c d HH.out _ _ ?_ ?_ ?_ ?_).mono ?_
  · exact cell_new (by simp) rfl
  · exact cell_new (by simp) rfl
  · exact cell_new (by simp) rfl
  · exact cell_new (by simp) rfl
  rintro e w1 ⟨rfl, hb0⟩
  have hb1 := box_in hb0
  clear hb0
  have H1 : Hid (Below w.heap.size w w1) := by refine box_step ?_ hb1 (by simp); go_grown
  have c0 := hb1.cell (p := ⟨w.heap.size, 0, none⟩) (by simp <;> omega)
  have c1 := hb1.cell (p := ⟨w.heap.size, 1, none⟩) (by simp <;> omega)
  have c2 := hb1.cell (p := ⟨w.heap.size + 1, 0, none⟩) (by simp)
  have c3 := hb1.cell (p := ⟨w.heap.size + 1, 1, none⟩) (by simp)
  simp at c0 c1 c2 c3
  clear hb1
  go_wp2
  go_ret
  exact ⟨rfl, H1.out⟩
set_option maxRecDepth 4000 in
set_option maxHeartbeats 400000 in
theorem icmp_lt_b (a b c d : Int) (w : World) (h : (rightB a b && rightB c d) = true) (hx : a * d < c * b) (hk : a = c ∧ b ≠ d) :
    Calls Try.prog 73 #[.agg #[.int .i64 a, .int .i64 b], .agg #[.int .i64 c, .int .i64 d]] w fun e w' => e = .returned (.int .i64 (cmpF a b c d)) ∧ Below w.heap.size w w' := by
  rw [show cmpF a b c d = -1 by simp only [cmpF, h, if_true]; rw [if_pos hx]]
  obtain ⟨h1, h2⟩ : rightB a b = true ∧ rightB c d = true := by simpa using h
  obtain ⟨p1, p2, p3, p4, p5⟩ := right_t h1
  obtain ⟨q1, q2, q3, q4, q5⟩ := right_t h2
  obtain ⟨m1, m2⟩ := mul_bd a d p3 p4 (by omega) q2
  obtain ⟨m3, m4⟩ := mul_bd c b q3 q4 (by omega) p2
  have e1 : (a == c) = true := by rw [beq_iff_eq]; exact hk.1
  have e2 : (b == d) = false := by rw [beq_eq_false_iff_ne]; exact hk.2
  have st := st25
  have HH : Hid ((rightB a b && rightB c d) = true) := h
  clear h h1 h2 p5 q5 hk
  go_enter Try.func73, Try.ntmps73
  go_wp2_with fail
  refine (any2_t a b c d HH.out _ _ ?_ ?_ ?_ ?_).mono ?_
  · exact cell_new (by simp) rfl
  · exact cell_new (by simp) rfl
  · exact cell_new (by simp) rfl
  · exact cell_new (by simp) rfl
  rintro e w1 ⟨rfl, hb0⟩
  have hb1 := box_in hb0
  clear hb0
  have H1 : Hid (Below w.heap.size w w1) := by refine box_step ?_ hb1 (by simp); go_grown
  have c0 := hb1.cell (p := ⟨w.heap.size, 0, none⟩) (by simp <;> omega)
  have c1 := hb1.cell (p := ⟨w.heap.size, 1, none⟩) (by simp <;> omega)
  have c2 := hb1.cell (p := ⟨w.heap.size + 1, 0, none⟩) (by simp)
  have c3 := hb1.cell (p := ⟨w.heap.size + 1, 1, none⟩) (by simp)
  simp at c0 c1 c2 c3
  clear hb1
  go_wp2
  go_ret
  exact ⟨rfl, H1.out⟩
set_option maxRecDepth 4000 in
set_option maxHeartbeats 400000 in
theorem icmp_gt_a (a b c d : Int) (w : World) (h : (rightB a b && rightB c d) = true) (hx : c * b < a * d) (hk : a ≠ c) :
    Calls Try.prog 73 #[.agg #[.int .i64 a, .int .i64 b], .agg #[.int .i64 c, .int .i64 d]] w fun e w' => e = .returned (.int .i64 (cmpF a b c d)) ∧ Below w.heap.size w w' := by
  rw [show cmpF a b c d = 1 by simp only [cmpF, h, if_true]; rw [if_neg (show ¬ a * d < c * b by omega), if_pos hx]]
  obtain ⟨h1, h2⟩ : rightB a b = true ∧ rightB c d = true := by simpa using h
  obtain ⟨p1, p2, p3, p4, p5⟩ := right_t h1
  obtain ⟨q1, q2, q3, q4, q5⟩ := right_t h2
  obtain ⟨m1, m2⟩ := mul_bd a d p3 p4 (by omega) q2
  obtain ⟨m3, m4⟩ := mul_bd c b q3 q4 (by omega) p2
  have hy : ¬ a * d < c * b := by omega
  have e1 : (a == c) = false := by rw [beq_eq_false_iff_ne]; exact hk
  have st := st25
  have HH : Hid ((rightB a b && rightB c d) = true) := h
  clear h h1 h2 p5 q5 hk
  go_enter Try.func73, Try.ntmps73
  go_wp2_with fail
  refine (any2_t a b c d HH.out _ _ ?_ ?_ ?_ ?_).mono ?_
  · exact cell_new (by simp) rfl
  · exact cell_new (by simp) rfl
  · exact cell_new (by simp) rfl
  · exact cell_new (by simp) rfl
  rintro e w1 ⟨rfl, hb0⟩
  have hb1 := box_in hb0
  clear hb0
  have H1 : Hid (Below w.heap.size w w1) := by refine box_step ?_ hb1 (by simp); go_grown
  have c0 := hb1.cell (p := ⟨w.heap.size, 0, none⟩) (by simp <;> omega)
  have c1 := hb1.cell (p := ⟨w.heap.size, 1, none⟩) (by simp <;> omega)
  have c2 := hb1.cell (p := ⟨w.heap.size + 1, 0, none⟩) (by simp)
  have c3 := hb1.cell (p := ⟨w.heap.size + 1, 1, none⟩) (by simp)
  simp at c0 c1 c2 c3
  clear hb1
  go_wp2
  go_ret
  exact ⟨rfl, H1.out⟩
set_option maxRecDepth 4000 in
set_option maxHeartbeats 400000 in
theorem icmp_gt_b (a b c d : Int) (w : World) (h : (rightB a b && rightB c d) = true) (hx : c * b < a * d) (hk : a = c ∧ b ≠ d) :
    Calls Try.prog 73 #[.agg #[.int .i64 a, .int .i64 b], .agg #[.int .i64 c, .int .i64 d]] w fun e w' => e = .returned (.int .i64 (cmpF a b c d)) ∧ Below w.heap.size w w' := by
  rw [show cmpF a b c d = 1 by simp only [cmpF, h, if_true]; rw [if_neg (show ¬ a * d < c * b by omega), if_pos hx]]
  obtain ⟨h1, h2⟩ : rightB a b = true ∧ rightB c d = true := by simpa using h
  obtain ⟨p1, p2, p3, p4, p5⟩ := right_t h1
  obtain ⟨q1, q2, q3, q4, q5⟩ := right_t h2
  obtain ⟨m1, m2⟩ := mul_bd a d p3 p4 (by omega) q2
  obtain ⟨m3, m4⟩ := mul_bd c b q3 q4 (by omega) p2
  have hy : ¬ a * d < c * b := by omega
  have e1 : (a == c) = true := by rw [beq_iff_eq]; exact hk.1
  have e2 : (b == d) = false := by rw [beq_eq_false_iff_ne]; exact hk.2
  have st := st25
  have HH : Hid ((rightB a b && rightB c d) = true) := h
  clear h h1 h2 p5 q5 hk
  go_enter Try.func73, Try.ntmps73
  go_wp2_with fail
  refine (any2_t a b c d HH.out _ _ ?_ ?_ ?_ ?_).mono ?_
  · exact cell_new (by simp) rfl
  · exact cell_new (by simp) rfl
  · exact cell_new (by simp) rfl
  · exact cell_new (by simp) rfl
  rintro e w1 ⟨rfl, hb0⟩
  have hb1 := box_in hb0
  clear hb0
  have H1 : Hid (Below w.heap.size w w1) := by refine box_step ?_ hb1 (by simp); go_grown
  have c0 := hb1.cell (p := ⟨w.heap.size, 0, none⟩) (by simp <;> omega)
  have c1 := hb1.cell (p := ⟨w.heap.size, 1, none⟩) (by simp <;> omega)
  have c2 := hb1.cell (p := ⟨w.heap.size + 1, 0, none⟩) (by simp)
  have c3 := hb1.cell (p := ⟨w.heap.size + 1, 1, none⟩) (by simp)
  simp at c0 c1 c2 c3
  clear hb1
  go_wp2
  go_ret
  exact ⟨rfl, H1.out⟩
set_option maxHeartbeats 400000 in
theorem icmp_eq (a b : Int) (w : World) (h : rightB a b = true) :
    Calls Try.prog 73 #[.agg #[.int .i64 a, .int .i64 b], .agg #[.int .i64 a, .int .i64 b]] w fun e w' => e = .returned (.int .i64 (cmpF a b a b)) ∧ Below w.heap.size w w' := by
  rw [show cmpF a b a b = 0 by simp only [cmpF, h, Bool.and_self, if_true]; rw [if_neg (by omega), if_neg (by omega)]]
  have st := st25
  have HH : Hid ((rightB a b && rightB a b) = true) := by rw [h]; rfl
  clear h
  go_enter Try.func73, Try.ntmps73
  go_wp2_with fail
  refine (any2_t a b a b HH.out _ _ ?_ ?_ ?_ ?_).mono ?_
  · exact cell_new (by simp) rfl
  · exact cell_new (by simp) rfl
  · exact cell_new (by simp) rfl
  · exact cell_new (by simp) rfl
  rintro e w1 ⟨rfl, hb0⟩
  have hb1 := box_in hb0
  clear hb0
  have H1 : Hid (Below w.heap.size w w1) := by refine box_step ?_ hb1 (by simp); go_grown
  have c0 := hb1.cell (p := ⟨w.heap.size, 0, none⟩) (by simp <;> omega)
  have c1 := hb1.cell (p := ⟨w.heap.size, 1, none⟩) (by simp <;> omega)
  have c2 := hb1.cell (p := ⟨w.heap.size + 1, 0, none⟩) (by simp)
  have c3 := hb1.cell (p := ⟨w.heap.size + 1, 1, none⟩) (by simp)
  simp at c0 c1 c2 c3
  clear hb1
  go_wp2
  go_ret
  exact ⟨rfl, H1.out⟩
theorem icmp (a b c d : Int) (w : World) :
    Calls Try.prog 73 #[.agg #[.int .i64 a, .int .i64 b], .agg #[.int .i64 c, .int .i64 d]] w fun e w' => e = .returned (.int .i64 (cmpF a b c d)) ∧ Below w.heap.size w w' := by
  cases h : (rightB a b && rightB c d)
  · exact icmp_no a b c d w h
  obtain ⟨h1, h2⟩ : rightB a b = true ∧ rightB c d = true := by simpa using h
  rcases Int.lt_trichotomy (a * d) (c * b) with hx | hx | hx
  · by_cases hk : a = c
    · by_cases hk2 : b = d
      · subst hk hk2; exact icmp_eq a b w h1
      · exact icmp_lt_b a b c d w h hx ⟨hk, hk2⟩
    · exact icmp_lt_a a b c d w h hx hk
  · obtain ⟨p1, _, _, _, p5⟩ := right_t h1
    obtain ⟨q1, _, _, _, q5⟩ := right_t h2
    obtain ⟨rfl, rfl⟩ := Fm.cross a b c d p1 q1 p5 q5 hx
    exact icmp_eq a b w h1
  · by_cases hk : a = c
    · by_cases hk2 : b = d
      · subst hk hk2; exact icmp_eq a b w h1
      · exact icmp_gt_b a b c d w h hx ⟨hk, hk2⟩
    · exact icmp_gt_a a b c d w h hx hk
end Go.Proofs.Ytkkajcdjkfbcgaa
