/- Two fractions, both right or not; comparing, and the floor: the specification's and the program's way. -/
import Derived.Test.YtkkajcdjkfbcgaaLow
import Derived.Handy
namespace Go.Proofs.Ytkkajcdjkfbcgaa
open Go.RowKit
theorem fault_eq (n d : Int) : (fault n d == 0) = rightB n d := by unfold fault; cases rightB n d <;> simp
theorem fault_ne (n d : Int) : (fault n d != 0) = !rightB n d := by unfold fault; cases rightB n d <;> simp
theorem right_t {n d : Int} (h : rightB n d = true) : 1 ≤ d ∧ d ≤ 1000000000 ∧ -1000000000 ≤ n ∧ n ≤ 1000000000 ∧ Int.gcd n d = 1 := by
  unfold rightB at h
  simp only [Bool.and_eq_true, decide_eq_true_eq] at h
  obtain ⟨a, b, c, d⟩ := inB_t h.1
  exact ⟨a, b, c, d, h.2⟩
set_option maxHeartbeats 400000 in
theorem both_1 (a b c d : Int) (w : World) (h : rightB a b = false) :
    Calls Try.prog 74 #[.agg #[.int .i64 a, .int .i64 b], .agg #[.int .i64 c, .int .i64 d]] w fun e w' => e = .returned (.bool (rightB a b && rightB c d)) ∧ Below w.heap.size w w' := by
  rw [h]
  have q := fault_eq a b
  rw [h] at q
  go_enter Try.func74, Try.ntmps74
  go_wp2_with fail
  refine (sfault a b _).mono ?_
  rintro e w1 ⟨rfl, hb1⟩
  have H1 : Below w.heap.size w w1 := by refine box_step ?_ hb1 (by simp); go_grown
  clear hb1
  go_wp2
  go_ret
  exact ⟨rfl, H1⟩
set_option maxHeartbeats 400000 in
theorem both_2 (a b c d : Int) (w : World) (h : rightB a b = true) :
    Calls Try.prog 74 #[.agg #[.int .i64 a, .int .i64 b], .agg #[.int .i64 c, .int .i64 d]] w fun e w' => e = .returned (.bool (rightB a b && rightB c d)) ∧ Below w.heap.size w w' := by
  rw [h]
  have q := fault_eq a b
  have q2 := fault_eq c d
  rw [h] at q
  go_enter Try.func74, Try.ntmps74
  go_wp2_with fail
  refine (sfault a b _).mono ?_
  rintro e w1 ⟨rfl, hb1⟩
  have H1 : Hid (Below w.heap.size w w1) := by refine box_step ?_ hb1 (by simp); go_grown
  have c0 := hb1.cell (p := ⟨w.heap.size + 1, 0, none⟩) (by simp)
  have c1 := hb1.cell (p := ⟨w.heap.size + 1, 1, none⟩) (by simp)
  simp at c0 c1
  clear hb1
  go_wp2_with fail
  refine (sfault c d _).mono ?_
  rintro e w2 ⟨rfl, hb2⟩
  have H2 : Below w.heap.size w w2 := box_step H1.out hb2 (Nat.le_refl _)
  clear hb2
  go_wp2
  go_ret
  exact ⟨by simp, H2⟩
theorem both (a b c d : Int) (w : World) :
    Calls Try.prog 74 #[.agg #[.int .i64 a, .int .i64 b], .agg #[.int .i64 c, .int .i64 d]] w fun e w' => e = .returned (.bool (rightB a b && rightB c d)) ∧ Below w.heap.size w w' := by
  cases h : rightB a b
  · have := both_1 a b c d w h
    rwa [h] at this
  · have := both_2 a b c d w h
    rwa [h] at this
/-- The floor of a right fraction; nought of another. -/
def floorF (n d : Int) : Int := if rightB n d = true then (if n.tmod d < 0 then n.tdiv d - 1 else n.tdiv d) else 0
/-- -1, 0, 1 of two right fractions; 0 else. -/
def cmpF (a b c d : Int) : Int := if (rightB a b && rightB c d) = true then (if a * d < c * b then -1 else if c * b < a * d then 1 else 0) else 0
theorem mul_bd (a d : Int) (h1 : -1000000000 ≤ a) (h2 : a ≤ 1000000000) (h3 : -1000000000 ≤ d) (h4 : d ≤ 1000000000) : -1000000000000000000 ≤ a * d ∧ a * d ≤ 1000000000000000000 := by
  have : (a * d).natAbs ≤ 1000000000 * 1000000000 := by rw [Int.natAbs_mul]; exact Nat.mul_le_mul (by omega) (by omega)
  omega
theorem both_f (a b c d : Int) (h : (rightB a b && rightB c d) = false) (w : World) :
    Calls Try.prog 74 #[.agg #[.int .i64 a, .int .i64 b], .agg #[.int .i64 c, .int .i64 d]] w fun e w' => e = .returned (.bool false) ∧ Below w.heap.size w w' := by
  have := both a b c d w
  rwa [h] at this
theorem both_t (a b c d : Int) (h : (rightB a b && rightB c d) = true) (w : World) :
    Calls Try.prog 74 #[.agg #[.int .i64 a, .int .i64 b], .agg #[.int .i64 c, .int .i64 d]] w fun e w' => e = .returned (.bool true) ∧ Below w.heap.size w w' := by
  have := both a b c d w
  rwa [h] at this
set_option maxHeartbeats 400000 in
theorem scmp_no (a b c d : Int) (w : World) (h : (rightB a b && rightB c d) = false) :
    Calls Try.prog 21 #[.agg #[.int .i64 a, .int .i64 b], .agg #[.int .i64 c, .int .i64 d]] w fun e w' => e = .returned (.int .i64 (cmpF a b c d)) ∧ Below w.heap.size w w' := by
  rw [show cmpF a b c d = 0 by simp only [cmpF, h, Bool.false_eq_true, if_false]]
  have HH : Hid ((rightB a b && rightB c d) = false) := h
  clear h
  go_enter Try.func21, Try.ntmps21
  go_wp2_with fail
  refine (both_f a b c d HH.out _).mono ?_
  rintro e w1 ⟨rfl, hb1⟩
  have H1 : Below w.heap.size w w1 := by refine box_step ?_ hb1 (by simp); go_grown
  clear hb1
  go_wp2
  go_ret
  exact ⟨rfl, H1⟩
set_option maxHeartbeats 400000 in
theorem scmp_lt (a b c d : Int) (w : World) (h : (rightB a b && rightB c d) = true) (hx : a * d < c * b) :
    Calls Try.prog 21 #[.agg #[.int .i64 a, .int .i64 b], .agg #[.int .i64 c, .int .i64 d]] w fun e w' => e = .returned (.int .i64 (cmpF a b c d)) ∧ Below w.heap.size w w' := by
  rw [show cmpF a b c d = -1 by simp only [cmpF, h, if_true]; rw [if_pos hx]]
  obtain ⟨h1, h2⟩ : rightB a b = true ∧ rightB c d = true := by simpa using h
  obtain ⟨p1, p2, p3, p4, p5⟩ := right_t h1
  obtain ⟨q1, q2, q3, q4, q5⟩ := right_t h2
  obtain ⟨m1, m2⟩ := mul_bd a d p3 p4 (by omega) q2
  obtain ⟨m3, m4⟩ := mul_bd c b q3 q4 (by omega) p2
  have HH : Hid ((rightB a b && rightB c d) = true) := h
  clear h h1 h2 p5 q5
  go_enter Try.func21, Try.ntmps21
  go_wp2_with fail
  refine (both_t a b c d HH.out _).mono ?_
  rintro e w1 ⟨rfl, hb1⟩
  have H1 : Hid (Below w.heap.size w w1) := by refine box_step ?_ hb1 (by simp); go_grown
  have c0 := hb1.cell (p := ⟨w.heap.size, 0, none⟩) (by simp <;> omega)
  have c1 := hb1.cell (p := ⟨w.heap.size, 1, none⟩) (by simp <;> omega)
  have c2 := hb1.cell (p := ⟨w.heap.size + 1, 0, none⟩) (by simp)
  have c3 := hb1.cell (p := ⟨w.heap.size + 1, 1, none⟩) (by simp)
  simp at c0 c1 c2 c3
  clear hb1
  go_wp2
  go_ret
  exact ⟨rfl, H1.out⟩
set_option maxHeartbeats 400000 in
theorem scmp_gt (a b c d : Int) (w : World) (h : (rightB a b && rightB c d) = true) (hx : c * b < a * d) :
    Calls Try.prog 21 #[.agg #[.int .i64 a, .int .i64 b], .agg #[.int .i64 c, .int .i64 d]] w fun e w' => e = .returned (.int .i64 (cmpF a b c d)) ∧ Below w.heap.size w w' := by
  rw [show cmpF a b c d = 1 by simp only [cmpF, h, if_true]; rw [if_neg (show ¬ a * d < c * b by omega), if_pos hx]]
  obtain ⟨h1, h2⟩ : rightB a b = true ∧ rightB c d = true := by simpa using h
  obtain ⟨p1, p2, p3, p4, p5⟩ := right_t h1
  obtain ⟨q1, q2, q3, q4, q5⟩ := right_t h2
  obtain ⟨m1, m2⟩ := mul_bd a d p3 p4 (by omega) q2
  obtain ⟨m3, m4⟩ := mul_bd c b q3 q4 (by omega) p2
  have hy : ¬ a * d < c * b := by omega
  have HH : Hid ((rightB a b && rightB c d) = true) := h
  clear h h1 h2 p5 q5
  go_enter Try.func21, Try.ntmps21
  go_wp2_with fail
  refine (both_t a b c d HH.out _).mono ?_
  rintro e w1 ⟨rfl, hb1⟩
  have H1 : Hid (Below w.heap.size w w1) := by refine box_step ?_ hb1 (by simp); go_grown
  have c0 := hb1.cell (p := ⟨w.heap.size, 0, none⟩) (by simp <;> omega)
  have c1 := hb1.cell (p := ⟨w.heap.size, 1, none⟩) (by simp <;> omega)
  have c2 := hb1.cell (p := ⟨w.heap.size + 1, 0, none⟩) (by simp)
  have c3 := hb1.cell (p := ⟨w.heap.size + 1, 1, none⟩) (by simp)
  simp at c0 c1 c2 c3
  clear hb1
  go_wp2
  go_ret
  exact ⟨rfl, H1.out⟩
set_option maxHeartbeats 400000 in
theorem scmp_eq (a b c d : Int) (w : World) (h : (rightB a b && rightB c d) = true) (hx : a * d = c * b) :
    Calls Try.prog 21 #[.agg #[.int .i64 a, .int .i64 b], .agg #[.int .i64 c, .int .i64 d]] w fun e w' => e = .returned (.int .i64 (cmpF a b c d)) ∧ Below w.heap.size w w' := by
  rw [show cmpF a b c d = 0 by simp only [cmpF, h, if_true]; rw [if_neg (show ¬ a * d < c * b by omega), if_neg (show ¬ c * b < a * d by omega)]]
  obtain ⟨h1, h2⟩ : rightB a b = true ∧ rightB c d = true := by simpa using h
  obtain ⟨p1, p2, p3, p4, p5⟩ := right_t h1
  obtain ⟨q1, q2, q3, q4, q5⟩ := right_t h2
  obtain ⟨m1, m2⟩ := mul_bd a d p3 p4 (by omega) q2
  obtain ⟨m3, m4⟩ := mul_bd c b q3 q4 (by omega) p2
  have hy : ¬ a * d < c * b := by omega
  have hy2 : ¬ c * b < a * d := by omega
  have HX : Hid (a * d = c * b) := hx
  clear hx
  have HH : Hid ((rightB a b && rightB c d) = true) := h
  clear h h1 h2 p5 q5
  go_enter Try.func21, Try.ntmps21
  go_wp2_with fail
  refine (both_t a b c d HH.out _).mono ?_
  rintro e w1 ⟨rfl, hb1⟩
  have H1 : Hid (Below w.heap.size w w1) := by refine box_step ?_ hb1 (by simp); go_grown
  have c0 := hb1.cell (p := ⟨w.heap.size, 0, none⟩) (by simp <;> omega)
  have c1 := hb1.cell (p := ⟨w.heap.size, 1, none⟩) (by simp <;> omega)
  have c2 := hb1.cell (p := ⟨w.heap.size + 1, 0, none⟩) (by simp)
  have c3 := hb1.cell (p := ⟨w.heap.size + 1, 1, none⟩) (by simp)
  simp at c0 c1 c2 c3
  clear hb1
  go_wp2
  go_ret
  exact ⟨rfl, H1.out⟩
theorem scmp (a b c d : Int) (w : World) :
    Calls Try.prog 21 #[.agg #[.int .i64 a, .int .i64 b], .agg #[.int .i64 c, .int .i64 d]] w fun e w' => e = .returned (.int .i64 (cmpF a b c d)) ∧ Below w.heap.size w w' := by
  cases h : (rightB a b && rightB c d)
  · exact scmp_no a b c d w h
  rcases Int.lt_trichotomy (a * d) (c * b) with hx | hx | hx
  · exact scmp_lt a b c d w h hx
  · exact scmp_eq a b c d w h hx
  · exact scmp_gt a b c d w h hx
end Go.Proofs.Ytkkajcdjkfbcgaa
